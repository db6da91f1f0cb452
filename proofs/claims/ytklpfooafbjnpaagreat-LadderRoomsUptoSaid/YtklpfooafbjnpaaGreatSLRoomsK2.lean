/-
  My own texts,without what this claim does not need. My own text.
-/
import Derived.Tactics
import Derived.IntWalk
import Derived.Laws.AppendOwn
import Derived.Test.YtklpfooafbjnpaaGreatSLRoomsK1
set_option maxRecDepth 100000
set_option maxHeartbeats 64000000
set_option linter.unusedVariables false
set_option linter.unusedSimpArgs false
set_option linter.unusedSectionVars false
namespace Go.Proofs.YtklpfooafbjnpaaGreat
open Go.RowKit
abbrev aQ(v:Value):ag := .w (.one (.c v))
abbrev aL(n:Int):ag:=aQ (.int .i64 n)
abbrev bl(b:Bool):ag:=aQ (.bool b)
abbrev nS(k off:Nat):ag := .w (.one (.own k off))
def lG(P:Program)(ty:TypeId):Option (Bool×Nat) :=
 match P.underlying ty,P.info? ty with
 | some (.struct _),some i|some (.array _ _),some i=>some (true,i.size)
 | some _,some i=>some (false,i.size)
 | _,_=>none
class e7 (P:Program) (ty:TypeId) (agg:outParam Bool) (n:outParam Nat):Prop where
 h:lG P ty=some (agg,n)
def zeroOf(P:Program)(ty:TypeId):Option (List Value):=((P.info? ty).bind (·.zero)).map fun z=>z.cells.toList
class DX (P:Program) (ty:TypeId) (vs:outParam (List Value)):Prop where
 h:zeroOf P ty=some vs
def wT(P:Program)(ty:TypeId)(i:Nat):Option Nat :=
 match P.underlying ty with
 | some (.struct bq)=>(bq[i]?).bind fun f=>(P.info? f.type).bind fun t=>if t.size=0 then none else some f.offset
 | _=>none
class qH (P:Program) (ty:TypeId) (i:Nat) (off:outParam Nat):Prop where
 h:wT P ty i=some off
def Ec(P:Program)(ty:TypeId):Option (Nat×Nat) :=
 match P.underlying ty with
 | some (.array n e)=>(P.info? e).map fun t=>(n,t.size)
 | _=>none
class M2 (P:Program) (ty:TypeId) (n size:outParam Nat):Prop where
 h:Ec P ty=some (n,size)
def uB(P:Program)(ty:TypeId):Option Nat :=
 match P.underlying ty with
 | some (.slice e)=>(P.info? e).map fun t=>t.size
 | _=>none
class hH (P:Program) (ty:TypeId) (size:outParam Nat):Prop where
 h:uB P ty=some size
def GJ(P:Program)(ty:TypeId):Option (List (Nat×Nat)) :=
 match P.underlying ty with
 | some (.struct bq)=>bq.toList.mapM fun f=>(P.info? f.type).map fun t=>(f.offset,t.size)
 | some (.array n e)=>bif Nat.ble n 32 then(P.info? e).map fun t=>(List.range n).map fun i=>(i*t.size,t.size) else none
 | _=>none
class Nt (P:Program) (ty:TypeId) (ps:outParam (List (Nat×Nat))):Prop where
 h:GJ P ty=some ps
class HO (P:Program) (ty:TypeId) (k:outParam IntKind):Prop where
 h:P.underlying ty=some (.int k)
class Enters (P:Program) (f:FuncId):Prop where
 h:enters P f=true
def takeN:List AC→Nat→Nat→Option (List AC)
 | _,0,0=>some []
 | [],_,_=>none
 | c::cs,0,n+1=>match takeN cs 0 n with
  | some r=>some (c::r)
  | none=>none
 | _::cs,off+1,n=>takeN cs off n
def qx:List AC→Nat→List AC→Option (List AC)
 | cs,0,[]=>some cs
 | [],_,_=>none
 | _::cs,0,d::ds=>match qx cs 0 ds with
  | some r=>some (d::r)
  | none=>none
 | c::cs,off+1,ds=>match qx cs off ds with
  | some r=>some (c::r)
  | none=>none
theorem Hj:∀(cs:List AC) (off n:Nat) (r:List AC),takeN cs off n=some r→off+n≤cs.length∧(cs.drop off).take n=r
 | cs,0,0,r,h=>by
  cases cs <;> (simp only[takeN,iE] at h;subst h;simp)
 | [],0,n+1,r,h=>by simp[takeN] at h
 | [],off+1,n,r,h=>by cases n <;> simp[takeN] at h
 | c::cs,0,n+1,r,h=>by
  simp only[takeN] at h
  split at h
  ·rename_i bb ao;cases h;have:=Hj cs 0 n bb ao;simp at this ⊢;exact this
  ·cases h
 | c::cs,off+1,n,r,h=>by
  have aK:takeN cs off n=some r:=by cases n <;> simpa [takeN] using h
  have:=Hj cs off n r aK;exact⟨by have:=this.1;simp;omega,by simpa using this.2⟩
theorem CM:∀(cs:List AC) (off:Nat) (ds:List AC) (r:List AC),qx cs off ds=some r→off+ds.length≤cs.length∧eP cs off ds=r
 | cs,0,[],r,h=>by
  cases cs <;> (simp only[qx,iE] at h;subst h;simp[eP])
 | [],0,d::ds,r,h=>by simp[qx] at h
 | [],off+1,ds,r,h=>by cases ds <;> simp[qx] at h
 | c::cs,0,d::ds,r,h=>by
  simp only[qx] at h
  split at h
  ·rename_i bb ao;cases h;have:=CM cs 0 ds bb ao;simp[eP] at this ⊢;exact this
  ·cases h
 | c::cs,off+1,ds,r,h=>by
  simp only[qx] at h
  split at h
  ·rename_i bb ao;cases h;have:=CM cs off ds bb ao;simp[eP,Nat.add_right_comm] at this ⊢;exact this
  ·cases h
section
variable{P:Program}{s s':aB}{o:Oper}{ops:Array Oper}{rest:List Oper}{K:aB→Prop}
theorem dR(h:K s):bm P ops K [] s:=h
theorem NW{prs:List (Nat×Nat)}(hs:prs.all (nQ s)=true)(h:K s):bm P ops (fun s=>prs.all (nQ s)=true∧K s) [] s:=⟨hs,h⟩
theorem sc{e:cC}(hw:want ops o s=some true)(he:fa P s.n s.look s.mem o true e)(hd:∀d,o.dst=some d→d<s.n)(h:bm P ops K rest (e.on o.dst s)):bm P ops K (o::rest) s:=⟨true,hw,e,he,hd,h⟩
section
variable{d ty:Nat}{op:Op}{pos:String}{after:Array Edge}{guard:Option (Nat×Bool)}
theorem mb{d:Nat}(hd:Nat.blt d s.n=true):∀d',some d=some d'→d'<s.n:=fun d' e=>by cases e;simpa [lC] using hd
theorem NX{dst:Option Nat}(hw:want ops ⟨dst,op,ty,pos,after,guard⟩ s=some false)(hd:∀d,dst=some d→Nat.blt d s.n=true)(h:bm P ops K rest (s.put dst (.cl []))):bm P ops K (⟨dst,op,ty,pos,after,guard⟩::rest) s :=
 ⟨false,hw,_,.skip,fun d e=>by have:=hd d e;simpa [lC] using this,h⟩
theorem fZ{av:ag}(hw:want ops ⟨some d,op,ty,pos,after,guard⟩ s=some true)(aj:yd P s.look ⟨some d,op,ty,pos,after,guard⟩ av)(hd:Nat.blt d s.n=true)(h:bm P ops K rest (s.put (some d) av)):bm P ops K (⟨some d,op,ty,pos,after,guard⟩::rest) s :=
 sc hw (.quiet av aj) (mb hd) h
theorem YU{x:Operand}{av:ag}(hw:want ops ⟨some d,.move x,ty,pos,after,guard⟩ s=some true)(ab:s.look x=some av)(hd:Nat.blt d s.n=true)(h:bm P ops K rest (s.put (some d) av)):bm P ops K (⟨some d,.move x,ty,pos,after,guard⟩::rest) s:=by
 refine fZ hw ⟨fun _ _ h=>(by cases h),fun y ai => ?_,fun U ad W env he=>⟨env x,rfl,he x (by simp[Op.operands]) av ab⟩,fun j af=>⟨x,by simp[Op.operands],av,ab,af⟩⟩ hd h;simp[Op.operands] at ai;subst ai;exact⟨av,ab⟩
theorem Yu{x:Operand}{av:ag}(hw:want ops ⟨some d,.assign x,ty,pos,after,guard⟩ s=some true)(ab:s.look x=some av)(hd:Nat.blt d s.n=true)(h:bm P ops K rest (s.put (some d) av)):bm P ops K (⟨some d,.assign x,ty,pos,after,guard⟩::rest) s:=by
 refine fZ hw ⟨fun _ _ h=>(by cases h),fun y ai => ?_,fun U ad W env he=>⟨env x,rfl,he x (by simp[Op.operands]) av ab⟩,fun j af=>⟨x,by simp[Op.operands],av,ab,af⟩⟩ hd h;simp[Op.operands] at ai;subst ai;exact⟨av,ab⟩
theorem YG{x:Operand}{i:Nat}{xs:List bG}{y:bG}(hw:want ops ⟨some d,.extract x i,ty,pos,after,guard⟩ s=some true)(ab:s.look x=some (.cl xs))(hi:xs[i]?=some y)(hd:Nat.blt d s.n=true)(h:bm P ops K rest (s.put (some d) (.w y))):bm P ops K (⟨some d,.extract x i,ty,pos,after,guard⟩::rest) s:=by
 refine fZ (av := .w y) hw ⟨fun _ _ h=>(by cases h),fun y ai => ?_,fun U ad W env he => ?_,fun j af=>⟨x,by simp[Op.operands],_,ab,⟨y,cN hi,af⟩⟩⟩ hd h
 ·simp[Op.operands] at ai;subst ai;exact⟨_,ab⟩
 ·obtain⟨vs,e,al,hv⟩:=he x (by simp[Op.operands]) _ ab;have a7:i<vs.length:=by rw[←al];exact(bt.1 hi).1
  refine⟨vs[i],?_,hv i y _ hi (bE a7)⟩;simp only[execOp,Instr.extract,e];simp[a7]
theorem YI{x:Operand}{xU i k off kt:Nat} [F:qH P xU i kt](hw:want ops ⟨some d,.fieldAddr xU x i,ty,pos,after,guard⟩ s=some true)(ab:s.look x=some (nS k off))(hd:Nat.blt d s.n=true)(h:bm P ops K rest (s.put (some d) (nS k (off+kt)))):bm P ops K (⟨some d,.fieldAddr xU x i,ty,pos,after,guard⟩::rest) s:=by
 refine fZ hw ⟨fun _ _ h=>(by cases h),fun y ai => ?_,fun U ad W env he => ?_,fun j af=>⟨x,by simp[Op.operands],_,ab,?_⟩⟩ hd h
 ·simp[Op.operands] at ai;subst ai;exact⟨_,ab⟩
 ·have hp:env x = .pointer (some ⟨ad k,off,none⟩):=he x (by simp[Op.operands]) _ ab;have hF:=F.h;unfold wT at hF
  split at hF
  ·rename_i bq hu;cases au:bq[i]? with
   | none=>rw[au] at hF;cases hF
   | some f =>
    rw[au] at hF;simp only[lW] at hF;cases hi:P.info? f.type with
    | none=>rw[hi] at hF;cases hF
    | some t =>
     rw[hi] at hF;simp only[lW] at hF
     split at hF
     ·cases hF
     ·rename_i cA;cases hF;refine⟨.pointer (some ⟨ad k,off+f.offset,none⟩),?_,rfl⟩;have lQ:(⟨ad k,off,none⟩:Addr).add f.offset=⟨ad k,off+f.offset,none⟩:=by unfold Addr.add;split <;> simp_all
      simp only[execOp,Instr.fieldAt,hp,Instr.sureAddr,Sem.run_bind,Sem.run_pure,Result.andThen_ok,run_underlying hu,au,fieldPlace,ij hi,if_neg cA,lQ]
  ·cases hF
 ·obtain⟨y,ai,nF⟩:=af;exact⟨.own k off,by simp[bG.cells],by simp[bG.cells] at ai;subst ai;exact nF⟩
theorem NU{x y:Operand}{Io k off n size:Nat}{gK:IntKind}{i:Int} [A:M2 P Io n size](hw:want ops ⟨some d,.indexAddr Io x y,ty,pos,after,guard⟩ s=some true)(ab:s.look x=some (nS k off))(ai:s.look y=some (aQ (.int gK i)))(aF:0≤i)(h1:i<n)(hd:Nat.blt d s.n=true)(h:bm P ops K rest (s.put (some d) (nS k (off+i.toNat*size)))):bm P ops K (⟨some d,.indexAddr Io x y,ty,pos,after,guard⟩::rest) s:=by
 refine fZ hw ⟨fun _ _ h=>(by cases h),fun z aT => ?_,fun U ad W env he => ?_,fun j af=>⟨x,by simp[Op.operands],_,ab,?_⟩⟩ hd h
 ·simp[Op.operands] at aT;rcases aT with rfl|rfl
  ·exact⟨_,ab⟩
  ·exact⟨_,ai⟩
 ·have hp:env x = .pointer (some ⟨ad k,off,none⟩):=he x (by simp[Op.operands]) _ ab;have hi:env y = .int gK i:=(he y (by simp[Op.operands]) _ ai).1;have cr:=A.h;unfold Ec at cr
  split at cr
  ·rename_i n' e hu;cases b7:P.info? e with
   | none=>rw[b7] at cr;cases cr
   | some t =>
    rw[b7] at cr;cases cr;refine⟨.pointer (some ⟨ad k,off+i.toNat*t.size,none⟩),?_,rfl⟩;have lQ:(⟨ad k,off,none⟩:Addr).add (i.toNat*t.size)=⟨ad k,off+i.toNat*t.size,none⟩:=by unfold Addr.add;split <;> simp_all
    simp only[execOp,Instr.indexAt,hp,hi,asIntOf,Instr.sureAddr,Sem.run_bind,Sem.run_pure,Result.andThen_ok,run_underlying hu,ij b7,if_pos (And.intro aF h1),lQ]
  ·cases cr
 ·obtain⟨y,ai,nF⟩:=af;exact⟨.own k off,by simp[bG.cells],by simp[bG.cells] at ai;subst ai;exact nF⟩
theorem V3{ty n:Nat}(h:lG P ty=some (false,n)){cs:List AC}{off:Nat}{y:AC}(ak:cs[off]?=some y):pick P ty cs off=some (.one y):=by
 unfold lG at h;unfold pick;cases hu:P.underlying ty with
 | none=>rw[hu] at h;cases h
 | some D =>
  cases hi:P.info? ty with
  | none=>rw[hu,hi] at h;cases D <;> cases h
  | some i =>
   rw[hu,hi] at h;cases D <;> first|(simp only[ak,gD];done)|(exfalso;cases h)
theorem V2{ty n:Nat}(h:lG P ty=some (true,n)){cs ys:List AC}{off:Nat}(ak:takeN cs off n=some ys):pick P ty cs off=some (.agg ys):=by
 obtain⟨h1,h2⟩:=Hj _ _ _ _ ak;unfold lG at h;unfold pick
 split at h
 ·rename_i i hu hi;cases h;simp only[hu,hi,lW,if_pos h1,h2]
 ·rename_i i hu hi;cases h;simp only[hu,hi,lW,if_pos h1,h2]
 ·cases h
 ·cases h
theorem amh{ty n:Nat}{b:Bool}(h:lG P ty=some (b,n)):∃i,P.info? ty=some i∧i.size=n:=by
 unfold lG at h
 split at h
 ·rename_i i hu hi;cases h;exact⟨i,hi,rfl⟩
 ·rename_i i hu hi;cases h;exact⟨i,hi,rfl⟩
 ·rename_i i _ _ hu hi;cases h;exact⟨_,hi,rfl⟩
 ·cases h
theorem YO{x:Operand}{lt k off n:Nat}{cs:List AC}{y:AC} [T:e7 P lt false n](hw:want ops ⟨some d,.load lt x,ty,pos,after,guard⟩ s=some true)(ab:s.look x=some (nS k off))(hm:s.mem k=some cs)(ak:cs[off]?=some y)(hd:Nat.blt d s.n=true)(h:bm P ops K rest (s.put (some d) (.w (.one y)))):bm P ops K (⟨some d,.load lt x,ty,pos,after,guard⟩::rest) s :=
 sc hw (.load lt x k off cs _ rfl ab hm (V3 T.h ak)) (mb hd) h
theorem YP{x:Operand}{lt k off n:Nat}{cs ys:List AC} [T:e7 P lt true n](hw:want ops ⟨some d,.load lt x,ty,pos,after,guard⟩ s=some true)(ab:s.look x=some (nS k off))(hm:s.mem k=some cs)(ak:takeN cs off n=some ys)(hd:Nat.blt d s.n=true)(h:bm P ops K rest (s.put (some d) (.w (.agg ys)))):bm P ops K (⟨some d,.load lt x,ty,pos,after,guard⟩::rest) s :=
 sc hw (.load lt x k off cs _ rfl ab hm (V2 T.h ak)) (mb hd) h
theorem Zd{x y:Operand}{st k off n:Nat}{b:Bool}{cs ds:List AC}{z:bG} [T:e7 P st b n](hw:want ops ⟨none,.store st x y,ty,pos,after,guard⟩ s=some true)(ab:s.look x=some (nS k off))(ai:s.look y=some (.w z))(hm:s.mem k=some cs)(aA:Nat.beq n z.cells.length=true)(hp:qx cs off z.cells=some ds)(h:bm P ops K rest (s.ep k ds)):bm P ops K (⟨none,.store st x y,ty,pos,after,guard⟩::rest) s:=by
 obtain⟨i,hi,hs⟩:=amh T.h;obtain⟨h1,h2⟩:=CM _ _ _ _ hp;refine sc hw (.store st x y k off cs z i rfl ab ai hm hi (by rw[hs];exact gl aA) h1) (fun d e=>by cases e) ?_;simp only[cC.on,h2];exact h
theorem Yt{jf:Nat}{vs:List Value} [Z:DX P jf vs](hw:want ops ⟨some d,.alloc jf,ty,pos,after,guard⟩ s=some true)(hm:s.mem d=none)(h1:(vs.all fun v=>v.oneCell')=true)(hd:Nat.blt d s.n=true)(h:bm P ops K rest ((s.ep d (vs.map .c)).put (some d) (nS d 0))):bm P ops K (⟨some d,.alloc jf,ty,pos,after,guard⟩::rest) s:=by
 have aT:=Z.h;unfold zeroOf at aT;cases hi:P.info? jf with
 | none=>rw[hi] at aT;cases aT
 | some i =>
  rw[hi] at aT;simp only[lW] at aT;cases iA:i.zero with
  | none=>rw[iA] at aT;cases aT
  | some z =>
   rw[iA] at aT;cases aT;exact sc hw (.new _ d rfl hm (.alloc jf i z _ rfl hi iA rfl h1)) (mb hd) h
theorem Yv{Iy:Nat}{x:Operand}{z:bG}(hw:want ops ⟨some d,.box Iy x,ty,pos,after,guard⟩ s=some true)(ab:s.look x=some (.w z))(hm:s.mem d=none)(hd:Nat.blt d s.n=true)(h:bm P ops K rest ((s.ep d z.cells).put (some d) (nS d 0))):bm P ops K (⟨some d,.box Iy x,ty,pos,after,guard⟩::rest) s :=
 sc hw (.new _ d rfl hm (.box Iy x z rfl ab)) (mb hd) h
def u3:List AC→Option (List Value)
 | []=>some []
 | .c v::xs=>match u3 xs with
  | some r=>some (v::r)
  | none=>none
 | _::_=>none
def nt:bG→Option Value
 | .one (.c v)=>some v
 | .one _=>none
 | .agg xs=>match u3 xs with
  | some r=>some (.agg r.toArray)
  | none=>none
theorem Pn{U:Nat→Prop}{ad:Nat→Nat}{W:World}:∀(xs:List AC) (vs r:List Value),bS U ad W xs vs→u3 xs=some r→vs=r
 | [],vs,r,h,he=>by cases he;have:=h.1;exact na this.symm
 | .c v::xs,vs,r,h,he=>by
  simp only[u3] at he
  split at he
  ·rename_i bb ao;cases he;cases vs with
   | nil=>have:=h.1;cases this
   | cons u us =>
    have aF:u=v:=(h.2 0 _ _ rfl rfl).1;have:=Pn xs us bb ⟨by have:=h.1;simpa using this,fun i x w ab hw=>h.2 (i+1) x w (by simpa using ab) (by simpa using hw)⟩ ao;rw[aF,this]
  ·cases he
 | .own _ _::_,_,_,_,he=>by cases he
 | .p _::_,_,_,_,he=>by cases he
theorem A6{U:Nat→Prop}{ad:Nat→Nat}{W:World}{x:bG}{v u:Value}(h:gV U ad W x v)(he:nt x=some u):v=u:=by
 cases x with
 | one y=>cases y with
  | c w=>cases he;exact h.1
  | own=>cases he
  | p=>cases he
 | agg xs =>
  simp only[nt] at he
  split at he
  ·rename_i r ao;cases he;obtain⟨vs,rfl,al⟩:=h;rw[Pn xs vs r al ao]
  ·cases he
theorem gP(v:Value)(j:Nat):¬(aQ v).owns j:=fun⟨y,ai,h⟩=>by simp[bG.cells] at ai;subst ai;cases h
theorem wB{tu:BinOp}{dk dQ:Nat}{x y:Operand}{a b:bG}{jS fK v:Value}(hw:want ops ⟨some d,.binOp tu dk x y dQ,ty,pos,after,guard⟩ s=some true)(ab:s.look x=some (.w a))(ai:s.look y=some (.w b))(jz:nt a=some jS)(np:nt b=some fK)
  (aw:∀W,(eqGuard tu dk x y jS fK).run P W = .ok () W) (ao:∀W,(binOp tu dk jS fK).run P W = .ok v W) (h1:v.oneCell'=true) (hd:Nat.blt d s.n=true) (h:bm P ops K rest (s.put (some d) (aQ v))):bm P ops K (⟨some d,.binOp tu dk x y dQ,ty,pos,after,guard⟩::rest) s:=by
 refine fZ (av:=aQ v) hw ⟨fun _ _ h=>(by cases h),fun z aT => ?_,fun U ad W env he=>⟨v,?_,⟨rfl,h1⟩⟩,fun j af=>absurd af (gP v j)⟩ hd h
 ·simp[Op.operands] at aT;rcases aT with rfl|rfl
  ·exact⟨_,ab⟩
  ·exact⟨_,ai⟩
 ·have aH:env x=jS:=A6 (he x (by simp[Op.operands]) _ ab) jz;have aN:env y=fK:=A6 (he y (by simp[Op.operands]) _ ai) np;simp only[execOp,aH,aN,Sem.run_bind,aw,Result.andThen_ok,ao,Sem.run_pure]
theorem qU{tu:BinOp}{dk dQ:Nat}{x y:Operand}{k:IntKind}{a b:Int}{v:Value}(hw:want ops ⟨some d,.binOp tu dk x y dQ,ty,pos,after,guard⟩ s=some true)(ab:s.look x=some (aQ (.int k a)))(ai:s.look y=some (aQ (.int k b)))
  (ao:∀W,(binOp tu dk (.int k a) (.int k b)).run P W = .ok v W) (h1:v.oneCell'=true) (hd:Nat.blt d s.n=true) (h:bm P ops K rest (s.put (some d) (aQ v))):bm P ops K (⟨some d,.binOp tu dk x y dQ,ty,pos,after,guard⟩::rest) s :=
 wB hw ab ai rfl rfl (fun W=>by unfold eqGuard;cases tu <;> rfl) ao h1 hd h
theorem YQ{dk dQ:Nat}{x y:Operand}{k:IntKind}{a b:Int}(hw:want ops ⟨some d,.binOp .lss dk x y dQ,ty,pos,after,guard⟩ s=some true)(ab:s.look x=some (aQ (.int k a)))(ai:s.look y=some (aQ (.int k b)))(hd:Nat.blt d s.n=true)(h:bm P ops K rest (s.put (some d) (bl (decide (a<b))))):bm P ops K (⟨some d,.binOp .lss dk x y dQ,ty,pos,after,guard⟩::rest) s :=
 qU hw ab ai (fun W=>by cases k <;> rfl) rfl hd h
theorem YN{dk dQ:Nat}{x y:Operand}{k:IntKind}{a b:Int}(hw:want ops ⟨some d,.binOp .leq dk x y dQ,ty,pos,after,guard⟩ s=some true)(ab:s.look x=some (aQ (.int k a)))(ai:s.look y=some (aQ (.int k b)))(hd:Nat.blt d s.n=true)(h:bm P ops K rest (s.put (some d) (bl (decide (a≤b))))):bm P ops K (⟨some d,.binOp .leq dk x y dQ,ty,pos,after,guard⟩::rest) s :=
 qU hw ab ai (fun W=>by cases k <;> rfl) rfl hd h
theorem YL{dk dQ:Nat}{x y:Operand}{k:IntKind}{a b:Int}(hw:want ops ⟨some d,.binOp .gtr dk x y dQ,ty,pos,after,guard⟩ s=some true)(ab:s.look x=some (aQ (.int k a)))(ai:s.look y=some (aQ (.int k b)))(hd:Nat.blt d s.n=true)(h:bm P ops K rest (s.put (some d) (bl (decide (b<a))))):bm P ops K (⟨some d,.binOp .gtr dk x y dQ,ty,pos,after,guard⟩::rest) s :=
 qU hw ab ai (fun W=>by cases k <;> rfl) rfl hd h
theorem YK{dk dQ:Nat}{x y:Operand}{k:IntKind}{a b:Int}(hw:want ops ⟨some d,.binOp .geq dk x y dQ,ty,pos,after,guard⟩ s=some true)(ab:s.look x=some (aQ (.int k a)))(ai:s.look y=some (aQ (.int k b)))(hd:Nat.blt d s.n=true)(h:bm P ops K rest (s.put (some d) (bl (decide (b≤a))))):bm P ops K (⟨some d,.binOp .geq dk x y dQ,ty,pos,after,guard⟩::rest) s :=
 qU hw ab ai (fun W=>by cases k <;> rfl) rfl hd h
theorem YD{dk dQ:Nat}{x y:Operand}{k:IntKind}{a b:Int}(hw:want ops ⟨some d,.binOp .eql dk x y dQ,ty,pos,after,guard⟩ s=some true)(ab:s.look x=some (aQ (.int k a)))(ai:s.look y=some (aQ (.int k b)))(hd:Nat.blt d s.n=true)(h:bm P ops K rest (s.put (some d) (bl (decide (a=b))))):bm P ops K (⟨some d,.binOp .eql dk x y dQ,ty,pos,after,guard⟩::rest) s :=
 qU hw ab ai (fun W=>by cases k <;> rfl) rfl hd h
theorem YY{dk dQ:Nat}{x y:Operand}{k:IntKind}{a b:Int}(hw:want ops ⟨some d,.binOp .neq dk x y dQ,ty,pos,after,guard⟩ s=some true)(ab:s.look x=some (aQ (.int k a)))(ai:s.look y=some (aQ (.int k b)))(hd:Nat.blt d s.n=true)(h:bm P ops K rest (s.put (some d) (bl (!decide (a=b))))):bm P ops K (⟨some d,.binOp .neq dk x y dQ,ty,pos,after,guard⟩::rest) s :=
 qU hw ab ai (fun W=>by cases k <;> rfl) rfl hd h
theorem wA{dk dQ:Nat}{x y:Operand}{k:IntKind}{a b c:Int}(hw:want ops ⟨some d,.binOp .add dk x y dQ,ty,pos,after,guard⟩ s=some true)(ab:s.look x=some (aQ (.int k a)))(ai:s.look y=some (aQ (.int k b)))(ak:k.wrap (a+b)=c)(hd:Nat.blt d s.n=true)(h:bm P ops K rest (s.put (some d) (aQ (.int k c)))):bm P ops K (⟨some d,.binOp .add dk x y dQ,ty,pos,after,guard⟩::rest) s :=
 qU hw ab ai (fun W=>by rw[←ak];cases k <;> rfl) rfl hd h
theorem Ze{dk dQ:Nat}{x y:Operand}{k:IntKind}{a b c:Int}(hw:want ops ⟨some d,.binOp .sub dk x y dQ,ty,pos,after,guard⟩ s=some true)(ab:s.look x=some (aQ (.int k a)))(ai:s.look y=some (aQ (.int k b)))(ak:k.wrap (a-b)=c)(hd:Nat.blt d s.n=true)(h:bm P ops K rest (s.put (some d) (aQ (.int k c)))):bm P ops K (⟨some d,.binOp .sub dk x y dQ,ty,pos,after,guard⟩::rest) s :=
 qU hw ab ai (fun W=>by rw[←ak];cases k <;> rfl) rfl hd h
theorem YV{dk dQ:Nat}{x y:Operand}{k:IntKind}{a b c:Int}(hw:want ops ⟨some d,.binOp .mul dk x y dQ,ty,pos,after,guard⟩ s=some true)(ab:s.look x=some (aQ (.int k a)))(ai:s.look y=some (aQ (.int k b)))(ak:k.wrap (a*b)=c)(hd:Nat.blt d s.n=true)(h:bm P ops K rest (s.put (some d) (aQ (.int k c)))):bm P ops K (⟨some d,.binOp .mul dk x y dQ,ty,pos,after,guard⟩::rest) s :=
 qU hw ab ai (fun W=>by rw[←ak];cases k <;> rfl) rfl hd h
theorem jo{n:Int}(h : -9223372036854775808≤n∧n<9223372036854775808):IntKind.i64.wrap n=n:=IntWalk.i64_in n (by omega)
theorem Y3{dk:Nat}{x:Operand}{b:Bool}(hw:want ops ⟨some d,.unOp .not dk x,ty,pos,after,guard⟩ s=some true)(ab:s.look x=some (bl b))(hd:Nat.blt d s.n=true)(h:bm P ops K rest (s.put (some d) (bl (!b)))):bm P ops K (⟨some d,.unOp .not dk x,ty,pos,after,guard⟩::rest) s:=by
 refine fZ (av:=bl (!b)) hw ⟨fun _ _ h=>(by cases h),fun z aT => ?_,fun U ad W env he=>⟨.bool (!b),?_,⟨rfl,rfl⟩⟩,fun j af=>absurd af (gP _ j)⟩ hd h
 ·simp[Op.operands] at aT;subst aT;exact⟨_,ab⟩
 ·have aH:env x = .bool b:=(he x (by simp[Op.operands]) _ ab).1;simp only[execOp,aH,Sem.run_bind,Op.unary];rfl
theorem NZ{MI:UnOp}{dk:Nat}{x:Operand}{jS v:Value}(hw:want ops ⟨some d,.unOp MI dk x,ty,pos,after,guard⟩ s=some true)(ab:s.look x=some (aQ jS))(ao:∀W,(Op.unary MI jS).run P W = .ok v W)(h1:v.oneCell'=true)(hd:Nat.blt d s.n=true)(h:bm P ops K rest (s.put (some d) (aQ v))):bm P ops K (⟨some d,.unOp MI dk x,ty,pos,after,guard⟩::rest) s:=by
 refine fZ (av:=aQ v) hw ⟨fun _ _ h=>(by cases h),fun z aT => ?_,fun U ad W env he=>⟨v,?_,⟨rfl,h1⟩⟩,fun j af=>absurd af (gP v j)⟩ hd h
 ·simp[Op.operands] at aT;subst aT;exact⟨_,ab⟩
 ·have aH:env x=jS:=(he x (by simp[Op.operands]) _ ab).1;simp only[execOp,aH,Sem.run_bind,ao,Result.andThen_ok,Sem.run_pure]
theorem NT{src dst:Nat}{x:Operand}{jS v:Value}(hw:want ops ⟨some d,.convert src dst x,ty,pos,after,guard⟩ s=some true)(ab:s.look x=some (aQ jS))(ao:∀W,(convert src dst jS).run P W = .ok v W)(h1:v.oneCell'=true)(hd:Nat.blt d s.n=true)(h:bm P ops K rest (s.put (some d) (aQ v))):bm P ops K (⟨some d,.convert src dst x,ty,pos,after,guard⟩::rest) s:=by
 refine fZ (av:=aQ v) hw ⟨fun _ _ h=>(by cases h),fun z aT => ?_,fun U ad W env he=>⟨v,?_,⟨rfl,h1⟩⟩,fun j af=>absurd af (gP v j)⟩ hd h
 ·simp[Op.operands] at aT;subst aT;exact⟨_,ab⟩
 ·have aH:env x=jS:=(he x (by simp[Op.operands]) _ ab).1;simp only[execOp,aH,Sem.run_bind,ao,Result.andThen_ok,Sem.run_pure]
theorem Yy{src dst n:Nat}{b:Bool}{k k':IntKind}{x:Operand}{a c:Int} [S:e7 P src b n] [I:HO P dst k'](hw:want ops ⟨some d,.convert src dst x,ty,pos,after,guard⟩ s=some true)(ab:s.look x=some (aQ (.int k a)))(ak:k'.wrap a=c)(hd:Nat.blt d s.n=true)(h:bm P ops K rest (s.put (some d) (aQ (.int k' c)))):bm P ops K (⟨some d,.convert src dst x,ty,pos,after,guard⟩::rest) s:=by
 refine NT hw ab (fun W => ?_) rfl hd h
 have hs:∃D,P.underlying src=some D:=by
  have:=S.h;unfold lG at this;cases hu:P.underlying src with
  | none=>rw[hu] at this;cases this
  | some D=>exact⟨D,rfl⟩
 obtain⟨D,hs⟩:=hs;unfold convert;simp only[Sem.run_bind,run_underlying hs,run_underlying I.h,Result.andThen_ok];rw[←ak];cases D <;> rfl
theorem Y5{c x y:Operand}{av:ag}(hw:want ops ⟨some d,.pick c x y,ty,pos,after,guard⟩ s=some true)(ak:s.look c=some (bl true))(ab:s.look x=some av){bv:ag}(ai:s.look y=some bv)(hd:Nat.blt d s.n=true)(h:bm P ops K rest (s.put (some d) av)):bm P ops K (⟨some d,.pick c x y,ty,pos,after,guard⟩::rest) s:=by
 refine fZ hw ⟨fun _ _ h=>(by cases h),fun z aT => ?_,fun U ad W env he=>⟨env x,?_,he x (by simp[Op.operands]) av ab⟩,fun j af=>⟨x,by simp[Op.operands],av,ab,af⟩⟩ hd h
 ·simp[Op.operands] at aT;rcases aT with rfl|rfl|rfl
  ·exact⟨_,ak⟩
  ·exact⟨_,ab⟩
  ·exact⟨_,ai⟩
 ·have aH:env c = .bool true:=(he c (by simp[Op.operands]) _ ak).1;simp[execOp,aH,asBool]
theorem Y4{c x y:Operand}{av:ag}(hw:want ops ⟨some d,.pick c x y,ty,pos,after,guard⟩ s=some true)(ak:s.look c=some (bl false))(ab:s.look y=some av){bv:ag}(ai:s.look x=some bv)(hd:Nat.blt d s.n=true)(h:bm P ops K rest (s.put (some d) av)):bm P ops K (⟨some d,.pick c x y,ty,pos,after,guard⟩::rest) s:=by
 refine fZ hw ⟨fun _ _ h=>(by cases h),fun z aT => ?_,fun U ad W env he=>⟨env y,?_,he y (by simp[Op.operands]) av ab⟩,fun j af=>⟨y,by simp[Op.operands],av,ab,af⟩⟩ hd h
 ·simp[Op.operands] at aT;rcases aT with rfl|rfl|rfl
  ·exact⟨_,ak⟩
  ·exact⟨_,ai⟩
  ·exact⟨_,ab⟩
 ·have aH:env c = .bool false:=(he c (by simp[Op.operands]) _ ak).1;simp[execOp,aH,asBool]
theorem ym{f:FuncId}{g:Operand}{az:Array TypeId}{l:List Operand}{args:List ag}{r:ag} [E:Enters P f](hw:want ops ⟨some d,.call ⟨.value g,l.toArray,az⟩,ty,pos,after,guard⟩ s=some true)(aw:s.look g=some (aQ (.func (.func f) #[] #[])))(aV:l.map s.look=args.map some)(hp:aP P f args r)(hd:Nat.blt d s.n=true)(h:bm P ops K rest (s.put (some d) r)) :
  bm P ops K (⟨some d,.call ⟨.value g,l.toArray,az⟩,ty,pos,after,guard⟩::rest) s :=
 sc hw (.call f args r ⟨⟨_,g,rfl,rfl,.inl ⟨[],aw,by simpa using aV,rfl⟩⟩,E.h⟩ hp) (mb hd) h
theorem uT{f:FuncId}{g:Operand}{az:Array TypeId}{l:List Operand}{bs:List Value}{args:List ag}{r:ag} [E:Enters P f](hw:want ops ⟨some d,.call ⟨.value g,l.toArray,az⟩,ty,pos,after,guard⟩ s=some true)(aw:s.look g=some (aQ (.func (.func f) bs.toArray #[])))(aa:bs.all El=true)(aV:l.map s.look=args.map some)(hp:aP P f (bs.map zm++args) r)(hd:Nat.blt d s.n=true)(h:bm P ops K rest (s.put (some d) r)) :
  bm P ops K (⟨some d,.call ⟨.value g,l.toArray,az⟩,ty,pos,after,guard⟩::rest) s :=
 sc hw (.call f _ r ⟨⟨_,g,rfl,rfl,.inl ⟨bs,aw,by rw[List.toList_toArray,aV,sX,List.map_map];rfl,aa⟩⟩,E.h⟩ hp) (mb hd) h
theorem uS{f:FuncId}{g:Operand}{az:Array TypeId}{l:List Operand}{cs:List AC}{args:List ag}{r:ag} [E:Enters P f](hw:want ops ⟨some d,.call ⟨.value g,l.toArray,az⟩,ty,pos,after,guard⟩ s=some true)(aw:s.look g=some (.w (.one (.p (l4 (.func f) cs)))))(aV:l.map s.look=args.map some)(hp:aP P f (args++cs.map fun x => .w (.one x)) r)(hd:Nat.blt d s.n=true)(h:bm P ops K rest (s.put (some d) r)) :
  bm P ops K (⟨some d,.call ⟨.value g,l.toArray,az⟩,ty,pos,after,guard⟩::rest) s :=
 sc hw (.call f _ r ⟨⟨_,g,rfl,rfl,.inr ⟨cs,aw,by rw[List.toList_toArray,aV,sX,List.map_map];rfl⟩⟩,E.h⟩ hp) (mb hd) h
theorem YT{fn:Fn}{x:Operand}{a:bG}{jS:Value}(hw:want ops ⟨some d,.makeFunc fn #[x] #[],ty,pos,after,guard⟩ s=some true)(ab:s.look x=some (.w a))(jz:nt a=some jS)(hd:Nat.blt d s.n=true)(h:bm P ops K rest (s.put (some d) (aQ (.func fn #[jS] #[])))):bm P ops K (⟨some d,.makeFunc fn #[x] #[],ty,pos,after,guard⟩::rest) s:=by
 refine fZ (av:=aQ (.func fn #[jS] #[])) hw ⟨fun _ _ h=>(by cases h),fun z aT => ?_,fun U ad W env he=>⟨.func fn #[jS] #[],?_,⟨rfl,rfl⟩⟩,fun j af=>absurd af (gP _ j)⟩ hd h
 ·simp[Op.operands] at aT;subst aT;exact⟨_,ab⟩
 ·have aH:env x=jS:=A6 (he x (by simp[Op.operands]) _ ab) jz;have em:(#[x]:Array Operand).map env = #[jS]:=by simp[aH]
  simp only[execOp,em,Array.map_empty,Instr.makeFunc,Sem.run_bind,Sem.run_pure,Result.andThen_ok]
theorem NQ{f:FuncId}{g:Operand}{az:Array TypeId}{r:ag} [E:Enters P f](hw:want ops ⟨some d,.call ⟨.value g,#[],az⟩,ty,pos,after,guard⟩ s=some true)(aw:s.look g=some (aQ (.func (.func f) #[] #[])))(hp:aP P f [] r)(hd:Nat.blt d s.n=true)(h:bm P ops K rest (s.put (some d) r)):bm P ops K (⟨some d,.call ⟨.value g,#[],az⟩,ty,pos,after,guard⟩::rest) s :=
 ym (l:=[]) hw aw rfl hp hd h
theorem Ic{f:FuncId}{g:Operand}{az:Array TypeId}{de:Operand}{a1:ag}{r:ag} [E:Enters P f](hw:want ops ⟨some d,.call ⟨.value g,#[de],az⟩,ty,pos,after,guard⟩ s=some true)(aw:s.look g=some (aQ (.func (.func f) #[] #[])))(h1:s.look de=some a1)(hp:aP P f [a1] r)(hd:Nat.blt d s.n=true)(h:bm P ops K rest (s.put (some d) r)):bm P ops K (⟨some d,.call ⟨.value g,#[de],az⟩,ty,pos,after,guard⟩::rest) s :=
 ym (l:=[de]) hw aw (by simp[h1]) hp hd h
theorem Ie{f:FuncId}{g:Operand}{az:Array TypeId}{de dj:Operand}{a1 a2:ag}{r:ag} [E:Enters P f](hw:want ops ⟨some d,.call ⟨.value g,#[de,dj],az⟩,ty,pos,after,guard⟩ s=some true)(aw:s.look g=some (aQ (.func (.func f) #[] #[])))(h1:s.look de=some a1)(h2:s.look dj=some a2)(hp:aP P f [a1,a2] r)(hd:Nat.blt d s.n=true)(h:bm P ops K rest (s.put (some d) r)):bm P ops K (⟨some d,.call ⟨.value g,#[de,dj],az⟩,ty,pos,after,guard⟩::rest) s :=
 ym (l:=[de,dj]) hw aw (by simp[h1,h2]) hp hd h
theorem Ig{f:FuncId}{g:Operand}{az:Array TypeId}{de dj ld:Operand}{a1 a2 a3:ag}{r:ag} [E:Enters P f](hw:want ops ⟨some d,.call ⟨.value g,#[de,dj,ld],az⟩,ty,pos,after,guard⟩ s=some true)(aw:s.look g=some (aQ (.func (.func f) #[] #[])))(h1:s.look de=some a1)(h2:s.look dj=some a2)(ar:s.look ld=some a3)(hp:aP P f [a1,a2,a3] r)(hd:Nat.blt d s.n=true)(h:bm P ops K rest (s.put (some d) r)):bm P ops K (⟨some d,.call ⟨.value g,#[de,dj,ld],az⟩,ty,pos,after,guard⟩::rest) s :=
 ym (l:=[de,dj,ld]) hw aw (by simp[h1,h2,ar]) hp hd h
theorem NR{f:FuncId}{g:Operand}{az:Array TypeId}{de dj ld nV:Operand}{a1 a2 a3 a4:ag}{r:ag} [E:Enters P f](hw:want ops ⟨some d,.call ⟨.value g,#[de,dj,ld,nV],az⟩,ty,pos,after,guard⟩ s=some true)(aw:s.look g=some (aQ (.func (.func f) #[] #[])))(h1:s.look de=some a1)(h2:s.look dj=some a2)(ar:s.look ld=some a3)(aJ:s.look nV=some a4)(hp:aP P f [a1,a2,a3,a4] r)(hd:Nat.blt d s.n=true)(h:bm P ops K rest (s.put (some d) r)):bm P ops K (⟨some d,.call ⟨.value g,#[de,dj,ld,nV],az⟩,ty,pos,after,guard⟩::rest) s :=
 ym (l:=[de,dj,ld,nV]) hw aw (by simp[h1,h2,ar,aJ]) hp hd h
theorem NS{f:FuncId}{g:Operand}{az:Array TypeId}{de dj ld nV vZ:Operand}{a1 a2 a3 a4 a5:ag}{r:ag} [E:Enters P f](hw:want ops ⟨some d,.call ⟨.value g,#[de,dj,ld,nV,vZ],az⟩,ty,pos,after,guard⟩ s=some true)(aw:s.look g=some (aQ (.func (.func f) #[] #[])))(h1:s.look de=some a1)(h2:s.look dj=some a2)(ar:s.look ld=some a3)(aJ:s.look nV=some a4)(bR:s.look vZ=some a5)(hp:aP P f [a1,a2,a3,a4,a5] r)(hd:Nat.blt d s.n=true)(h:bm P ops K rest (s.put (some d) r)):bm P ops K (⟨some d,.call ⟨.value g,#[de,dj,ld,nV,vZ],az⟩,ty,pos,after,guard⟩::rest) s :=
 ym (l:=[de,dj,ld,nV,vZ]) hw aw (by simp[h1,h2,ar,aJ,bR]) hp hd h
def sg(ps:List (Nat×Nat)):List AC→List (Nat×bG)→Option (List AC)
 | cs,[]=>some cs
 | cs,(i,z)::rest=>match ps[i]? with
  | some (off,size)=>bif Nat.beq size z.cells.length then match qx cs off z.cells with
    | some r=>sg ps r rest
    | none=>none
   else none
  | none=>none
def oU(look:Operand→Option ag):List (Nat×Operand)→Option (List (Nat×bG))
 | []=>some []
 | (i,x)::rest=>match look x,oU look rest with
  | some (.w z),some r=>some ((i,z)::r)
  | _,_=>none
theorem Pw(off:Nat):∀(zs:List Value) (k:Nat) (oH:Array Value),off+k+zs.length≤oH.size→((zs.zipIdx k).foldl (fun cs (c,j)=>cs.setIfInBounds (off+j) c) oH).toList=oH.toList.take (off+k)++zs++oH.toList.drop (off+k+zs.length)
 | [],k,oH,_=>by simp
 | z::zs,k,oH,h=>by
  simp only[List.zipIdx_cons,um];rw[Pw off zs (k+1) _ (by simp at h ⊢;omega)];have e:=list_seg_step oH.toList (off+k) z zs (by simp at h ⊢;omega);simpa [Array.toList_setIfInBounds,oB] using e
theorem Bb{U:Nat→Prop}{ad:Nat→Nat}{W:World}{ps:List (Nat×Nat)}{place:Nat→Option (Nat×Nat)}(hp:∀i q,ps[i]?=some q→place i=some q){look:Operand→Option ag}{env:Operand→Value}:∀(parts:List (Nat×Operand)) (cs:List AC) (vs:List Value) (zs:List (Nat×bG)) (r:List AC),bS U ad W cs vs→oU look parts=some zs→(∀p∈parts,∀a,look p.2=some a→cR U ad W a (env p.2))→sg ps cs zs=some r →
  ∃us:List Value,Instr.fill place vs.toArray (parts.map fun p=>(p.1,env p.2))=some us.toArray∧bS U ad W r us
 | [],cs,vs,zs,r,al,aT,_,aa=>by cases aT;cases aa;exact⟨vs,rfl,al⟩
 | (i,x)::parts,cs,vs,zs,r,al,aT,he,aa=>by
  simp only[oU] at aT
  split at aT
  ·rename_i z Dp ab ao;cases aT;simp only[sg] at aa
   split at aa
   ·rename_i off size vq;cases yI:Nat.beq size z.cells.length with
    | false=>rw[yI] at aa;cases aa
    | true =>
     rw[yI] at aa;simp only[cond_true] at aa
     split at aa
     ·rename_i ay xf;have aT:gV U ad W z (env x):=he (i,x) (by simp) _ ab;have qh:=aT.cells;obtain⟨q1,q2⟩:=CM _ _ _ _ xf;have hs:=gl yI;have Qz:(env x).cells.size=z.cells.length:=by have:=qh.1;simp at this;exact this.symm
      have FF:=al.1;have nD:=al.eP qh off q1;rw[q2] at nD;obtain⟨us,g1,g2⟩:=Bb hp parts ay _ Dp r nD ao (fun p mS=>he p (by simp[mS])) aa;refine⟨us,?_,g2⟩;simp only[hQ,Instr.fill,hp i _ vq];rw[if_neg (by simp[Qz,hs];omega)];rw[←g1];congr 1;apply Array.ext';have:=Pw off (env x).cells.toList 0 vs.toArray (by simp[Qz];omega);rw[←Array.foldl_toList,Array.toList_zipIdx];simpa using this
     ·cases aa
   ·cases aa
  ·cases aT
theorem K6{look:Operand→Option ag}:∀(parts:List (Nat×Operand)) (zs:List (Nat×bG)),oU look parts=some zs→∀p∈parts,∃z,look p.2=some (.w z)∧(p.1,z)∈zs
 | [],_,_,p,hp=>by cases hp
 | (i,x)::parts,zs,h,p,hp=>by
  simp only[oU] at h
  split at h
  ·rename_i z Dp ab ao;cases h;rcases fi.1 hp with rfl|hp
   ·exact⟨z,ab,by simp⟩
   ·obtain⟨amD,h1,h2⟩:=K6 parts Dp ao p hp;exact⟨amD,h1,by simp[h2]⟩
  ·cases h
theorem Sd{look:Operand→Option ag}:∀(parts:List (Nat×Operand)) (zs:List (Nat×bG)),oU look parts=some zs→∀q∈zs,∃p∈parts,look p.2=some (.w q.2)
 | [],_,h,q,aj=>by cases h;cases aj
 | (i,x)::parts,zs,h,q,aj=>by
  simp only[oU] at h
  split at h
  ·rename_i z Dp ab ao;cases h;rcases fi.1 aj with rfl|aj
   ·exact⟨(i,x),by simp,ab⟩
   ·obtain⟨p,h1,h2⟩:=Sd parts Dp ao q aj;exact⟨p,by simp[h1],h2⟩
  ·cases h
theorem ajN{cs ds r:List AC}{off:Nat}(h:qx cs off ds=some r):∀x∈r,x∈cs∨x∈ds:=by
 obtain⟨_,rfl⟩:=CM _ _ _ _ h;intro x ab;unfold eP at ab;simp only[kg] at ab;rcases ab with (h1|h1)|h1
 ·exact .inl (o4 h1)
 ·exact .inr h1
 ·exact .inl (oA h1)
theorem On{ps:List (Nat×Nat)}:∀(zs:List (Nat×bG)) (cs r:List AC),sg ps cs zs=some r→∀x∈r,x∈cs∨∃q∈zs,x∈q.2.cells
 | [],cs,r,h,x,ab=>by cases h;exact .inl ab
 | (i,z)::zs,cs,r,h,x,ab=>by
  simp only[sg] at h
  split at h
  ·rename_i off size vq;cases yI:Nat.beq size z.cells.length with
   | false=>rw[yI] at h;cases h
   | true =>
    rw[yI] at h;simp only[cond_true] at h
    split at h
    ·rename_i ay xf;rcases On zs ay r h x ab with h1|⟨q,h1,h2⟩
     ·rcases ajN xf x h1 with h2|h2
      ·exact .inl h2
      ·exact .inr ⟨(i,z),by simp,h2⟩
     ·exact .inr ⟨q,by simp[h1],h2⟩
    ·cases h
  ·cases h
theorem Ve{α β:Type}{f:α→Sem β}{W:World}:∀(l:List α) (vs:List β),l.length=vs.length→(∀(i:Nat) x v,l[i]?=some x→vs[i]?=some v→(f x).run P W = .ok v W)→(l.mapM f).run P W = .ok vs W
 | [],[],_,_=>rfl
 | [],_::_,h,_=>by cases h
 | _::_,[],h,_=>by cases h
 | x::l,v::vs,al,h=>by
  have aF:=h 0 x v rfl rfl;have bY:=Ve l vs (by simpa using al) (fun i x v ab hv=>h (i+1) x v (by simpa using ab) (by simpa using hv));rw[List.mapM_cons];simp only[Sem.run_bind,aF,Result.andThen_ok,bY];rfl
theorem Si{α β:Type}{f:α→Option β}:∀(l:List α) (vs:List β),l.mapM f=some vs→l.length=vs.length∧∀(i:Nat) x v,l[i]?=some x→vs[i]?=some v→f x=some v
 | [],vs,h=>by cases h;exact⟨rfl,fun i x v ab=>by simp at ab⟩
 | a::l,vs,h=>by
  rw[List.mapM_cons] at h;cases aV:f a with
  | none=>rw[aV] at h;cases h
  | some b =>
   rw[aV] at h;cases al:l.mapM f with
   | none=>rw[al] at h;cases h
   | some bs =>
    rw[al] at h;cases h;obtain⟨h1,h2⟩:=Si l bs al;refine⟨by simp[h1],fun i x v ab hv => ?_⟩;cases i with
    | zero=>simp at ab hv;subst ab;subst hv;exact aV
    | succ i=>exact h2 i x v (by simpa using ab) (by simpa using hv)
theorem Yw{t:Nat}{parts:List (Nat×Operand)}{vs:List Value}{ps:List (Nat×Nat)}{zs:List (Nat×bG)}{r:List AC} [Z:DX P t vs] [L:Nt P t ps](hw:want ops ⟨some d,.build t parts.toArray,ty,pos,after,guard⟩ s=some true)(aT:oU s.look parts=some zs)(aa:sg ps (vs.map .c) zs=some r)(h1:(vs.all fun v=>v.oneCell')=true)(hd:Nat.blt d s.n=true)(h:bm P ops K rest (s.put (some d) (.w (.agg r)))):bm P ops K (⟨some d,.build t parts.toArray,ty,pos,after,guard⟩::rest) s:=by
 refine fZ (av := .w (.agg r)) hw ⟨fun _ _ h=>(by cases h),fun z B4 => ?_,fun U ad W env he => ?_,fun j af => ?_⟩ hd h
 ·simp only[Op.operands,List.mem_toArray,fS] at B4;obtain⟨p,hp,rfl⟩:=B4;obtain⟨z,h1,_⟩:=K6 parts zs aT p hp;exact⟨_,h1⟩
 ·have ed:=Z.h;have dm:=L.h;unfold zeroOf at ed;unfold GJ at dm;cases hi:P.info? t with
  | none=>rw[hi] at ed;cases ed
  | some i =>
   rw[hi] at ed;simp only[lW] at ed;cases iA:i.zero with
   | none=>rw[iA] at ed;cases ed
   | some z =>
    rw[iA] at ed;cases ed
    split at dm
    ·rename_i bq hu;obtain⟨m1,m2⟩:=Si _ _ dm;have tW:(zeroValue t).run P W = .ok z W:=by simp[zeroValue,typeInfo,program,Sem.run_bind,Sem.run,hi,Result.andThen,iA]
     have nB:(bq.mapM fun f=>(do pure (f.offset,←sizeOf f.type):Sem (Nat×Nat))).run P W = .ok ps.toArray W:=by
      rw[Array.mapM_eq_mapM_toList]
      have:=Ve (P:=P) (W:=W) (f:=fun f:Field=>(do pure (f.offset,←sizeOf f.type):Sem (Nat×Nat))) bq.toList ps m1 (fun j x v ab hv=>by
       have:=m2 j x v ab hv;cases J3:P.info? x.type with
       | none=>rw[J3] at this;cases this
       | some eJ =>
        rw[J3] at this;cases this;simp only[Sem.run_bind,ij J3,Result.andThen_ok,Sem.run_pure])
      simp only[map_eq_pure_bind,Sem.run_bind,this,Result.andThen_ok,Sem.run_pure]
     have hJ:bS U ad W (z.cells.toList.map .c) z.cells.toList:=⟨by simp,fun j x v ab hv=>by
      rw[dG,hv] at ab;cases ab;exact⟨rfl,b6.1 h1 v (cN hv)⟩⟩
     obtain⟨us,g1,g2⟩:=Bb (U:=U) (ad:=ad) (W:=W) (ps:=ps) (place:=fun i=>ps.toArray[i]?) (fun i q h=>by simpa using h) (look:=s.look) (env:=env) parts _ _ zs r hJ aT (fun p hp a aV=>he p.2 (by simp only[Op.operands,List.mem_toArray,fS];exact⟨p,hp,rfl⟩) a aV) aa;refine⟨.agg us.toArray,?_,us,rfl,g2⟩;have vo:(parts.toArray.map fun(i,x)=>(i,env x)).toList=parts.map fun p=>(p.1,env p.2):=by simp
     have B5:z.cells.toList.toArray=z.cells:=by simp
     rw[B5] at g1;simp only[execOp,Instr.build,Sem.run_bind,tW,Result.andThen_ok,run_underlying hu,nB,vo,g1,Sem.run_pure]
    ·rename_i n el hu;have tW:(zeroValue t).run P W = .ok z W:=by simp[zeroValue,typeInfo,program,Sem.run_bind,Sem.run,hi,Result.andThen,iA]
     have hJ:bS U ad W (z.cells.toList.map .c) z.cells.toList:=⟨by simp,fun j x v ab hv=>by
      rw[dG,hv] at ab;cases ab;exact⟨rfl,b6.1 h1 v (cN hv)⟩⟩
     cases aA:Nat.ble n 32 with
     | false=>rw[aA] at dm;cases dm
     | true =>
      rw[aA] at dm;simp only[cond_true] at dm;cases J2:P.info? el with
      | none=>rw[J2] at dm;cases dm
      | some eJ =>
       rw[J2] at dm;simp only[gD,iE] at dm
       obtain⟨us,g1,g2⟩:=Bb (U:=U) (ad:=ad) (W:=W) (ps:=ps) (place:=fun i=>some (i*eJ.size,eJ.size)) (fun i q h=>by
        rw[←dm,dG] at h;rcases ie i n with a7|iT
        ·rw[bE (by simpa using a7)] at h;simpa using h
        ·rw[qy (by simpa using iT)] at h;cases h) (look:=s.look) (env:=env) parts _ _ zs r hJ aT (fun p hp a aV=>he p.2 (by simp only[Op.operands,List.mem_toArray,fS];exact⟨p,hp,rfl⟩) a aV) aa
       refine⟨.agg us.toArray,?_,us,rfl,g2⟩;have vo:(parts.toArray.map fun(i,x)=>(i,env x)).toList=parts.map fun p=>(p.1,env p.2):=by simp
       have B5:z.cells.toList.toArray=z.cells:=by simp
       rw[B5] at g1;simp only[execOp,Instr.build,Sem.run_bind,tW,Result.andThen_ok,run_underlying hu,ij J2,vo,g1,Sem.run_pure]
    ·cases dm
 ·obtain⟨y,ai,nF⟩:=af;rcases On zs _ r aa y ai with h2|⟨q,h2,ar⟩
  ·obtain⟨v,_,rfl⟩:=fS.1 h2;cases nF
  ·obtain⟨p,hp,al⟩:=Sd parts zs aT q h2;exact⟨p.2,by simp only[Op.operands,List.mem_toArray,fS];exact⟨p,hp,rfl⟩,_,al,⟨y,ar,nF⟩⟩
theorem NO{Iw:Builtin}{az:Array TypeId}{x y:Operand}{jS fK v:Value}(hw:want ops ⟨some d,.call ⟨.builtin Iw,#[x,y],az⟩,ty,pos,after,guard⟩ s=some true)(ab:s.look x=some (aQ jS))(ai:s.look y=some (aQ fK))(ao:∀cs W,(builtin Iw az ty cs #[jS,fK]).run P W = .ok (.value v) W)(h1:v.oneCell'=true)(hd:Nat.blt d s.n=true)(h:bm P ops K rest (s.put (some d) (aQ v))):bm P ops K (⟨some d,.call ⟨.builtin Iw,#[x,y],az⟩,ty,pos,after,guard⟩::rest) s:=by
 refine fZ (av:=aQ v) hw ⟨fun _ _ h=>(by cases h),fun z aT => ?_,fun U ad W env he=>⟨v,?_,⟨rfl,h1⟩⟩,fun j af=>absurd af (gP v j)⟩ hd h
 ·simp[Op.operands,Call.operands] at aT;rcases aT with rfl|rfl
  ·exact⟨_,ab⟩
  ·exact⟨_,ai⟩
 ·have aH:env x=jS:=(he x (by simp[Op.operands,Call.operands]) _ ab).1;have aN:env y=fK:=(he y (by simp[Op.operands,Call.operands]) _ ai).1;have em:(#[x,y]:Array Operand).map env = #[jS,fK]:=by simp[aH,aN]
  simp only[execOp,resolve,em,Sem.run_bind,Sem.run_pure,Result.andThen_ok,invoke,ao]
theorem YS{az:Array TypeId}{x y:Operand}{k:IntKind}{a b:Int}(hw:want ops ⟨some d,.call ⟨.builtin .min,#[x,y],az⟩,ty,pos,after,guard⟩ s=some true)(ab:s.look x=some (aQ (.int k a)))(ai:s.look y=some (aQ (.int k b)))(hd:Nat.blt d s.n=true)(h:bm P ops K rest (s.put (some d) (aQ (.int k (if b<a then b else a))))):bm P ops K (⟨some d,.call ⟨.builtin .min,#[x,y],az⟩,ty,pos,after,guard⟩::rest) s :=
 NO hw ab ai (fun cs W=>by go_simp;all_goals (first|rfl|(split <;> omega))) rfl hd h
theorem YR{az:Array TypeId}{x y:Operand}{k:IntKind}{a b:Int}(hw:want ops ⟨some d,.call ⟨.builtin .max,#[x,y],az⟩,ty,pos,after,guard⟩ s=some true)(ab:s.look x=some (aQ (.int k a)))(ai:s.look y=some (aQ (.int k b)))(hd:Nat.blt d s.n=true)(h:bm P ops K rest (s.put (some d) (aQ (.int k (if b>a then b else a))))):bm P ops K (⟨some d,.call ⟨.builtin .max,#[x,y],az⟩,ty,pos,after,guard⟩::rest) s :=
 NO hw ab ai (fun cs W=>by go_simp;all_goals (first|rfl|(split <;> omega))) rfl hd h
theorem Yx{t:Nat}{b:Bool}{l:List Oper}(hs:s.tmps t=some (bl b))(h1:b=true→bm P ops K l (s.put (some t) (bl true)))(aF:b=false→bm P ops K l (s.put (some t) (bl false))):bm P ops K l s:=by
 have same:∀c,b=c→s.put (some t) (bl c)=s:=fun c e=>by
  subst e;simp only[aB.put];congr 1;funext j
  by_cases af:j=t
  ·subst af;rw[bX,hs]
  ·rw[bN _ _ af]
 cases b with
 | true=>rw[←same true rfl];exact h1 rfl
 | false=>rw[←same false rfl];exact aF rfl
end
theorem aM:([]:List ResultVar).map (gS P s)=([]:List bG).map some:=rfl
theorem aX{t:Nat}{x:bG}{l:List ResultVar}{xs:List bG}(h:s.tmps t=some (.w x))(al:l.map (gS P s)=xs.map some):(ResultVar.tmp t::l).map (gS P s)=(x::xs).map some:=by
 simp only[hQ,al];rw[show gS P s (.tmp t)=some x by simp only[gS,h]]
theorem GU{a ty k off n:Nat} [T:e7 P ty false n]{cs:List AC}{y:AC}{l:List ResultVar}{xs:List bG}(h:s.tmps a=some (nS k off))(hm:s.mem k=some cs)(ak:cs[off]?=some y)(al:l.map (gS P s)=xs.map some):(ResultVar.cell a ty::l).map (gS P s)=(.one y::xs).map some:=by
 simp only[hQ,al];rw[show gS P s (.cell a ty)=some (.one y) by simp only[gS,h,hm,lW,V3 T.h ak]]
theorem c7{a ty k off n:Nat} [T:e7 P ty true n]{cs ys:List AC}{l:List ResultVar}{xs:List bG}(h:s.tmps a=some (nS k off))(hm:s.mem k=some cs)(ak:takeN cs off n=some ys)(al:l.map (gS P s)=xs.map some):(ResultVar.cell a ty::l).map (gS P s)=(.agg ys::xs).map some:=by
 simp only[hQ,al];rw[show gS P s (.cell a ty)=some (.agg ys) by simp only[gS,h,hm,lW,V2 T.h ak]]
theorem bk{fn:Func}{l:List ResultVar}{xs:List bG}{r:ag}(ao:fn.results=l.toArray)(h:l.map (gS P s)=xs.map some)(hle:(packed xs).aU r):wC P fn r .ret s:=⟨xs,by rw[ao];exact h,hle⟩
theorem ajs{f:FuncId}{args:List ag}{r:ag}{kl:List Value}(he:args.map (fun x=>match x with | .w y=>nt y|_=>none)=kl.map some)(hl:∀x∈args,x.closed)(cq:r.closed)
  (h:∀W,Calls P f kl.toArray W fun e W'=>∃v,e = .returned v∧(∀U,(∀b,W.heap.size≤b→U b)→cR U id W' r v)∧Below W.heap.size W W'):aP P f args r:=by
 refine⟨hl,cq,fun U W vs cM => ?_⟩
 have e:vs=kl:=by
  apply List.ext_getElem?;intro i;have al:=cM.1;have iy:args.length=kl.length:=by have:=congrArg List.length he;simpa using this
  rcases ie i args.length with hi|hi
  ·have h1:(args.map (fun x=>match x with | .w y=>nt y|_=>none))[i]?=(kl.map some)[i]?:=by rw[he]
   rw[dG,dG,bE hi,bE (by omega:i<kl.length)] at h1;simp only[gD,iE] at h1;rw[bE (by omega:i<vs.length),bE (by omega:i<kl.length)];have h2:=cM.2 i args[i] vs[i] (bE hi) (bE (by omega));cases ab:args[i] with
   | w y =>
    rw[ab] at h1 h2;rw[A6 h2 h1]
   | cl xs=>rw[ab] at h1;cases h1
  ·rw[qy (by omega),qy (by omega)]
 subst e;refine(h W).mono ?_;rintro e W' ⟨v,h1,h2,ar⟩;exact⟨v,h1,h2 _ fun b aa => .inr aa,ar⟩
def AC.aY:AC→Bool
 | .own _ _=>false
 | _=>true
def bG.aY:bG→Bool
 | .one x=>x.aY
 | .agg xs=>xs.all AC.aY
def ag.aY:ag→Bool
 | .w x=>x.aY
 | .cl xs=>xs.all bG.aY
theorem AC.c9{x:AC}(h:x.aY=true)(j:Nat):¬x.owns j:=by cases x <;> simp_all [AC.aY,AC.owns]
theorem bG.c9{x:bG}(h:x.aY=true)(j:Nat):¬x.owns j:=by
 rintro⟨y,ai,af⟩;cases x with
 | one z=>simp[bG.cells] at ai;subst ai;exact AC.c9 h j af
 | agg xs=>exact AC.c9 (b6.1 h y ai) j af
theorem ag.c9{x:ag}(h:x.aY=true):x.closed:=fun j=>by
 cases x with
 | w y=>exact bG.c9 h j
 | cl xs=>rintro⟨y,ai,af⟩;exact bG.c9 (b6.1 h y ai) j af
theorem bp{f:FuncId}{fn:Func}{c:Code}{args:List ag}{r:ag}(au:P.funcs[f]?=some fn)(aa:fn.body=some c)(aA:Nat.ble args.length fn.ntmps=true)(hl:args.all ag.aY=true)(cq:r.aY=true)
  (h:fz P c (wC P fn r) (start fn.ntmps args)):aP P f args r :=
 aju au aa (by simpa [Nat.ble_eq] using aA) (fun x ab=>ag.c9 (b6.1 hl x ab)) (ag.c9 cq) h
theorem LN{f:FuncId}{fn:Func}{c:Code}{args:List ag}{r:ag}(au:P.funcs[f]?=some fn)(aa:fn.body=some c)(aA:Nat.ble args.length fn.ntmps=true)(hl:args.all ag.aY=true)(cq:r.aY=true)
  (h:uI P c (wC P fn r) (start fn.ntmps args)):aP P f args r :=
 TV au aa (by simpa [Nat.ble_eq] using aA) (fun x ab=>ag.c9 (b6.1 hl x ab)) (ag.c9 cq) h
theorem ajx{f:FuncId}{args:List ag}{r:ag}(kl:List Value)(he:args.map (fun x=>match x with | .w y=>nt y|_=>none)=kl.map some)(hl:args.all ag.aY=true)(cq:r.aY=true)
  (h:∀W,Calls P f kl.toArray W fun e W'=>∃v,e = .returned v∧(∀U,(∀b,W.heap.size≤b→U b)→cR U id W' r v)∧Below W.heap.size W W'):aP P f args r :=
 ajs he (fun x ab=>ag.c9 (b6.1 hl x ab)) (ag.c9 cq) h
theorem N6{next:aB→Prop}{Q:Exit→aB→Prop}(h:next s):tr next Q .normal s:=h
theorem Zq{next:aB→Prop}{Q:Exit→aB→Prop}{id:Nat}(h:Q (.exit id) s):tr next Q (.exit id) s:=h
theorem Zr{next:aB→Prop}{Q:Exit→aB→Prop}(h:Q .ret s):tr next Q .ret s:=h
theorem Yi{Q:Exit→aB→Prop}{id:Nat}(h:Q .normal s):yl id Q .normal s:=h
theorem Yj{Q:Exit→aB→Prop}{id:Nat}(h:Q .ret s):yl id Q .ret s:=h
theorem Yk{Q:Exit→aB→Prop}{id:Nat}(h:Q .normal s):yl id Q (.exit id) s:=by simp only[yl,qz,cond_true];exact h
theorem bT{dst:Option Nat}{op:Op}{ty:Nat}{pos:String}{after:Array Edge}{g t:Nat}{b Oh c:Bool}(hd:(ops[g]?).bind (·.dst)=some t)(hs:s.tmps t=some (bl Oh))(aa:Oh=c)
  (h1:bm P ops K (⟨dst,op,ty,pos,after,some (g,b)⟩::rest) (s.put (some t) (bl c))):bm P ops K (⟨dst,op,ty,pos,after,some (g,b)⟩::rest) s:=by
 subst aa;exact Yx hs (fun e=>by subst e;exact h1) (fun e=>by subst e;exact h1)
theorem N9{c:Operand}{t u:Bool}{x y:Code}{Q:Exit→aB→Prop}(ak:s.look c=some (bl t))(aC:t=u)(h:fz P (bif u then x else y) Q s):fz P (.cond c x y) Q s:=by
 subst aC;cases t with
 | true=>exact Ob ak h
 | false=>exact Oa ak h
theorem Zu{c:Operand}{t:Bool}{x y:Code}{Q:Exit→aB→Prop}(ak:s.look c=some (bl t))(aC:t=true)(h:fz P x Q s):fz P (.cond c x y) Q s:=N9 ak aC h
theorem N8{c:Operand}{t:Bool}{x y:Code}{Q:Exit→aB→Prop}(ak:s.look c=some (bl t))(aC:t=false)(h:fz P y Q s):fz P (.cond c x y) Q s:=N9 ak aC h
end
abbrev bn(x y:Int):ag := .w (.agg [.c (.int .i64 x),.c (.int .i64 y)])
def Jb(w:World):AC→Value→Nat→Prop
 | .p R,x,b=>R.ls w x b
 | _,_,_=>False
theorem Ay(a:Addr)(m j:Nat):(a.add m).add j=a.add (m+j):=by
 unfold Addr.add
 by_cases h1:m=0 <;> by_cases h2:j=0 <;> simp[h1,h2,oB]
theorem block_add(a:Addr)(m:Nat):(a.add m).block=a.block:=by unfold Addr.add;split <;> rfl
structure lj (w:World) (a:Addr) (xs:List AC) (vs:List Value):Prop where
 lt:a.block<w.heap.size
 qD:bS (fun _=>True) id w xs vs
 at_:∀(j:Nat) v,vs[j]?=some v→w.cell? (a.add j)=some v
 gX:∀y∈xs,y.aY=true
def n7(w:World)(a:Addr)(xs:List AC)(b:Nat):Prop:=a.block=b∨∃(j:Nat) (y:AC) (v:Value),xs[j]?=some y∧w.cell? (a.add j)=some v∧Jb w y v b
theorem lj.frame{w w':World}{a:Addr}{xs:List AC}{vs:List Value}(h:lj w a xs vs)(au:∀b,n7 w a xs b→w'.heap[b]?=w.heap[b]?):lj w' a xs vs∧∀b,n7 w' a xs b→n7 w a xs b:=by
 have aa:w'.heap[a.block]?=w.heap[a.block]?:=au _ (.inl rfl);have ak:∀j,w'.cell? (a.add j)=w.cell? (a.add j):=fun j=>World.cell?_of_block (w:=w) (by rw[block_add];exact aa)
 have key:∀(j:Nat) (y:AC) (v:Value),xs[j]?=some y→w.cell? (a.add j)=some v→fX (fun _=>True) id w y v→fX (fun _=>True) id w' y v∧∀b,Jb w' y v b→Jb w y v b:=by
  intro j y v ai hv ao;cases y with
  | c u=>exact⟨ao,fun b h=>h⟩
  | own k o=>exact⟨ao,fun b h=>h⟩
  | p R =>
   have:=R.frame w w' v ao.1 fun b aa=>au b (.inr ⟨j,_,v,ai,hv,aa⟩);exact⟨⟨this.1,fun _ _=>trivial⟩,this.2⟩
 refine⟨⟨?_,⟨h.qD.1,fun i y v ai hv=>(key i y v ai (h.at_ i v hv) (h.qD.2 i y v ai hv)).1⟩,fun j v hv=>by rw[ak];exact h.at_ j v hv,h.gX⟩,?_⟩
 ·have bR:=Array.getElem?_eq_getElem h.lt;exact(iD.1 (aa.trans bR)).1
 ·rintro b (h1|⟨j,y,v,ai,hv,fF⟩)
  ·exact .inl h1
  ·rw[ak] at hv;have a7:j<vs.length:=by rw[←h.qD.1];exact(bt.1 ai).1
   have h2:=h.at_ j _ (bE a7);rw[hv] at h2;cases h2;exact .inr ⟨j,y,_,ai,hv,(key j y _ ai hv (h.qD.2 j y _ ai (bE a7))).2 b fF⟩
theorem lj.iW{w:World}{a:Addr}{xs:List AC}{vs:List Value}{b:Nat}(h:lj w a xs vs)(au:n7 w a xs b):b<w.heap.size:=by
 rcases au with rfl|⟨j,y,v,ai,hv,fF⟩
 ·exact h.lt
 ·have a7:j<vs.length:=by rw[←h.qD.1];exact(bt.1 ai).1
  have h2:=h.at_ j _ (bE a7);rw[hv] at h2;cases h2;have:=h.qD.2 j y _ ai (bE a7);cases y with
  | c u=>cases fF
  | own k o=>cases fF
  | p R=>exact R.iW _ _ _ this.1 fF
theorem lj.sub{w:World}{a:Addr}{xs:List AC}{vs:List Value}(h:lj w a xs vs)(off n:Nat):lj w (a.add off) ((xs.drop off).take n) ((vs.drop off).take n):=by
 refine⟨by rw[block_add];exact h.lt,h.qD.sub off n,fun j v hv => ?_,fun y ai=>h.gX y (oA (o4 ai))⟩;rw[Ay]
 have af:j<n:=by
  have:=(bt.1 hv).1;simp at this;omega
 rw[gm af,gR] at hv;exact h.at_ _ v hv
theorem n7.sub{w:World}{a:Addr}{xs:List AC}{off n b:Nat}(h:n7 w (a.add off) ((xs.drop off).take n) b):n7 w a xs b:=by
 rcases h with h|⟨j,y,v,ai,hv,fF⟩
 ·rw[block_add] at h;exact .inl h
 ·rw[Ay] at hv
  have af:j<n:=by
   have:=(bt.1 ai).1;simp at this;omega
  rw[gm af,gR] at ai;exact .inr ⟨_,y,v,ai,hv,fF⟩
theorem lj.xJ{w:World}{a:Addr}{xs:List AC}{vs:List Value}{U:Nat→Prop}{ad:Nat→Nat}(h:lj w a xs vs)(cX:∀b,n7 w a xs b→U b):bS U ad w xs vs:=by
 refine⟨h.qD.1,fun i y v ai hv => ?_⟩;have h1:=h.qD.2 i y v ai hv;have h2:=h.gX y (cN ai);cases y with
 | c u=>exact h1
 | own k o=>cases h2
 | p R=>exact⟨h1.1,fun b aa=>cX b (.inr ⟨i,_,v,ai,h.at_ i v hv,aa⟩)⟩
def pf(xs:List AC):dY where
 holds w v:=∃a vs,v = .pointer (some a)∧lj w a xs vs
 ls w v b:=∃a,v = .pointer (some a)∧n7 w a xs b
 frame w w' v:=by
  rintro⟨a,vs,rfl,h⟩ au;obtain⟨h1,h2⟩:=h.frame fun b aa=>au b ⟨a,rfl,aa⟩;exact⟨⟨a,vs,rfl,h1⟩,fun b ⟨a',e,aa⟩=>by cases e;exact⟨a,rfl,h2 b aa⟩⟩
 iW w v b:=by
  rintro⟨a,vs,rfl,h⟩ ⟨a',e,aa⟩;cases e;exact h.iW aa
 cell w v:=by rintro⟨a,vs,rfl,h⟩;rfl
def b4(sz n:Nat)(xs:List AC):dY where
 holds w v:=∃A c,v = .slice A n c∧n≤c∧xs.length=n*sz∧(0<n→∃a vs,A=some a∧lj w a xs vs)
 ls w v b:=∃c a,v = .slice (some a) n c∧0<n∧n7 w a xs b
 frame w w' v:=by
  rintro⟨A,c,rfl,ak,al,h⟩ au;refine⟨⟨A,c,rfl,ak,al,fun aA => ?_⟩,?_⟩
  ·obtain⟨a,vs,rfl,aK⟩:=h aA;exact⟨a,vs,rfl,(aK.frame fun b aa=>au b ⟨c,a,rfl,aA,aa⟩).1⟩
  ·rintro b ⟨c',a',e,aA,aa⟩;cases e;obtain⟨a,vs,e,aK⟩:=h aA;cases e;exact⟨c,a',rfl,aA,(aK.frame fun b aa=>au b ⟨c,a',rfl,aA,aa⟩).2 b aa⟩
 iW w v b:=by
  rintro⟨A,c,rfl,ak,al,h⟩ ⟨c',a',e,aA,aa⟩;cases e;obtain⟨a,vs,e,aK⟩:=h aA;cases e;exact aK.iW aa
 cell w v:=by rintro⟨A,c,rfl,_⟩;rfl
abbrev cE(sz n:Nat)(xs:List AC):ag := .w (.one (.p (b4 sz n xs)))
abbrev MP(xs:List AC):ag := .w (.one (.p (pf xs)))
theorem lB(R:dY)(j:Nat):¬(ag.w (.one (.p R))).owns j:=fun⟨y,ai,h⟩=>by simp[bG.cells] at ai;subst ai;cases h
section
variable{P:Program}{s:aB}{o:Oper}{ops:Array Oper}{K:aB→Prop}{rest:List Oper}{op:Op}{ty:Nat}{pos:String}{after:Array Edge}{guard:Option (Nat×Bool)}{d:Nat}
theorem Ih{av:ag}(hw:want ops ⟨some d,op,ty,pos,after,guard⟩ s=some true)(aj:x7 P s.look ⟨some d,op,ty,pos,after,guard⟩ av)(hd:Nat.blt d s.n=true)(h:bm P ops K rest (s.put (some d) av)):bm P ops K (⟨some d,op,ty,pos,after,guard⟩::rest) s :=
 sc (e:=⟨av,none⟩) hw (.fresh av aj) (mb hd) h
theorem nf{t sz:Nat}(h:uB P t=some sz):∃e i,P.underlying t=some (.slice e)∧P.info? e=some i∧i.size=sz:=by
 unfold uB at h
 split at h
 ·rename_i e hu;cases hi:P.info? e with
  | none=>rw[hi] at h;cases h
  | some i=>rw[hi] at h;cases h;exact⟨e,i,hu,hi,rfl⟩
 ·cases h
theorem jY{t e:Nat}(h:P.underlying t=some (.slice e)):P.elem t=e:=by simp[Program.elem,h]
theorem sb{t sz alZ n:Nat}{xs:List AC}{x:Operand} [S:hH P t alZ](hw:want ops ⟨some d,.call ⟨.builtin .len,#[x],#[t]⟩,ty,pos,after,guard⟩ s=some true)(ab:s.look x=some (cE sz n xs))(hd:Nat.blt d s.n=true)
  (h:bm P ops K rest (s.put (some d) (aL n))):bm P ops K (⟨some d,.call ⟨.builtin .len,#[x],#[t]⟩,ty,pos,after,guard⟩::rest) s:=by
 refine fZ (av:=aL n) hw ⟨fun _ _ h=>(by cases h),fun y ai => ?_,fun U ad W env he=>⟨.int .i64 n,?_,rfl,rfl⟩,fun j af=>absurd af (gP _ j)⟩ hd h
 ·simp[Op.operands,Call.operands] at ai;subst ai;exact⟨_,ab⟩
 ·obtain⟨⟨A,c,aH,_⟩,_⟩:=he x (by simp[Op.operands,Call.operands]) _ ab;obtain⟨e,i,hu,hi,_⟩:=nf S.h;have eZ:P.underlying t=some (.slice (P.elem t)):=by rw[jY hu];exact hu
  have em:(#[x]:Array Operand).map env = #[.slice A n c]:=by simp[aH]
  simp only[execOp,resolve,em,Sem.run_bind,Sem.run_pure,Result.andThen_ok,invoke,builtin];rw[run_len_slice W t ty A n c eZ];rfl
theorem AD{x y:Operand}{t sz n:Nat}{gK:IntKind}{i:Int}{xs ys:List AC} [S:hH P t sz](hw:want ops ⟨some d,.indexAddr t x y,ty,pos,after,guard⟩ s=some true)(ab:s.look x=some (cE sz n xs))(ai:s.look y=some (aQ (.int gK i)))(aF:0≤i)(h1:i<n)
  (he:(xs.drop (i.toNat*sz)).take sz=ys) (hd:Nat.blt d s.n=true) (h:bm P ops K rest (s.put (some d) (MP ys))):bm P ops K (⟨some d,.indexAddr t x y,ty,pos,after,guard⟩::rest) s:=by
 subst he;refine fZ hw ⟨fun _ _ h=>(by cases h),fun z aT => ?_,fun U ad W env he => ?_,fun j af=>absurd af (lB _ j)⟩ hd h
 ·simp[Op.operands] at aT;rcases aT with rfl|rfl
  ·exact⟨_,ab⟩
  ·exact⟨_,ai⟩
 ·obtain⟨⟨A,c,aH,ak,al,cr⟩,cX⟩:=he x (by simp[Op.operands]) _ ab;have hi:env y = .int gK i:=(he y (by simp[Op.operands]) _ ai).1;obtain⟨e,eJ,hu,b7,hs⟩:=nf S.h;obtain⟨a,vs,rfl,dE⟩:=cr (by omega);refine⟨.pointer (some (a.add (i.toNat*sz))),?_,⟨_,_,rfl,dE.sub _ _⟩,?_⟩
  ·simp only[execOp,Instr.indexAt,aH,hi,asIntOf,Sem.run_bind,Sem.run_pure,Result.andThen_ok,run_underlying hu,ij b7,if_pos (And.intro aF h1),hs]
  ·rintro b ⟨a',e,aa⟩;cases e;exact cX b ⟨c,a,aH,by omega,aa.sub⟩
theorem AE{x:Operand}{lt n:Nat}{xs:List AC}{y:AC} [T:e7 P lt false n](hw:want ops ⟨some d,.load lt x,ty,pos,after,guard⟩ s=some true)(ab:s.look x=some (MP xs))(ak:xs[0]?=some y)(ct:y.aY=true)(hd:Nat.blt d s.n=true)(h:bm P ops K rest (s.put (some d) (.w (.one y)))):bm P ops K (⟨some d,.load lt x,ty,pos,after,guard⟩::rest) s:=by
 refine fZ hw ⟨fun _ _ h=>(by cases h),fun y ai => ?_,fun U ad W env he => ?_,fun j af => ?_⟩ hd h
 ·simp[Op.operands] at ai;subst ai;exact⟨_,ab⟩
 ·obtain⟨⟨a,vs,aH,dE⟩,cX⟩:=he x (by simp[Op.operands]) _ ab;have ao:=dE.xJ (U:=U) (ad:=ad) fun b aa=>cX b ⟨a,aH,aa⟩;have a7:0<vs.length:=by rw[←ao.1];exact(bt.1 ak).1
  have hv:=bE a7;refine⟨_,?_,ao.2 0 y _ ak hv⟩;have eS:=T.h;have pq:W.cell? a=some vs[0]:=dE.at_ 0 _ hv;unfold lG at eS;cases hu:P.underlying lt with
  | none=>rw[hu] at eS;cases eS
  | some D =>
   have key:(loadVar lt a).run P W = .ok vs[0] W:=by
    refine Mb hu (fun bq e => ?_) (fun m e' e => ?_) pq
    ·subst e;cases hi:P.info? lt with
     | none=>simp[hu,hi] at eS
     | some eJ=>simp[hu,hi] at eS
    ·subst e;cases hi:P.info? lt with
     | none=>simp[hu,hi] at eS
     | some eJ=>simp[hu,hi] at eS
   simp only[execOp,Instr.loadAt,aH,Instr.sureAddr,Sem.run_bind,Sem.run_pure,Result.andThen_ok,key]
 ·exact absurd af (ag.c9 (x := .w (.one y)) ct j)
theorem Ii{x:Operand}{lt n:Nat}{xs ys:List AC} [T:e7 P lt true n](hw:want ops ⟨some d,.load lt x,ty,pos,after,guard⟩ s=some true)(ab:s.look x=some (MP xs))(ak:takeN xs 0 n=some ys)(ct:(bG.agg ys).aY=true)(hd:Nat.blt d s.n=true)(h:bm P ops K rest (s.put (some d) (.w (.agg ys)))):bm P ops K (⟨some d,.load lt x,ty,pos,after,guard⟩::rest) s:=by
 refine fZ hw ⟨fun _ _ h=>(by cases h),fun y ai => ?_,fun U ad W env he => ?_,fun j af => ?_⟩ hd h
 ·simp[Op.operands] at ai;subst ai;exact⟨_,ab⟩
 ·obtain⟨⟨a,vs,aH,dE⟩,cX⟩:=he x (by simp[Op.operands]) _ ab;obtain⟨q1,q2⟩:=Hj _ _ _ _ ak;have KC:=dE.sub 0 n;have ao:=KC.xJ (U:=U) (ad:=ad) fun b aa=>cX b ⟨a,aH,n7.sub aa⟩;rw[q2] at ao;have aV:a.add 0=a:=rfl;refine⟨.agg ((vs.drop 0).take n).toArray,?_,_,rfl,ao⟩;have eS:=T.h;unfold lG at eS;have hlen:((vs.drop 0).take n).length=n:=by have:=dE.qD.1;simp;omega
  have pq:=KC.at_;rw[aV] at pq;cases hu:P.underlying lt with
  | none=>rw[hu] at eS;cases eS
  | some D =>
   cases hi:P.info? lt with
   | none=>rw[hu,hi] at eS;cases D <;> cases eS
   | some eJ =>
    rw[hu,hi] at eS;have key:((∃bq,D = .struct bq)∨∃n e,D = .array n e)∧eJ.size=n:=by cases D <;> simp at eS <;> simp[eS]
    have:=Ma (P:=P) (w:=W) (A:=a) hu key.1 hi (by rw[hlen,key.2]) pq;simp only[execOp,Instr.loadAt,aH,Instr.sureAddr,Sem.run_bind,Sem.run_pure,Result.andThen_ok,this]
 ·exact absurd af (ag.c9 (x := .w (.agg ys)) ct j)
def zL(P:Program)(t:TypeId):Option (List Value) :=
 match P.underlying t with
 | some (.slice e)=>zeroOf P e
 | _=>none
class nZ (P:Program) (t:TypeId) (vs:outParam (List Value)):Prop where
 h:zL P t=some vs
def ja(n sz:Nat)(vs:List Value):List AC:=(List.range (n*sz)).map fun j => .c (vs.toArray[j % vs.length]!)
def zp(n sz:Nat):List (Nat×Nat):=(List.range n).map fun i=>(i*sz,sz)
theorem Zj{w:World}{rL:List AC}{us:List Value}{ty:TypeId}{U:Nat→Prop}{ad:Nat→Nat}(h:bS U ad w rL us)(ct:∀y∈rL,y.aY=true):lj (w.alloc (.cells us.toArray ty)) ⟨w.heap.size,0,none⟩ rL us:=by
 refine⟨by show w.heap.size<(w.heap.push _).size;simp,⟨h.1,fun i y v ai hv => ?_⟩,fun j v hv => ?_,ct⟩
 ·refine(h.2 i y v ai hv).map (fun b aa al=>⟨trivial,Below.heap_alloc _ _ _ al⟩) fun j af => ?_;exact absurd af (AC.c9 (ct y (cN ai)) j)
 ·have lQ:(⟨w.heap.size,0,none⟩:Addr).add j=⟨w.heap.size,j,none⟩:=by unfold Addr.add;split <;> simp_all
  rw[lQ];have:(w.alloc (.cells us.toArray ty)).heap[w.heap.size]?=some (.cells us.toArray ty (0,0)):=by show (w.heap.push _)[w.heap.size]?=_;simp
  simp only[World.cell?,this];simpa using hv
theorem Zk{w:World}{rL:List AC}{us:List Value}{ty:TypeId}{U:Nat→Prop}{ad:Nat→Nat}{b:Nat}(h:bS U ad w rL us)(au:n7 (w.alloc (.cells us.toArray ty)) ⟨w.heap.size,0,none⟩ rL b):U b∨w.heap.size≤b:=by
 rcases au with rfl|⟨j,y,v,ai,hv,fF⟩
 ·exact .inr (cF _)
 ·have lQ:(⟨w.heap.size,0,none⟩:Addr).add j=⟨w.heap.size,j,none⟩:=by unfold Addr.add;split <;> simp_all
  rw[lQ] at hv;have:(w.alloc (.cells us.toArray ty)).heap[w.heap.size]?=some (.cells us.toArray ty (0,0)):=by show (w.heap.push _)[w.heap.size]?=_;simp
  simp only[World.cell?,this] at hv;have bU:us[j]?=some v:=by simpa using hv
  have ao:=h.2 j y v ai bU;cases y with
  | c u=>cases fF
  | own k o=>cases fF
  | p R =>
   refine .inl (ao.2 b ?_);exact(R.frame w _ v ao.1 fun b0 cQ=>Below.heap_alloc _ _ _ (R.iW _ _ _ ao.1 cQ)).2 b fF
theorem NP{t n sz:Nat}{parts:List (Nat×Operand)}{vs:List Value}{zs:List (Nat×bG)}{r:List AC} [S:hH P t sz] [Z:nZ P t vs](hw:want ops ⟨some d,.buildSlice t n parts.toArray,ty,pos,after,guard⟩ s=some true)(aT:oU s.look parts=some zs)(aa:sg (zp n sz) (ja n sz vs) zs=some r)
  (h1:(vs.all fun v=>v.oneCell')=true) (hs:Nat.beq vs.length sz=true) (aF:Nat.blt 0 (n*sz)=true) (h2:Nat.ble (n*sz) 16777216=true) (ao:Nat.beq r.length (n*sz)=true) (ct:r.all AC.aY=true) (hd:Nat.blt d s.n=true) (h:bm P ops K rest (s.put (some d) (cE sz n r))):bm P ops K (⟨some d,.buildSlice t n parts.toArray,ty,pos,after,guard⟩::rest) s:=by
 refine Ih (av:=cE sz n r) hw ⟨fun z B4 => ?_,fun j af=>lB _ j af,fun U ad W env he => ?_⟩ hd h
 ·simp only[Op.operands,List.mem_toArray,fS] at B4;obtain⟨p,hp,rfl⟩:=B4;obtain⟨z,h1,_⟩:=K6 parts zs aT p hp;exact⟨_,h1⟩
 ·obtain⟨e,i,hu,hi,bI⟩:=nf S.h;have ed:=Z.h;unfold zL at ed;rw[hu] at ed;simp only at ed;unfold zeroOf at ed;rw[hi] at ed;simp only[lW] at ed;cases iA:i.zero with
  | none=>rw[iA] at ed;cases ed
  | some z =>
   rw[iA] at ed;cases ed;have hlen:z.cells.toList.length=sz:=gl hs;have Bf:0<n*sz:=by simpa [lC] using aF
   have yD:n*sz≤16777216:=by simpa [Nat.ble_eq] using h2
   have FL:r.length=n*sz:=gl ao;have rb:∀y∈r,y.aY=true:=b6.1 ct;have tW:(zeroValue e).run P W = .ok z W:=by simp[zeroValue,typeInfo,program,Sem.run_bind,Sem.run,hi,Result.andThen,iA]
   have hJ:bS U ad W (ja n sz z.cells.toList) ((List.range (n*sz)).map fun j=>z.cells[j % z.cells.size]!):=by
    refine⟨by simp[ja],fun j x v ab hv => ?_⟩;have af:j<n*sz:=by have:=(bt.1 hv).1;simpa using this
    simp only[ja,dG,xE af,gD,iE] at ab hv;subst ab;subst hv;have xh:z.cells.size=sz:=by simpa using hlen
    have Kn:0<sz:=Nat.pos_of_mul_pos_left Bf |> fun h=>by
     rcases xF sz with q|q
     ·rw[q] at Bf;simp at Bf
     ·exact q
    have a7:j % z.cells.size<z.cells.size:=Nat.mod_lt _ (by omega);have aN:z.cells.toList.toArray[j % z.cells.toList.length]! = z.cells[j % z.cells.size]! := by simp
    refine⟨aN.symm,?_⟩;rw[aN,getElem!_pos z.cells _ a7];exact b6.1 h1 _ (by simp)
   obtain⟨us,g1,g2⟩:=Bb (U:=U) (ad:=ad) (W:=W) (ps:=zp n sz) (place:=fun i=>some (i*sz,sz)) (fun i q aj=>by
     simp only[zp,dG] at aj;cases ao:(List.range n)[i]? with
     | none=>rw[ao] at aj;cases aj
     | some m =>
      rw[ao] at aj;cases aj;have:=bt.1 ao;obtain⟨ar,aJ⟩:=this;simp at aJ;rw[aJ]) (look:=s.look) (env:=env) parts _ _ zs r hJ aT (fun p hp a aV=>he p.2 (by simp only[Op.operands,List.mem_toArray,fS];exact⟨p,hp,rfl⟩) a aV) aa
   refine⟨.slice (some ⟨W.heap.size,0,none⟩) n n,W.alloc (.cells us.toArray e),?_,⟨⟨some ⟨W.heap.size,0,none⟩,n,rfl,cF _,FL,fun aA=>⟨_,us,rfl,Zj g2 rb⟩⟩,?_⟩,(Below.refl _ _).alloc (cF _) _⟩
   ·have vo:(parts.toArray.map fun(i,x)=>(i,env x)).toList=parts.map fun p=>(p.1,env p.2):=by simp
    have ck:(Array.range (n*sz)).map (fun j=>z.cells[j % z.cells.size]!)=((List.range (n*sz)).map fun j=>z.cells[j % z.cells.size]!).toArray:=by simp[←List.toArray_range]
    simp only[execOp,Instr.buildSlice,Sem.run_bind,run_underlying hu,Result.andThen_ok,ij hi,bI];rw[if_neg (by omega),if_neg (by omega)];simp only[Sem.run_bind,Sem.run_pure,tW,Result.andThen_ok,ck,vo,g1,newRow,newObj,Sem.run];rfl
   ·rintro b ⟨c,a,e,aA,aa⟩;cases e;exact Zk g2 aa
end
def gB{α:Type}:List (Nat×α)→Nat→Option α
 | [],_=>none
 | (k,v)::r,t=>bif Nat.beq t k then some v else gB r t
def ei(n:Nat)(az:List (Nat×ag))(aS:List (Nat×List AC)):aB:=⟨n,gB az,gB aS⟩
def hY{α:Type}(f:Nat→Option α):List (Nat×α)→Prop
 | []=>True
 | (k,v)::r=>f k=some v∧hY f r
theorem AF{α:Type}{f:Nat→Option α}:∀(l:List (Nat×α)),hY f l→∀t v,gB l t=some v→f t=some v
 | [],_,t,v,h=>by cases h
 | (k,u)::r,aV,t,v,h=>by
  simp only[gB] at h;cases aa:Nat.beq t k with
  | true=>rw[aa] at h;cases h;rw[gl aa];exact aV.1
  | false=>rw[aa] at h;exact AF r aV.2 t v h
theorem rq{s:aB}{n:Nat}{az:List (Nat×ag)}{aS:List (Nat×List AC)}(aA:n=s.n)(aC:hY s.tmps az)(hm:hY s.mem aS):s.aU (ei n az aS) :=
 ⟨aA,AF az aC,AF aS hm⟩
def F5{α:Type}(aS:List (Nat×α))(k:Nat):Bool:=aS.any fun p=>Nat.beq k p.1
def D3(aS:List (Nat×List AC)):AC→Bool
 | .own k _=>F5 aS k
 | _=>true
def Zs(aS:List (Nat×List AC)):ag→Bool
 | .w x=>x.cells.all (D3 aS)
 | .cl xs=>xs.all fun x=>x.cells.all (D3 aS)
def okB(az:List (Nat×ag))(aS:List (Nat×List AC)):Bool:=az.all (fun p=>Zs aS p.2)&&aS.all fun p=>p.2.all (D3 aS)
theorem RX{α:Type}{k:Nat}:∀(aS:List (Nat×α)),F5 aS k=true→∃v,gB aS k=some v
 | [],h=>by cases h
 | (j,u)::r,h=>by
  simp only[F5,List.any_cons,pC] at h;simp only[gB];cases aa:Nat.beq k j with
  | true=>exact⟨u,rfl⟩
  | false=>rw[aa] at h;exact RX r (by simpa [F5] using h)
theorem Cm{α:Type}{k:Nat}{v:α}:∀(aS:List (Nat×α)),gB aS k=some v→(k,v)∈aS
 | [],h=>by cases h
 | (j,u)::r,h=>by
  simp only[gB] at h;cases aa:Nat.beq k j with
  | true=>rw[aa] at h;cases h;rw[gl aa];simp
  | false=>rw[aa] at h;exact k5 _ (Cm r h)
theorem Ia{aS:List (Nat×List AC)}{x:AC}{j:Nat}(h:D3 aS x=true)(af:x.owns j):∃cs,gB aS j=some cs:=by
 cases x with
 | c v=>cases af
 | p R=>cases af
 | own k o=>cases af;exact RX aS h
theorem rs{n:Nat}{az:List (Nat×ag)}{aS:List (Nat×List AC)}(h:okB az aS=true):(ei n az aS).bQ:=by
 unfold okB at h;rw[ef] at h;refine⟨fun t av j aC af => ?_,fun k cs x j ae ab af => ?_⟩
 ·have h1:=b6.1 h.1 _ (Cm az aC);cases av with
  | w x =>
   obtain⟨y,ai,nF⟩:=af;exact Ia (b6.1 h1 y ai) nF
  | cl xs =>
   obtain⟨z,aT,y,ai,nF⟩:=af;exact Ia (b6.1 (b6.1 h1 z aT) y ai) nF
 ·have h1:=b6.1 h.2 _ (Cm aS ae);exact Ia (b6.1 h1 x ab) af
section
variable{P:Program}{s:aB}{x:Code}
theorem oI{Q:Exit→aB→Prop}(N:Nat)(I:Nat→List (Nat×ag)→List (Nat×List AC)→Prop)(k:Nat)(az:List (Nat×ag))(aS:List (Nat×List AC))(bh:I k az aS)(aA:N=s.n)(aC:hY s.tmps az)(hm:hY s.mem aS)(ok:okB az aS=true)
  (round:∀k az aS,I k az aS→okB az aS=true→fz P x (tr (fun s'=>∃k' hE ht,k'<k∧I k' hE ht∧N=s'.n∧hY s'.tmps hE∧hY s'.mem ht∧okB hE ht=true) Q) (ei N az aS)):fz P (.loop x) Q s:=by
 refine Od (fun k s=>∃az aS,I k az aS∧okB az aS=true∧s=ei N az aS) k (ei N az aS) (rq aA aC hm) (rs ok) ⟨az,aS,bh,ok,rfl⟩ ?_;rintro k s ⟨az,aS,bh,ok,rfl⟩;intro bV B A ad a w an;refine rW (round k az aS bh ok bV B A ad a w an) ?_;rintro e a' w' ⟨s',aW,xy,bu,aj⟩;refine⟨s',aW,xy,bu,?_⟩;cases e with
 | normal =>
  obtain⟨k',hE,ht,h1,h2,ar,aJ,bR,fb⟩:=aj;exact⟨k',h1,ei N hE ht,rq ar aJ bR,rs fb,hE,ht,h2,fb,rfl⟩
 | _=>exact aj
def CY(P:Program)(x:Code)(Q:Exit→aB→Prop):Nat→aB→Prop
 | 0,_=>False
 | n+1,s=>fz P x (tr (CY P x Q n) Q) s
theorem akm{Q:Exit→aB→Prop}{n:Nat}(h:fz P x (tr (CY P x Q n) Q) s):CY P x Q (n+1) s:=h
theorem Zv(n:Nat){Q:Exit→aB→Prop}(h:CY P x Q n s):fz P (.loop x) Q s:=by
 intro ok;refine Od (fun k s=>s.bQ∧CY P x Q k s) n s ⟨rfl,fun _ _ h=>h,fun _ _ h=>h⟩ ok ⟨ok,h⟩ ?_ ok;rintro k s ⟨ok,h⟩;cases k with
 | zero=>cases h
 | succ k =>
  intro bV B A ad a w an;refine rW (h bV B A ad a w an) ?_;rintro e a' w' ⟨s',aW,xy,bu,aj⟩;refine⟨s',aW,xy,bu,?_⟩;cases e with
  | normal=>exact⟨k,Nat.lt_succ_self k,s',⟨rfl,fun _ _ h=>h,fun _ _ h=>h⟩,xy,xy,aj⟩
  | _=>exact aj
end
structure Aj where
 v:Value
 n:Nat
 xs:List Value
section
variable{P:Program}{B eT:cV}{A b3:Nat→Prop}{s s':aB}{ad:Nat→Nat}{a:Act}{w w':World}
theorem Rel.pT(h:Rel B A s ad a w)(cX:∀b,A b→b<w.heap.size→b3 b∧w'.heap[b]?=w.heap[b]?)(da:∀k cs,s.mem k=some cs→w'.heap[ad k]?=w.heap[ad k]?∧¬eT.F (ad k))(pn:eR eT w')(B0:∀b,eT.W.heap.size≤b→b3 b)(JH:uJ eT s ad)(mi:eT.marks=B.marks:=by rfl):Rel eT b3 s ad a w':=by
 have P7:∀b,s.free A ad b→b<w.heap.size→s.free b3 ad b∧w'.heap[b]?=w.heap[b]?:=fun b aa al=>⟨⟨(cX b aa.1 al).1,aa.2⟩,(cX b aa.1 al).2⟩;refine⟨h.kD.trans mi.symm,h.size,fun t av aC => ?_,fun k cs ae => ?_,h.inj,pn,B0,JH⟩
 ·obtain⟨v,h1,h2⟩:=h.dp t av aC;exact⟨v,h1,h2.map P7 fun _ _=>rfl⟩
 ·obtain⟨vs,ty,h1,h2,ar⟩:=h.c4 k cs ae;exact⟨vs,ty,by rw[(da k cs ae).1];exact h1,h2.map P7 fun _ _ _ _=>rfl,(da k cs ae).2⟩
theorem Rel.L2{d:Nat}{av bv:ag}(h:Rel B A s ad a w)(hd:s.tmps d=some bv)(hv:∀v,a.tmps[d]?=some v→cR (s.free A ad) ad w bv v→cR (s.free A ad) ad w av v):Rel B A (s.put (some d) av) ad a w:=by
 refine⟨h.kD,h.size,fun t cv aC => ?_,h.c4,h.inj,h.below,h.up,h.fN⟩;simp only[aB.put] at aC
 by_cases e:t=d
 ·subst e;rw[bX] at aC;cases aC;obtain⟨v,h1,h2⟩:=h.dp t bv hd;exact⟨v,h1,hv v h1 h2⟩
 ·rw[bN _ _ e] at aC;exact h.dp t cv aC
def h0(B:cV)(s:aB)(ad:Nat→Nat)(w:World):cV:=⟨w,fun b=>b<w.heap.size∧∀k cs,s.mem k=some cs→ad k≠b,fun _ h=>h.1,fun k=>if s.n≤k then some (ad k) else none,B.marks⟩
theorem lR{B:cV}(s:aB)(ad:Nat→Nat)(w:World):uJ (h0 B s ad w) s ad:=fun k b ae=>by
 simp only[h0] at ae
 split at ae
 ·rename_i h;exact⟨h,lD ae⟩
 ·cases ae
theorem Zm{aG:cV}{s s':aB}{ad aW:Nat→Nat}{w w':World}{A:Nat→Prop}{a':Act}(h:uJ aG s ad)(bu:Rel (h0 aG s ad w) A s' aW a' w'):uJ aG s' aW:=fun k b ae=>by
 obtain⟨h1,h2⟩:=h k b ae;obtain⟨ar,aJ⟩:=bu.fN k (ad k) (by simp[h0,h1]);exact⟨ar,aJ.trans h2⟩
theorem Rel.hot(h:Rel B A s ad a w)(B0:∀b,w.heap.size≤b→A b):Rel (h0 B s ad w) A s ad a w :=
 h.pT (fun b h _=>⟨h,rfl⟩) (fun k cs ae=>⟨rfl,fun au=>au.2 k cs ae rfl⟩) (eR.refl _) B0 (lR _ _ _)
theorem Tk{base:Nat}{e:TypeId}{sz:Nat}{v:Value}{n:Nat}{xs:List Value}(h:w.ownsRow base e sz v n xs)(aw:∀g,v.ownBlock=some g→w'.heap[g]?=w.heap[g]?):w'.ownsRow base e sz v n xs:=by
 refine⟨h.1,?_⟩;rcases h.2 with aA|⟨g,cap,cur,rfl,aa,sA,rest⟩
 ·exact .inl aA
 ·exact .inr ⟨g,cap,cur,rfl,aa,(aw g rfl).trans sA,rest⟩
end
def HL(aG:cV)(aO:Nat→Prop)(e sz:Nat)(t:Aj)(s:aB)(a:Act)(w:World):Prop :=
 ∃A ad,(∀b,A b→aO b)∧Rel (h0 aG s ad w) A s ad a w∧(∀k cs,s.mem k=some cs→¬aG.F (ad k))∧eR aG w∧w.ownsRow aG.W.heap.size e sz t.v t.n t.xs∧(∀g,t.v.ownBlock=some g→¬A g∧∀k cs,s.mem k=some cs→ad k≠g)∧(∀u∈t.xs,u.oneCell'=true)∧uJ aG s ad
def Xs(P:Program)(e sz:Nat)(c:Code)(Q:Exit→Aj→aB→Prop)(t:Aj)(s:aB):Prop :=
 s.bQ→∀(aG:cV) aO a w,(∀b,aG.W.heap.size≤b→aO b)→HL aG aO e sz t s a w→lc P c (fun x a' w'=>∃kM s',s'.bQ∧HL aG aO e sz kM s' a' w'∧Q x kM s') a w
section
variable{P:Program}{e sz:Nat}{t:Aj}{s:aB}{Q:Exit→Aj→aB→Prop}{x y c:Code}
theorem amY{Q:Exit→aB→Prop}(e sz:Nat)(h:Xs P e sz c (fun x t s'=>∃d,s'.tmps d=some (aQ t.v)∧Q x (s'.put (some d) (cE sz t.n (t.xs.map .c)))) ⟨.slice none 0 0,0,[]⟩ s):fz P c Q s:=by
 intro ok B A ad a w an;have cb:HL B A e sz ⟨.slice none 0 0,0,[]⟩ s a w:=⟨A,ad,fun _ h=>h,an.hot fun b h=>an.up b (eO an.below.size h),fun k cs ae=>(an.c4 k cs ae).choose_spec.choose_spec.2.2,an.below,World.ownsRow_nil w B.W.heap.size e sz,fun g aw=>(by cases aw),fun u hu=>(by cases hu),an.fN⟩;refine rW (h ok B A a w an.up cb) ?_;rintro x a' w' ⟨kM,s',bV,⟨dC,ej,ab4,tI,ad0,mP,FK,w5,adU,acC⟩,d,hd,aj⟩;refine⟨_,ej,bV.put fun j af=>absurd af (lB _ j),?_,aj⟩;have p9:Rel B A s' ej a' w':=tI.pT (fun b aa _=>⟨ab4 b aa,rfl⟩) (fun k cs ae=>⟨rfl,ad0 k cs ae⟩) mP an.up acC;refine p9.L2 hd fun v jD mV => ?_;obtain⟨rfl,E7⟩:=mV;obtain⟨al,aA|⟨g,cap,cur,jA,po,sB,eN,j4,dE,ol⟩⟩:=FK
 ·obtain⟨aH,aN⟩:=aA;rw[aH];exact⟨⟨none,0,by rw[aN],by omega,by simpa using al,fun h=>absurd h (by omega)⟩,fun b ⟨c',a',q,aA,aa⟩=>by cases q⟩
 ·have mR:∀(j:Nat) u,kM.xs[j]?=some u→w'.cell? ((⟨g,0,none⟩:Addr).add j)=some u:=World.ownsRow.cells ⟨al,.inr ⟨g,cap,cur,jA,po,sB,eN,j4,dE,ol⟩⟩ (by rw[jA];rfl);have sA:=(w5 g (by rw[jA];rfl)).2;rw[jA];refine⟨⟨some ⟨g,0,none⟩,cap,rfl,eN,by simpa using al,fun aA=>⟨⟨g,0,none⟩,kM.xs,rfl,(iD.1 sB).1,⟨by simp,fun i y v ai hv => ?_⟩,mR,fun y ai => ?_⟩⟩,?_⟩
  ·rw[dG,hv] at ai;cases ai;exact⟨rfl,adU v (cN hv)⟩
  ·obtain⟨v,_,rfl⟩:=fS.1 ai;rfl
  ·rintro b ⟨c',a',q,aA,au⟩;cases q;rcases au with rfl|⟨j,y,v,ai,hv,fF⟩
   ·exact⟨an.up _ po,sA⟩
   ·rw[dG] at ai;cases lS:kM.xs[j]? with
    | none=>rw[lS] at ai;cases ai
    | some u=>rw[lS] at ai;cases ai;cases fF
theorem Vb(w:World)(base:Nat)(t ty e:TypeId)(i:TypeInfo)(z:Value)(size bytes:Nat)(aC:P.underlying t=some (.slice e))(hi:P.info? e=some i)(aT:i.zero=some z)
  (iz:i.size=size) (mg:i.bytes=bytes) (qi:z.cells.size=size) (bI:0<size)
  (v:Value) (n:Nat) (xs:List Value) (da:w.ownsRow base e size v n xs)
  (a:Addr) (m c:Nat) (news:List Value) (al:news.length=m*size) (mj:∀j u,news[j]?=some u→w.cell? (a.add j)=some u) (h1:∀u∈news,u.oneCell'=true)
  (Js:n+m≤maxLen) (JO:(n+m)*bytes≤140737488355328) (h0:base≤w.heap.size) (hm:0<m) :
  ∃ba w',(Builtin.append_ #[t,t] ty #[v,.slice (some a) m c]).run P w = .ok ba w'∧w'.ownsRow base e size ba (n+m) (xs++news)∧w.grownBy w' v.ownBlock∧(∀g,ba.ownBlock=some g→v.ownBlock=some g∨w.heap.size≤g)∧ba.oneCell'=true:=by
 obtain⟨ba,w',ao,h2,ar,aJ⟩:=run_append_own (P:=P) w base t ty e i z size bytes aC hi aT iz mg qi bI v n xs da a m c news al mj h1 Js JO h0;refine⟨ba,w',ao,h2,ar,?_,?_⟩
 ·have anY:n+m≤9223372036854775807:=by simp only[maxLen] at Js;omega
  rcases da.2 with ⟨rfl,rfl⟩|⟨g,cap,cur,rfl,po,aw,eN,j4,dE,ol⟩
  ·have ab:xs=[]:=na (by simpa using da.1);subst ab;have:=run_append_nil (P:=P) w t ty e i z aC hi aT a m c news (by rw[iz];exact al) mj hm (by omega) (by rw[mg];simp only[iF] at JO;omega);rw[this] at ao;cases ao;intro g aw;simp[Value.ownBlock] at aw;exact .inr (by omega)
  ·by_cases j9:n+m≤cap
   ·have nA:n*i.size+news.length≤cur.size:=by rw[iz,al,dE,←lX];exact ig _ j9
    have:=run_append_room (P:=P) w t ty e i aC hi g n cap cur aw a m c news (by rw[iz];exact al) mj h1 j9 nA;rw[this] at ao;cases ao;intro c3 dx;exact .inl dx
   ·have holds:∀j u,xs[j]?=some u→w.cell? ((⟨g,0,none⟩:Addr).add j)=some u:=da.cells (g:=g) rfl;have:=run_append_grow (P:=P) w t ty e i z aC hi aT ⟨g,0,none⟩ n cap xs (by rw[iz];exact da.1) holds a m c news (by rw[iz];exact al) mj (by omega) (by omega) (growslice_fits (by omega) (by rw[mg];exact JO));rw[this] at ao;cases ao;intro c3 dx;simp[Value.ownBlock] at dx;exact .inr (by omega)
 ·rcases h2.2 with ⟨rfl,_⟩|⟨g,cap,cur,rfl,_⟩ <;> rfl
theorem H8{ro:Option Nat}{B:cV}{A:Nat→Prop}{ops:Array Oper}{K:aB→Prop}{Q:Exit→Act→World→Prop}{r:List Nat}(nv:∀s' aW a' w',s'.bQ→Rel B A s' aW a' w'→K s'→wpOpsIn (l8 ro) 0 P ops Q r a' w'):∀(l:List Oper) (k:Nat) (s:aB) (ad:Nat→Nat) (a:Act) (w:World),(∀(j:Nat),j<l.length→l[j]?=ops[k+j]?)→s.bQ→Rel B A s ad a w →
  bm P ops K l s→wpOpsIn (l8 ro) 0 P ops Q ((List.range l.length).map (k + ·)++r) a w
 | [],_,_,_,_,_,_,ok,an,h=>nv _ _ _ _ ok an h
 | o::l,k,s,ad,a,w,al,ok,an,h=>by
  have aF:ops[k]?=some o:=by simpa using (al 0 (by simp)).symm
  have e:(List.range (o::l).length).map (k + ·)=k::(List.range l.length).map (k+1 + ·):=by
   rw[hP,List.range_succ_eq_map,hQ,List.map_map];congr 1;apply nN;intro j _;simp[oB,oC 1 j]
  rw[e,uo,wpOpsIn_cons];refine D1 aF ok an h fun s' aW a' w' bV bu ae=>H8 nv l (k+1) s' aW a' w' (fun j af=>by have:=al (j+1) (by simp;omega);simpa [oB,oC 1 j] using this) bV bu ae
def xI(P:Program)(tt e sz bytes:Nat):Bool:=match P.underlying tt,P.info? e with
 | some (.slice e'),some i=>match i.zero with
  | some z=>Nat.beq e' e&&Nat.beq i.size sz&&Nat.beq i.bytes bytes&&Nat.beq z.cells.size sz&&Nat.blt 0 sz
  | none=>false
 | _,_=>false
class nm (P:Program) (tt:TypeId) (e sz bytes:outParam Nat):Prop where
 h:xI P tt e sz bytes=true
theorem s8{tt e sz bytes:Nat}(h:xI P tt e sz bytes=true):∃(i:TypeInfo) (z:Value),P.underlying tt=some (.slice e)∧P.info? e=some i∧i.zero=some z∧i.size=sz∧i.bytes=bytes∧z.cells.size=sz∧0<sz:=by
 unfold xI at h
 split at h
 ·rename_i e' i hu hi
  split at h
  ·rename_i z aT;simp only[ef] at h;obtain⟨⟨⟨⟨h1,h2⟩,ar⟩,aJ⟩,bR⟩:=h;rw[gl h1] at hu;exact⟨i,z,hu,hi,aT,gl h2,gl ar,gl aJ,by simpa [lC] using bR⟩
  ·cases h
 ·cases h
def AU:Nat→List Oper→Option (List Oper×List Oper)
 | 0,l=>some ([],l)
 | k+1,o::l=>match AU k l with
  | some (a,b)=>some (o::a,b)
  | none=>none
 | _+1,[]=>none
theorem II:∀(k:Nat) (l a b:List Oper),AU k l=some (a,b)→l=a++b
 | 0,l,a,b,h=>by cases h;rfl
 | k+1,[],a,b,h=>by cases h
 | k+1,o::l,a,b,h=>by
  simp only[AU] at h
  split at h
  ·rename_i a' b0 ak;cases h;have:=II k l _ _ ak;rw[this];rfl
  ·cases h
end
end Go.Proofs.YtklpfooafbjnpaaGreat
