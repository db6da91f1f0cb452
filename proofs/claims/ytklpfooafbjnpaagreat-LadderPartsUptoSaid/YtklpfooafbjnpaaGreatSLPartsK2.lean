/-
  My own texts,without what this claim does not need. My own text.
-/
import Derived.Tactics
import Derived.IntWalk
import Derived.Laws.AppendOwn
import Derived.Test.YtklpfooafbjnpaaGreatSLPartsK1
set_option maxRecDepth 100000
set_option maxHeartbeats 64000000
set_option linter.unusedVariables false
set_option linter.unusedSimpArgs false
set_option linter.unusedSectionVars false
namespace Go.Proofs.YtklpfooafbjnpaaGreat
open Go.RowKit
abbrev aQ(v:Value):ag := .w (.one (.c v))
abbrev aL(n:Int):ag:=aQ (.int .i64 n)
abbrev bl(b:Bool):ag:=aQ (.bool b)
abbrev nS(k off:Nat):ag := .w (.one (.own k off))
def lD(P:Program)(ty:TypeId):Option (Bool×Nat) :=
 match P.underlying ty,P.info? ty with
 | some (.struct _),some i|some (.array _ _),some i=>some (true,i.size)
 | some _,some i=>some (false,i.size)
 | _,_=>none
class e7 (P:Program) (ty:TypeId) (agg:outParam Bool) (n:outParam Nat):Prop where
 h:lD P ty=some (agg,n)
def zeroOf(P:Program)(ty:TypeId):Option (List Value):=((P.info? ty).bind (·.zero)).map fun z=>z.cells.toList
class DO (P:Program) (ty:TypeId) (vs:outParam (List Value)):Prop where
 h:zeroOf P ty=some vs
def wI(P:Program)(ty:TypeId)(i:Nat):Option Nat :=
 match P.underlying ty with
 | some (.struct br)=>(br[i]?).bind fun f=>(P.info? f.type).bind fun t=>if t.size=0 then none else some f.offset
 | _=>none
class qE (P:Program) (ty:TypeId) (i:Nat) (off:outParam Nat):Prop where
 h:wI P ty i=some off
def D2(P:Program)(ty:TypeId):Option (Nat×Nat) :=
 match P.underlying ty with
 | some (.array n e)=>(P.info? e).map fun t=>(n,t.size)
 | _=>none
class MS (P:Program) (ty:TypeId) (n size:outParam Nat):Prop where
 h:D2 P ty=some (n,size)
def um(P:Program)(ty:TypeId):Option Nat :=
 match P.underlying ty with
 | some (.slice e)=>(P.info? e).map fun t=>t.size
 | _=>none
class hE (P:Program) (ty:TypeId) (size:outParam Nat):Prop where
 h:um P ty=some size
def Gw(P:Program)(ty:TypeId):Option (List (Nat×Nat)) :=
 match P.underlying ty with
 | some (.struct br)=>br.toList.mapM fun f=>(P.info? f.type).map fun t=>(f.offset,t.size)
 | some (.array n e)=>bif Nat.ble n 32 then(P.info? e).map fun t=>(List.range n).map fun i=>(i*t.size,t.size) else none
 | _=>none
class Nf (P:Program) (ty:TypeId) (ps:outParam (List (Nat×Nat))):Prop where
 h:Gw P ty=some ps
class HG (P:Program) (ty:TypeId) (k:outParam IntKind):Prop where
 h:P.underlying ty=some (.int k)
class Enters (P:Program) (f:FuncId):Prop where
 h:enters P f=true
def takeN:List AC→Nat→Nat→Option (List AC)
 | _,0,0=>some []
 | [],_,_=>none
 | c::cs,0,n+1=>match takeN cs 0 n with
  | some r=>some (c::r)
  | none=>none
 | _::cs,off+1,n=>takeN cs off n
def qt:List AC→Nat→List AC→Option (List AC)
 | cs,0,[]=>some cs
 | [],_,_=>none
 | _::cs,0,d::ds=>match qt cs 0 ds with
  | some r=>some (d::r)
  | none=>none
 | c::cs,off+1,ds=>match qt cs off ds with
  | some r=>some (c::r)
  | none=>none
theorem G8:∀(cs:List AC) (off n:Nat) (r:List AC),takeN cs off n=some r→off+n≤cs.length∧(cs.drop off).take n=r
 | cs,0,0,r,h=>by
  cases cs <;> (simp only[takeN,iC] at h;subst h;simp)
 | [],0,n+1,r,h=>by simp[takeN] at h
 | [],off+1,n,r,h=>by cases n <;> simp[takeN] at h
 | c::cs,0,n+1,r,h=>by
  simp only[takeN] at h
  split at h
  ·rename_i bb ao;cases h;have:=G8 cs 0 n bb ao;simp at this ⊢;exact this
  ·cases h
 | c::cs,off+1,n,r,h=>by
  have aJ:takeN cs off n=some r:=by cases n <;> simpa [takeN] using h
  have:=G8 cs off n r aJ;exact⟨by have:=this.1;simp;omega,by simpa using this.2⟩
theorem CB:∀(cs:List AC) (off:Nat) (ds:List AC) (r:List AC),qt cs off ds=some r→off+ds.length≤cs.length∧eP cs off ds=r
 | cs,0,[],r,h=>by
  cases cs <;> (simp only[qt,iC] at h;subst h;simp[eP])
 | [],0,d::ds,r,h=>by simp[qt] at h
 | [],off+1,ds,r,h=>by cases ds <;> simp[qt] at h
 | c::cs,0,d::ds,r,h=>by
  simp only[qt] at h
  split at h
  ·rename_i bb ao;cases h;have:=CB cs 0 ds bb ao;simp[eP] at this ⊢;exact this
  ·cases h
 | c::cs,off+1,ds,r,h=>by
  simp only[qt] at h
  split at h
  ·rename_i bb ao;cases h;have:=CB cs off ds bb ao;simp[eP,Nat.add_right_comm] at this ⊢;exact this
  ·cases h
section
variable{P:Program}{s s':aB}{o:Oper}{ops:Array Oper}{rest:List Oper}{K:aB→Prop}
theorem dC(h:K s):bm P ops K [] s:=h
theorem NL{prs:List (Nat×Nat)}(hs:prs.all (nP s)=true)(h:K s):bm P ops (fun s=>prs.all (nP s)=true∧K s) [] s:=⟨hs,h⟩
theorem rZ{e:cC}(hw:want ops o s=some true)(he:fa P s.n s.look s.mem o true e)(hd:∀d,o.dst=some d→d<s.n)(h:bm P ops K rest (e.on o.dst s)):bm P ops K (o::rest) s:=⟨true,hw,e,he,hd,h⟩
section
variable{d ty:Nat}{op:Op}{pos:String}{after:Array Edge}{guard:Option (Nat×Bool)}
theorem me{d:Nat}(hd:Nat.blt d s.n=true):∀d',some d=some d'→d'<s.n:=fun d' e=>by cases e;simpa [lz] using hd
theorem NM{dst:Option Nat}(hw:want ops ⟨dst,op,ty,pos,after,guard⟩ s=some false)(hd:∀d,dst=some d→Nat.blt d s.n=true)(h:bm P ops K rest (s.put dst (.ck []))):bm P ops K (⟨dst,op,ty,pos,after,guard⟩::rest) s :=
 ⟨false,hw,_,.skip,fun d e=>by have:=hd d e;simpa [lz] using this,h⟩
theorem gb{av:ag}(hw:want ops ⟨some d,op,ty,pos,after,guard⟩ s=some true)(aj:x1 P s.look ⟨some d,op,ty,pos,after,guard⟩ av)(hd:Nat.blt d s.n=true)(h:bm P ops K rest (s.put (some d) av)):bm P ops K (⟨some d,op,ty,pos,after,guard⟩::rest) s :=
 rZ hw (.quiet av aj) (me hd) h
theorem YI{x:Operand}{av:ag}(hw:want ops ⟨some d,.move x,ty,pos,after,guard⟩ s=some true)(ab:s.look x=some av)(hd:Nat.blt d s.n=true)(h:bm P ops K rest (s.put (some d) av)):bm P ops K (⟨some d,.move x,ty,pos,after,guard⟩::rest) s:=by
 refine gb hw ⟨fun _ _ h=>(by cases h),fun y ai => ?_,fun U ad W env he=>⟨env x,rfl,he x (by simp[Op.operands]) av ab⟩,fun j af=>⟨x,by simp[Op.operands],av,ab,af⟩⟩ hd h;simp[Op.operands] at ai;subst ai;exact⟨av,ab⟩
theorem Yi{x:Operand}{av:ag}(hw:want ops ⟨some d,.assign x,ty,pos,after,guard⟩ s=some true)(ab:s.look x=some av)(hd:Nat.blt d s.n=true)(h:bm P ops K rest (s.put (some d) av)):bm P ops K (⟨some d,.assign x,ty,pos,after,guard⟩::rest) s:=by
 refine gb hw ⟨fun _ _ h=>(by cases h),fun y ai => ?_,fun U ad W env he=>⟨env x,rfl,he x (by simp[Op.operands]) av ab⟩,fun j af=>⟨x,by simp[Op.operands],av,ab,af⟩⟩ hd h;simp[Op.operands] at ai;subst ai;exact⟨av,ab⟩
theorem Yu{x:Operand}{i:Nat}{xs:List bF}{y:bF}(hw:want ops ⟨some d,.extract x i,ty,pos,after,guard⟩ s=some true)(ab:s.look x=some (.ck xs))(hi:xs[i]?=some y)(hd:Nat.blt d s.n=true)(h:bm P ops K rest (s.put (some d) (.w y))):bm P ops K (⟨some d,.extract x i,ty,pos,after,guard⟩::rest) s:=by
 refine gb (av := .w y) hw ⟨fun _ _ h=>(by cases h),fun y ai => ?_,fun U ad W env he => ?_,fun j af=>⟨x,by simp[Op.operands],_,ab,⟨y,cM hi,af⟩⟩⟩ hd h
 ·simp[Op.operands] at ai;subst ai;exact⟨_,ab⟩
 ·obtain⟨vs,e,al,hv⟩:=he x (by simp[Op.operands]) _ ab;have a8:i<vs.length:=by rw[←al];exact(bq.1 hi).1
  refine⟨vs[i],?_,hv i y _ hi (bB a8)⟩;simp only[execOp,Instr.extract,e];simp[a8]
theorem Yw{x:Operand}{xI i k off kt:Nat} [F:qE P xI i kt](hw:want ops ⟨some d,.fieldAddr xI x i,ty,pos,after,guard⟩ s=some true)(ab:s.look x=some (nS k off))(hd:Nat.blt d s.n=true)(h:bm P ops K rest (s.put (some d) (nS k (off+kt)))):bm P ops K (⟨some d,.fieldAddr xI x i,ty,pos,after,guard⟩::rest) s:=by
 refine gb hw ⟨fun _ _ h=>(by cases h),fun y ai => ?_,fun U ad W env he => ?_,fun j af=>⟨x,by simp[Op.operands],_,ab,?_⟩⟩ hd h
 ·simp[Op.operands] at ai;subst ai;exact⟨_,ab⟩
 ·have hp:env x = .pointer (some ⟨ad k,off,none⟩):=he x (by simp[Op.operands]) _ ab;have hF:=F.h;unfold wI at hF
  split at hF
  ·rename_i br hu;cases aw:br[i]? with
   | none=>rw[aw] at hF;cases hF
   | some f =>
    rw[aw] at hF;simp only[lW] at hF;cases hi:P.info? f.type with
    | none=>rw[hi] at hF;cases hF
    | some t =>
     rw[hi] at hF;simp only[lW] at hF
     split at hF
     ·cases hF
     ·rename_i cA;cases hF;refine⟨.pointer (some ⟨ad k,off+f.offset,none⟩),?_,rfl⟩;have lN:(⟨ad k,off,none⟩:Addr).add f.offset=⟨ad k,off+f.offset,none⟩:=by unfold Addr.add;split <;> simp_all
      simp only[execOp,Instr.fieldAt,hp,Instr.sureAddr,Sem.run_bind,Sem.run_pure,Result.andThen_ok,run_underlying hu,aw,fieldPlace,ig hi,if_neg cA,lN]
  ·cases hF
 ·obtain⟨y,ai,nE⟩:=af;exact⟨.own k off,by simp[bF.cells],by simp[bF.cells] at ai;subst ai;exact nE⟩
theorem NJ{x y:Operand}{Ig k off n size:Nat}{gI:IntKind}{i:Int} [A:MS P Ig n size](hw:want ops ⟨some d,.indexAddr Ig x y,ty,pos,after,guard⟩ s=some true)(ab:s.look x=some (nS k off))(ai:s.look y=some (aQ (.int gI i)))(aE:0≤i)(h1:i<n)(hd:Nat.blt d s.n=true)(h:bm P ops K rest (s.put (some d) (nS k (off+i.toNat*size)))):bm P ops K (⟨some d,.indexAddr Ig x y,ty,pos,after,guard⟩::rest) s:=by
 refine gb hw ⟨fun _ _ h=>(by cases h),fun z aS => ?_,fun U ad W env he => ?_,fun j af=>⟨x,by simp[Op.operands],_,ab,?_⟩⟩ hd h
 ·simp[Op.operands] at aS;rcases aS with rfl|rfl
  ·exact⟨_,ab⟩
  ·exact⟨_,ai⟩
 ·have hp:env x = .pointer (some ⟨ad k,off,none⟩):=he x (by simp[Op.operands]) _ ab;have hi:env y = .int gI i:=(he y (by simp[Op.operands]) _ ai).1;have ct:=A.h;unfold D2 at ct
  split at ct
  ·rename_i n' e hu;cases b7:P.info? e with
   | none=>rw[b7] at ct;cases ct
   | some t =>
    rw[b7] at ct;cases ct;refine⟨.pointer (some ⟨ad k,off+i.toNat*t.size,none⟩),?_,rfl⟩;have lN:(⟨ad k,off,none⟩:Addr).add (i.toNat*t.size)=⟨ad k,off+i.toNat*t.size,none⟩:=by unfold Addr.add;split <;> simp_all
    simp only[execOp,Instr.indexAt,hp,hi,asIntOf,Instr.sureAddr,Sem.run_bind,Sem.run_pure,Result.andThen_ok,run_underlying hu,ig b7,if_pos (And.intro aE h1),lN]
  ·cases ct
 ·obtain⟨y,ai,nE⟩:=af;exact⟨.own k off,by simp[bF.cells],by simp[bF.cells] at ai;subst ai;exact nE⟩
theorem VO{ty n:Nat}(h:lD P ty=some (false,n)){cs:List AC}{off:Nat}{y:AC}(ak:cs[off]?=some y):pick P ty cs off=some (.one y):=by
 unfold lD at h;unfold pick;cases hu:P.underlying ty with
 | none=>rw[hu] at h;cases h
 | some D =>
  cases hi:P.info? ty with
  | none=>rw[hu,hi] at h;cases D <;> cases h
  | some i =>
   rw[hu,hi] at h;cases D <;> first|(simp only[ak,ha];done)|(exfalso;cases h)
theorem VN{ty n:Nat}(h:lD P ty=some (true,n)){cs ys:List AC}{off:Nat}(ak:takeN cs off n=some ys):pick P ty cs off=some (.agg ys):=by
 obtain⟨h1,h2⟩:=G8 _ _ _ _ ak;unfold lD at h;unfold pick
 split at h
 ·rename_i i hu hi;cases h;simp only[hu,hi,lW,if_pos h1,h2]
 ·rename_i i hu hi;cases h;simp only[hu,hi,lW,if_pos h1,h2]
 ·cases h
 ·cases h
theorem alV{ty n:Nat}{b:Bool}(h:lD P ty=some (b,n)):∃i,P.info? ty=some i∧i.size=n:=by
 unfold lD at h
 split at h
 ·rename_i i hu hi;cases h;exact⟨i,hi,rfl⟩
 ·rename_i i hu hi;cases h;exact⟨i,hi,rfl⟩
 ·rename_i i _ _ hu hi;cases h;exact⟨_,hi,rfl⟩
 ·cases h
theorem YC{x:Operand}{lt k off n:Nat}{cs:List AC}{y:AC} [T:e7 P lt false n](hw:want ops ⟨some d,.load lt x,ty,pos,after,guard⟩ s=some true)(ab:s.look x=some (nS k off))(hm:s.mem k=some cs)(ak:cs[off]?=some y)(hd:Nat.blt d s.n=true)(h:bm P ops K rest (s.put (some d) (.w (.one y)))):bm P ops K (⟨some d,.load lt x,ty,pos,after,guard⟩::rest) s :=
 rZ hw (.load lt x k off cs _ rfl ab hm (VO T.h ak)) (me hd) h
theorem YD{x:Operand}{lt k off n:Nat}{cs ys:List AC} [T:e7 P lt true n](hw:want ops ⟨some d,.load lt x,ty,pos,after,guard⟩ s=some true)(ab:s.look x=some (nS k off))(hm:s.mem k=some cs)(ak:takeN cs off n=some ys)(hd:Nat.blt d s.n=true)(h:bm P ops K rest (s.put (some d) (.w (.agg ys)))):bm P ops K (⟨some d,.load lt x,ty,pos,after,guard⟩::rest) s :=
 rZ hw (.load lt x k off cs _ rfl ab hm (VN T.h ak)) (me hd) h
theorem Y1{x y:Operand}{st k off n:Nat}{b:Bool}{cs ds:List AC}{z:bF} [T:e7 P st b n](hw:want ops ⟨none,.store st x y,ty,pos,after,guard⟩ s=some true)(ab:s.look x=some (nS k off))(ai:s.look y=some (.w z))(hm:s.mem k=some cs)(aA:Nat.beq n z.cells.length=true)(hp:qt cs off z.cells=some ds)(h:bm P ops K rest (s.ep k ds)):bm P ops K (⟨none,.store st x y,ty,pos,after,guard⟩::rest) s:=by
 obtain⟨i,hi,hs⟩:=alV T.h;obtain⟨h1,h2⟩:=CB _ _ _ _ hp;refine rZ hw (.store st x y k off cs z i rfl ab ai hm hi (by rw[hs];exact gn aA) h1) (fun d e=>by cases e) ?_;simp only[cC.on,h2];exact h
theorem Yh{ja:Nat}{vs:List Value} [Z:DO P ja vs](hw:want ops ⟨some d,.alloc ja,ty,pos,after,guard⟩ s=some true)(hm:s.mem d=none)(h1:(vs.all fun v=>v.oneCell')=true)(hd:Nat.blt d s.n=true)(h:bm P ops K rest ((s.ep d (vs.map .c)).put (some d) (nS d 0))):bm P ops K (⟨some d,.alloc ja,ty,pos,after,guard⟩::rest) s:=by
 have aS:=Z.h;unfold zeroOf at aS;cases hi:P.info? ja with
 | none=>rw[hi] at aS;cases aS
 | some i =>
  rw[hi] at aS;simp only[lW] at aS;cases iy:i.zero with
  | none=>rw[iy] at aS;cases aS
  | some z =>
   rw[iy] at aS;cases aS;exact rZ hw (.new _ d rfl hm (.alloc ja i z _ rfl hi iy rfl h1)) (me hd) h
theorem Yj{Ir:Nat}{x:Operand}{z:bF}(hw:want ops ⟨some d,.box Ir x,ty,pos,after,guard⟩ s=some true)(ab:s.look x=some (.w z))(hm:s.mem d=none)(hd:Nat.blt d s.n=true)(h:bm P ops K rest ((s.ep d z.cells).put (some d) (nS d 0))):bm P ops K (⟨some d,.box Ir x,ty,pos,after,guard⟩::rest) s :=
 rZ hw (.new _ d rfl hm (.box Ir x z rfl ab)) (me hd) h
def uU:List AC→Option (List Value)
 | []=>some []
 | .c v::xs=>match uU xs with
  | some r=>some (v::r)
  | none=>none
 | _::_=>none
def nt:bF→Option Value
 | .one (.c v)=>some v
 | .one _=>none
 | .agg xs=>match uU xs with
  | some r=>some (.agg r.toArray)
  | none=>none
theorem O9{U:Nat→Prop}{ad:Nat→Nat}{W:World}:∀(xs:List AC) (vs r:List Value),bO U ad W xs vs→uU xs=some r→vs=r
 | [],vs,r,h,he=>by cases he;have:=h.1;exact mZ this.symm
 | .c v::xs,vs,r,h,he=>by
  simp only[uU] at he
  split at he
  ·rename_i bb ao;cases he;cases vs with
   | nil=>have:=h.1;cases this
   | cons u us =>
    have aE:u=v:=(h.2 0 _ _ rfl rfl).1;have:=O9 xs us bb ⟨by have:=h.1;simpa using this,fun i x w ab hw=>h.2 (i+1) x w (by simpa using ab) (by simpa using hw)⟩ ao;rw[aE,this]
  ·cases he
 | .own _ _::_,_,_,_,he=>by cases he
 | .p _::_,_,_,_,he=>by cases he
theorem AX{U:Nat→Prop}{ad:Nat→Nat}{W:World}{x:bF}{v u:Value}(h:gT U ad W x v)(he:nt x=some u):v=u:=by
 cases x with
 | one y=>cases y with
  | c w=>cases he;exact h.1
  | own=>cases he
  | p=>cases he
 | agg xs =>
  simp only[nt] at he
  split at he
  ·rename_i r ao;cases he;obtain⟨vs,rfl,al⟩:=h;rw[O9 xs vs r al ao]
  ·cases he
theorem gL(v:Value)(j:Nat):¬(aQ v).owns j:=fun⟨y,ai,h⟩=>by simp[bF.cells] at ai;subst ai;cases h
theorem wm{tf:BinOp}{dl dN:Nat}{x y:Operand}{a b:bF}{jO fN v:Value}(hw:want ops ⟨some d,.binOp tf dl x y dN,ty,pos,after,guard⟩ s=some true)(ab:s.look x=some (.w a))(ai:s.look y=some (.w b))(jv:nt a=some jO)(np:nt b=some fN)
  (au:∀W,(eqGuard tf dl x y jO fN).run P W = .ok () W) (ao:∀W,(binOp tf dl jO fN).run P W = .ok v W) (h1:v.oneCell'=true) (hd:Nat.blt d s.n=true) (h:bm P ops K rest (s.put (some d) (aQ v))):bm P ops K (⟨some d,.binOp tf dl x y dN,ty,pos,after,guard⟩::rest) s:=by
 refine gb (av:=aQ v) hw ⟨fun _ _ h=>(by cases h),fun z aS => ?_,fun U ad W env he=>⟨v,?_,⟨rfl,h1⟩⟩,fun j af=>absurd af (gL v j)⟩ hd h
 ·simp[Op.operands] at aS;rcases aS with rfl|rfl
  ·exact⟨_,ab⟩
  ·exact⟨_,ai⟩
 ·have aH:env x=jO:=AX (he x (by simp[Op.operands]) _ ab) jv;have aN:env y=fN:=AX (he y (by simp[Op.operands]) _ ai) np;simp only[execOp,aH,aN,Sem.run_bind,au,Result.andThen_ok,ao,Sem.run_pure]
theorem qS{tf:BinOp}{dl dN:Nat}{x y:Operand}{k:IntKind}{a b:Int}{v:Value}(hw:want ops ⟨some d,.binOp tf dl x y dN,ty,pos,after,guard⟩ s=some true)(ab:s.look x=some (aQ (.int k a)))(ai:s.look y=some (aQ (.int k b)))
  (ao:∀W,(binOp tf dl (.int k a) (.int k b)).run P W = .ok v W) (h1:v.oneCell'=true) (hd:Nat.blt d s.n=true) (h:bm P ops K rest (s.put (some d) (aQ v))):bm P ops K (⟨some d,.binOp tf dl x y dN,ty,pos,after,guard⟩::rest) s :=
 wm hw ab ai rfl rfl (fun W=>by unfold eqGuard;cases tf <;> rfl) ao h1 hd h
theorem YE{dl dN:Nat}{x y:Operand}{k:IntKind}{a b:Int}(hw:want ops ⟨some d,.binOp .lss dl x y dN,ty,pos,after,guard⟩ s=some true)(ab:s.look x=some (aQ (.int k a)))(ai:s.look y=some (aQ (.int k b)))(hd:Nat.blt d s.n=true)(h:bm P ops K rest (s.put (some d) (bl (decide (a<b))))):bm P ops K (⟨some d,.binOp .lss dl x y dN,ty,pos,after,guard⟩::rest) s :=
 qS hw ab ai (fun W=>by cases k <;> rfl) rfl hd h
theorem YB{dl dN:Nat}{x y:Operand}{k:IntKind}{a b:Int}(hw:want ops ⟨some d,.binOp .leq dl x y dN,ty,pos,after,guard⟩ s=some true)(ab:s.look x=some (aQ (.int k a)))(ai:s.look y=some (aQ (.int k b)))(hd:Nat.blt d s.n=true)(h:bm P ops K rest (s.put (some d) (bl (decide (a≤b))))):bm P ops K (⟨some d,.binOp .leq dl x y dN,ty,pos,after,guard⟩::rest) s :=
 qS hw ab ai (fun W=>by cases k <;> rfl) rfl hd h
theorem Yz{dl dN:Nat}{x y:Operand}{k:IntKind}{a b:Int}(hw:want ops ⟨some d,.binOp .gtr dl x y dN,ty,pos,after,guard⟩ s=some true)(ab:s.look x=some (aQ (.int k a)))(ai:s.look y=some (aQ (.int k b)))(hd:Nat.blt d s.n=true)(h:bm P ops K rest (s.put (some d) (bl (decide (b<a))))):bm P ops K (⟨some d,.binOp .gtr dl x y dN,ty,pos,after,guard⟩::rest) s :=
 qS hw ab ai (fun W=>by cases k <;> rfl) rfl hd h
theorem Yy{dl dN:Nat}{x y:Operand}{k:IntKind}{a b:Int}(hw:want ops ⟨some d,.binOp .geq dl x y dN,ty,pos,after,guard⟩ s=some true)(ab:s.look x=some (aQ (.int k a)))(ai:s.look y=some (aQ (.int k b)))(hd:Nat.blt d s.n=true)(h:bm P ops K rest (s.put (some d) (bl (decide (b≤a))))):bm P ops K (⟨some d,.binOp .geq dl x y dN,ty,pos,after,guard⟩::rest) s :=
 qS hw ab ai (fun W=>by cases k <;> rfl) rfl hd h
theorem Yr{dl dN:Nat}{x y:Operand}{k:IntKind}{a b:Int}(hw:want ops ⟨some d,.binOp .eql dl x y dN,ty,pos,after,guard⟩ s=some true)(ab:s.look x=some (aQ (.int k a)))(ai:s.look y=some (aQ (.int k b)))(hd:Nat.blt d s.n=true)(h:bm P ops K rest (s.put (some d) (bl (decide (a=b))))):bm P ops K (⟨some d,.binOp .eql dl x y dN,ty,pos,after,guard⟩::rest) s :=
 qS hw ab ai (fun W=>by cases k <;> rfl) rfl hd h
theorem YM{dl dN:Nat}{x y:Operand}{k:IntKind}{a b:Int}(hw:want ops ⟨some d,.binOp .neq dl x y dN,ty,pos,after,guard⟩ s=some true)(ab:s.look x=some (aQ (.int k a)))(ai:s.look y=some (aQ (.int k b)))(hd:Nat.blt d s.n=true)(h:bm P ops K rest (s.put (some d) (bl (!decide (a=b))))):bm P ops K (⟨some d,.binOp .neq dl x y dN,ty,pos,after,guard⟩::rest) s :=
 qS hw ab ai (fun W=>by cases k <;> rfl) rfl hd h
theorem wk{dl dN:Nat}{x y:Operand}{k:IntKind}{a b c:Int}(hw:want ops ⟨some d,.binOp .add dl x y dN,ty,pos,after,guard⟩ s=some true)(ab:s.look x=some (aQ (.int k a)))(ai:s.look y=some (aQ (.int k b)))(ak:k.wrap (a+b)=c)(hd:Nat.blt d s.n=true)(h:bm P ops K rest (s.put (some d) (aQ (.int k c)))):bm P ops K (⟨some d,.binOp .add dl x y dN,ty,pos,after,guard⟩::rest) s :=
 qS hw ab ai (fun W=>by rw[←ak];cases k <;> rfl) rfl hd h
theorem Y2{dl dN:Nat}{x y:Operand}{k:IntKind}{a b c:Int}(hw:want ops ⟨some d,.binOp .sub dl x y dN,ty,pos,after,guard⟩ s=some true)(ab:s.look x=some (aQ (.int k a)))(ai:s.look y=some (aQ (.int k b)))(ak:k.wrap (a-b)=c)(hd:Nat.blt d s.n=true)(h:bm P ops K rest (s.put (some d) (aQ (.int k c)))):bm P ops K (⟨some d,.binOp .sub dl x y dN,ty,pos,after,guard⟩::rest) s :=
 qS hw ab ai (fun W=>by rw[←ak];cases k <;> rfl) rfl hd h
theorem YJ{dl dN:Nat}{x y:Operand}{k:IntKind}{a b c:Int}(hw:want ops ⟨some d,.binOp .mul dl x y dN,ty,pos,after,guard⟩ s=some true)(ab:s.look x=some (aQ (.int k a)))(ai:s.look y=some (aQ (.int k b)))(ak:k.wrap (a*b)=c)(hd:Nat.blt d s.n=true)(h:bm P ops K rest (s.put (some d) (aQ (.int k c)))):bm P ops K (⟨some d,.binOp .mul dl x y dN,ty,pos,after,guard⟩::rest) s :=
 qS hw ab ai (fun W=>by rw[←ak];cases k <;> rfl) rfl hd h
theorem kC{n:Int}(h : -9223372036854775808≤n∧n<9223372036854775808):IntKind.i64.wrap n=n:=IntWalk.i64_in n (by omega)
theorem YR{dl:Nat}{x:Operand}{b:Bool}(hw:want ops ⟨some d,.unOp .not dl x,ty,pos,after,guard⟩ s=some true)(ab:s.look x=some (bl b))(hd:Nat.blt d s.n=true)(h:bm P ops K rest (s.put (some d) (bl (!b)))):bm P ops K (⟨some d,.unOp .not dl x,ty,pos,after,guard⟩::rest) s:=by
 refine gb (av:=bl (!b)) hw ⟨fun _ _ h=>(by cases h),fun z aS => ?_,fun U ad W env he=>⟨.bool (!b),?_,⟨rfl,rfl⟩⟩,fun j af=>absurd af (gL _ j)⟩ hd h
 ·simp[Op.operands] at aS;subst aS;exact⟨_,ab⟩
 ·have aH:env x = .bool b:=(he x (by simp[Op.operands]) _ ab).1;simp only[execOp,aH,Sem.run_bind,Op.unary];rfl
theorem NO{Mz:UnOp}{dl:Nat}{x:Operand}{jO v:Value}(hw:want ops ⟨some d,.unOp Mz dl x,ty,pos,after,guard⟩ s=some true)(ab:s.look x=some (aQ jO))(ao:∀W,(Op.unary Mz jO).run P W = .ok v W)(h1:v.oneCell'=true)(hd:Nat.blt d s.n=true)(h:bm P ops K rest (s.put (some d) (aQ v))):bm P ops K (⟨some d,.unOp Mz dl x,ty,pos,after,guard⟩::rest) s:=by
 refine gb (av:=aQ v) hw ⟨fun _ _ h=>(by cases h),fun z aS => ?_,fun U ad W env he=>⟨v,?_,⟨rfl,h1⟩⟩,fun j af=>absurd af (gL v j)⟩ hd h
 ·simp[Op.operands] at aS;subst aS;exact⟨_,ab⟩
 ·have aH:env x=jO:=(he x (by simp[Op.operands]) _ ab).1;simp only[execOp,aH,Sem.run_bind,ao,Result.andThen_ok,Sem.run_pure]
theorem NI{src dst:Nat}{x:Operand}{jO v:Value}(hw:want ops ⟨some d,.convert src dst x,ty,pos,after,guard⟩ s=some true)(ab:s.look x=some (aQ jO))(ao:∀W,(convert src dst jO).run P W = .ok v W)(h1:v.oneCell'=true)(hd:Nat.blt d s.n=true)(h:bm P ops K rest (s.put (some d) (aQ v))):bm P ops K (⟨some d,.convert src dst x,ty,pos,after,guard⟩::rest) s:=by
 refine gb (av:=aQ v) hw ⟨fun _ _ h=>(by cases h),fun z aS => ?_,fun U ad W env he=>⟨v,?_,⟨rfl,h1⟩⟩,fun j af=>absurd af (gL v j)⟩ hd h
 ·simp[Op.operands] at aS;subst aS;exact⟨_,ab⟩
 ·have aH:env x=jO:=(he x (by simp[Op.operands]) _ ab).1;simp only[execOp,aH,Sem.run_bind,ao,Result.andThen_ok,Sem.run_pure]
theorem Ym{src dst n:Nat}{b:Bool}{k k':IntKind}{x:Operand}{a c:Int} [S:e7 P src b n] [I:HG P dst k'](hw:want ops ⟨some d,.convert src dst x,ty,pos,after,guard⟩ s=some true)(ab:s.look x=some (aQ (.int k a)))(ak:k'.wrap a=c)(hd:Nat.blt d s.n=true)(h:bm P ops K rest (s.put (some d) (aQ (.int k' c)))):bm P ops K (⟨some d,.convert src dst x,ty,pos,after,guard⟩::rest) s:=by
 refine NI hw ab (fun W => ?_) rfl hd h
 have hs:∃D,P.underlying src=some D:=by
  have:=S.h;unfold lD at this;cases hu:P.underlying src with
  | none=>rw[hu] at this;cases this
  | some D=>exact⟨D,rfl⟩
 obtain⟨D,hs⟩:=hs;unfold convert;simp only[Sem.run_bind,run_underlying hs,run_underlying I.h,Result.andThen_ok];rw[←ak];cases D <;> rfl
theorem YT{c x y:Operand}{av:ag}(hw:want ops ⟨some d,.pick c x y,ty,pos,after,guard⟩ s=some true)(ak:s.look c=some (bl true))(ab:s.look x=some av){bv:ag}(ai:s.look y=some bv)(hd:Nat.blt d s.n=true)(h:bm P ops K rest (s.put (some d) av)):bm P ops K (⟨some d,.pick c x y,ty,pos,after,guard⟩::rest) s:=by
 refine gb hw ⟨fun _ _ h=>(by cases h),fun z aS => ?_,fun U ad W env he=>⟨env x,?_,he x (by simp[Op.operands]) av ab⟩,fun j af=>⟨x,by simp[Op.operands],av,ab,af⟩⟩ hd h
 ·simp[Op.operands] at aS;rcases aS with rfl|rfl|rfl
  ·exact⟨_,ak⟩
  ·exact⟨_,ab⟩
  ·exact⟨_,ai⟩
 ·have aH:env c = .bool true:=(he c (by simp[Op.operands]) _ ak).1;simp[execOp,aH,asBool]
theorem YS{c x y:Operand}{av:ag}(hw:want ops ⟨some d,.pick c x y,ty,pos,after,guard⟩ s=some true)(ak:s.look c=some (bl false))(ab:s.look y=some av){bv:ag}(ai:s.look x=some bv)(hd:Nat.blt d s.n=true)(h:bm P ops K rest (s.put (some d) av)):bm P ops K (⟨some d,.pick c x y,ty,pos,after,guard⟩::rest) s:=by
 refine gb hw ⟨fun _ _ h=>(by cases h),fun z aS => ?_,fun U ad W env he=>⟨env y,?_,he y (by simp[Op.operands]) av ab⟩,fun j af=>⟨y,by simp[Op.operands],av,ab,af⟩⟩ hd h
 ·simp[Op.operands] at aS;rcases aS with rfl|rfl|rfl
  ·exact⟨_,ak⟩
  ·exact⟨_,ai⟩
  ·exact⟨_,ab⟩
 ·have aH:env c = .bool false:=(he c (by simp[Op.operands]) _ ak).1;simp[execOp,aH,asBool]
theorem x9{f:FuncId}{g:Operand}{az:Array TypeId}{l:List Operand}{args:List ag}{r:ag} [E:Enters P f](hw:want ops ⟨some d,.call ⟨.value g,l.toArray,az⟩,ty,pos,after,guard⟩ s=some true)(au:s.look g=some (aQ (.func (.func f) #[] #[])))(aX:l.map s.look=args.map some)(hp:aO P f args r)(hd:Nat.blt d s.n=true)(h:bm P ops K rest (s.put (some d) r)) :
  bm P ops K (⟨some d,.call ⟨.value g,l.toArray,az⟩,ty,pos,after,guard⟩::rest) s :=
 rZ hw (.call f args r ⟨⟨_,g,rfl,rfl,.inl ⟨[],au,by simpa using aX,rfl⟩⟩,E.h⟩ hp) (me hd) h
theorem uJ{f:FuncId}{g:Operand}{az:Array TypeId}{l:List Operand}{bs:List Value}{args:List ag}{r:ag} [E:Enters P f](hw:want ops ⟨some d,.call ⟨.value g,l.toArray,az⟩,ty,pos,after,guard⟩ s=some true)(au:s.look g=some (aQ (.func (.func f) bs.toArray #[])))(aa:bs.all Eb=true)(aX:l.map s.look=args.map some)(hp:aO P f (bs.map za++args) r)(hd:Nat.blt d s.n=true)(h:bm P ops K rest (s.put (some d) r)) :
  bm P ops K (⟨some d,.call ⟨.value g,l.toArray,az⟩,ty,pos,after,guard⟩::rest) s :=
 rZ hw (.call f _ r ⟨⟨_,g,rfl,rfl,.inl ⟨bs,au,by rw[List.toList_toArray,aX,rs,List.map_map];rfl,aa⟩⟩,E.h⟩ hp) (me hd) h
theorem uI{f:FuncId}{g:Operand}{az:Array TypeId}{l:List Operand}{cs:List AC}{args:List ag}{r:ag} [E:Enters P f](hw:want ops ⟨some d,.call ⟨.value g,l.toArray,az⟩,ty,pos,after,guard⟩ s=some true)(au:s.look g=some (.w (.one (.p (l6 (.func f) cs)))))(aX:l.map s.look=args.map some)(hp:aO P f (args++cs.map fun x => .w (.one x)) r)(hd:Nat.blt d s.n=true)(h:bm P ops K rest (s.put (some d) r)) :
  bm P ops K (⟨some d,.call ⟨.value g,l.toArray,az⟩,ty,pos,after,guard⟩::rest) s :=
 rZ hw (.call f _ r ⟨⟨_,g,rfl,rfl,.inr ⟨cs,au,by rw[List.toList_toArray,aX,rs,List.map_map];rfl⟩⟩,E.h⟩ hp) (me hd) h
theorem YH{fn:Fn}{x:Operand}{a:bF}{jO:Value}(hw:want ops ⟨some d,.makeFunc fn #[x] #[],ty,pos,after,guard⟩ s=some true)(ab:s.look x=some (.w a))(jv:nt a=some jO)(hd:Nat.blt d s.n=true)(h:bm P ops K rest (s.put (some d) (aQ (.func fn #[jO] #[])))):bm P ops K (⟨some d,.makeFunc fn #[x] #[],ty,pos,after,guard⟩::rest) s:=by
 refine gb (av:=aQ (.func fn #[jO] #[])) hw ⟨fun _ _ h=>(by cases h),fun z aS => ?_,fun U ad W env he=>⟨.func fn #[jO] #[],?_,⟨rfl,rfl⟩⟩,fun j af=>absurd af (gL _ j)⟩ hd h
 ·simp[Op.operands] at aS;subst aS;exact⟨_,ab⟩
 ·have aH:env x=jO:=AX (he x (by simp[Op.operands]) _ ab) jv;have em:(#[x]:Array Operand).map env = #[jO]:=by simp[aH]
  simp only[execOp,em,Array.map_empty,Instr.makeFunc,Sem.run_bind,Sem.run_pure,Result.andThen_ok]
theorem NF{f:FuncId}{g:Operand}{az:Array TypeId}{r:ag} [E:Enters P f](hw:want ops ⟨some d,.call ⟨.value g,#[],az⟩,ty,pos,after,guard⟩ s=some true)(au:s.look g=some (aQ (.func (.func f) #[] #[])))(hp:aO P f [] r)(hd:Nat.blt d s.n=true)(h:bm P ops K rest (s.put (some d) r)):bm P ops K (⟨some d,.call ⟨.value g,#[],az⟩,ty,pos,after,guard⟩::rest) s :=
 x9 (l:=[]) hw au rfl hp hd h
theorem H5{f:FuncId}{g:Operand}{az:Array TypeId}{dd:Operand}{a1:ag}{r:ag} [E:Enters P f](hw:want ops ⟨some d,.call ⟨.value g,#[dd],az⟩,ty,pos,after,guard⟩ s=some true)(au:s.look g=some (aQ (.func (.func f) #[] #[])))(h1:s.look dd=some a1)(hp:aO P f [a1] r)(hd:Nat.blt d s.n=true)(h:bm P ops K rest (s.put (some d) r)):bm P ops K (⟨some d,.call ⟨.value g,#[dd],az⟩,ty,pos,after,guard⟩::rest) s :=
 x9 (l:=[dd]) hw au (by simp[h1]) hp hd h
theorem H6{f:FuncId}{g:Operand}{az:Array TypeId}{dd dj:Operand}{a1 a2:ag}{r:ag} [E:Enters P f](hw:want ops ⟨some d,.call ⟨.value g,#[dd,dj],az⟩,ty,pos,after,guard⟩ s=some true)(au:s.look g=some (aQ (.func (.func f) #[] #[])))(h1:s.look dd=some a1)(h2:s.look dj=some a2)(hp:aO P f [a1,a2] r)(hd:Nat.blt d s.n=true)(h:bm P ops K rest (s.put (some d) r)):bm P ops K (⟨some d,.call ⟨.value g,#[dd,dj],az⟩,ty,pos,after,guard⟩::rest) s :=
 x9 (l:=[dd,dj]) hw au (by simp[h1,h2]) hp hd h
theorem H7{f:FuncId}{g:Operand}{az:Array TypeId}{dd dj k9:Operand}{a1 a2 a3:ag}{r:ag} [E:Enters P f](hw:want ops ⟨some d,.call ⟨.value g,#[dd,dj,k9],az⟩,ty,pos,after,guard⟩ s=some true)(au:s.look g=some (aQ (.func (.func f) #[] #[])))(h1:s.look dd=some a1)(h2:s.look dj=some a2)(ar:s.look k9=some a3)(hp:aO P f [a1,a2,a3] r)(hd:Nat.blt d s.n=true)(h:bm P ops K rest (s.put (some d) r)):bm P ops K (⟨some d,.call ⟨.value g,#[dd,dj,k9],az⟩,ty,pos,after,guard⟩::rest) s :=
 x9 (l:=[dd,dj,k9]) hw au (by simp[h1,h2,ar]) hp hd h
theorem NG{f:FuncId}{g:Operand}{az:Array TypeId}{dd dj k9 nU:Operand}{a1 a2 a3 a4:ag}{r:ag} [E:Enters P f](hw:want ops ⟨some d,.call ⟨.value g,#[dd,dj,k9,nU],az⟩,ty,pos,after,guard⟩ s=some true)(au:s.look g=some (aQ (.func (.func f) #[] #[])))(h1:s.look dd=some a1)(h2:s.look dj=some a2)(ar:s.look k9=some a3)(aK:s.look nU=some a4)(hp:aO P f [a1,a2,a3,a4] r)(hd:Nat.blt d s.n=true)(h:bm P ops K rest (s.put (some d) r)):bm P ops K (⟨some d,.call ⟨.value g,#[dd,dj,k9,nU],az⟩,ty,pos,after,guard⟩::rest) s :=
 x9 (l:=[dd,dj,k9,nU]) hw au (by simp[h1,h2,ar,aK]) hp hd h
theorem NH{f:FuncId}{g:Operand}{az:Array TypeId}{dd dj k9 nU vR:Operand}{a1 a2 a3 a4 a5:ag}{r:ag} [E:Enters P f](hw:want ops ⟨some d,.call ⟨.value g,#[dd,dj,k9,nU,vR],az⟩,ty,pos,after,guard⟩ s=some true)(au:s.look g=some (aQ (.func (.func f) #[] #[])))(h1:s.look dd=some a1)(h2:s.look dj=some a2)(ar:s.look k9=some a3)(aK:s.look nU=some a4)(bX:s.look vR=some a5)(hp:aO P f [a1,a2,a3,a4,a5] r)(hd:Nat.blt d s.n=true)(h:bm P ops K rest (s.put (some d) r)):bm P ops K (⟨some d,.call ⟨.value g,#[dd,dj,k9,nU,vR],az⟩,ty,pos,after,guard⟩::rest) s :=
 x9 (l:=[dd,dj,k9,nU,vR]) hw au (by simp[h1,h2,ar,aK,bX]) hp hd h
def r1(ps:List (Nat×Nat)):List AC→List (Nat×bF)→Option (List AC)
 | cs,[]=>some cs
 | cs,(i,z)::rest=>match ps[i]? with
  | some (off,size)=>bif Nat.beq size z.cells.length then match qt cs off z.cells with
    | some r=>r1 ps r rest
    | none=>none
   else none
  | none=>none
def oR(look:Operand→Option ag):List (Nat×Operand)→Option (List (Nat×bF))
 | []=>some []
 | (i,x)::rest=>match look x,oR look rest with
  | some (.w z),some r=>some ((i,z)::r)
  | _,_=>none
theorem Ph(off:Nat):∀(zs:List Value) (k:Nat) (oC:Array Value),off+k+zs.length≤oC.size→((zs.zipIdx k).foldl (fun cs (c,j)=>cs.setIfInBounds (off+j) c) oC).toList=oC.toList.take (off+k)++zs++oC.toList.drop (off+k+zs.length)
 | [],k,oC,_=>by simp
 | z::zs,k,oC,h=>by
  simp only[List.zipIdx_cons,ub];rw[Ph off zs (k+1) _ (by simp at h ⊢;omega)];have e:=list_seg_step oC.toList (off+k) z zs (by simp at h ⊢;omega);simpa [Array.toList_setIfInBounds,ox] using e
theorem A2{U:Nat→Prop}{ad:Nat→Nat}{W:World}{ps:List (Nat×Nat)}{place:Nat→Option (Nat×Nat)}(hp:∀i q,ps[i]?=some q→place i=some q){look:Operand→Option ag}{env:Operand→Value}:∀(parts:List (Nat×Operand)) (cs:List AC) (vs:List Value) (zs:List (Nat×bF)) (r:List AC),bO U ad W cs vs→oR look parts=some zs→(∀p∈parts,∀a,look p.2=some a→cS U ad W a (env p.2))→r1 ps cs zs=some r →
  ∃us:List Value,Instr.fill place vs.toArray (parts.map fun p=>(p.1,env p.2))=some us.toArray∧bO U ad W r us
 | [],cs,vs,zs,r,al,aS,_,aa=>by cases aS;cases aa;exact⟨vs,rfl,al⟩
 | (i,x)::parts,cs,vs,zs,r,al,aS,he,aa=>by
  simp only[oR] at aS
  split at aS
  ·rename_i z Dg ab ao;cases aS;simp only[r1] at aa
   split at aa
   ·rename_i off size vh;cases yv:Nat.beq size z.cells.length with
    | false=>rw[yv] at aa;cases aa
    | true =>
     rw[yv] at aa;simp only[cond_true] at aa
     split at aa
     ·rename_i ay w0;have aS:gT U ad W z (env x):=he (i,x) (by simp) _ ab;have qc:=aS.cells;obtain⟨q1,q2⟩:=CB _ _ _ _ w0;have hs:=gn yv;have Qn:(env x).cells.size=z.cells.length:=by have:=qc.1;simp at this;exact this.symm
      have Fs:=al.1;have lS:=al.eP qc off q1;rw[q2] at lS;obtain⟨us,g1,g2⟩:=A2 hp parts ay _ Dg r lS ao (fun p mT=>he p (by simp[mT])) aa;refine⟨us,?_,g2⟩;simp only[hO,Instr.fill,hp i _ vh];rw[if_neg (by simp[Qn,hs];omega)];rw[←g1];congr 1;apply Array.ext';have:=Ph off (env x).cells.toList 0 vs.toArray (by simp[Qn];omega);rw[←Array.foldl_toList,Array.toList_zipIdx];simpa using this
     ·cases aa
   ·cases aa
  ·cases aS
theorem KX{look:Operand→Option ag}:∀(parts:List (Nat×Operand)) (zs:List (Nat×bF)),oR look parts=some zs→∀p∈parts,∃z,look p.2=some (.w z)∧(p.1,z)∈zs
 | [],_,_,p,hp=>by cases hp
 | (i,x)::parts,zs,h,p,hp=>by
  simp only[oR] at h
  split at h
  ·rename_i z Dg ab ao;cases h;rcases fg.1 hp with rfl|hp
   ·exact⟨z,ab,by simp⟩
   ·obtain⟨ami,h1,h2⟩:=KX parts Dg ao p hp;exact⟨ami,h1,by simp[h2]⟩
  ·cases h
theorem RU{look:Operand→Option ag}:∀(parts:List (Nat×Operand)) (zs:List (Nat×bF)),oR look parts=some zs→∀q∈zs,∃p∈parts,look p.2=some (.w q.2)
 | [],_,h,q,aj=>by cases h;cases aj
 | (i,x)::parts,zs,h,q,aj=>by
  simp only[oR] at h
  split at h
  ·rename_i z Dg ab ao;cases h;rcases fg.1 aj with rfl|aj
   ·exact⟨(i,x),by simp,ab⟩
   ·obtain⟨p,h1,h2⟩:=RU parts Dg ao q aj;exact⟨p,by simp[h1],h2⟩
  ·cases h
theorem ajr{cs ds r:List AC}{off:Nat}(h:qt cs off ds=some r):∀x∈r,x∈cs∨x∈ds:=by
 obtain⟨_,rfl⟩:=CB _ _ _ _ h;intro x ab;unfold eP at ab;simp only[kf] at ab;rcases ab with (h1|h1)|h1
 ·exact .inl (o0 h1)
 ·exact .inr h1
 ·exact .inl (ow h1)
theorem Od{ps:List (Nat×Nat)}:∀(zs:List (Nat×bF)) (cs r:List AC),r1 ps cs zs=some r→∀x∈r,x∈cs∨∃q∈zs,x∈q.2.cells
 | [],cs,r,h,x,ab=>by cases h;exact .inl ab
 | (i,z)::zs,cs,r,h,x,ab=>by
  simp only[r1] at h
  split at h
  ·rename_i off size vh;cases yv:Nat.beq size z.cells.length with
   | false=>rw[yv] at h;cases h
   | true =>
    rw[yv] at h;simp only[cond_true] at h
    split at h
    ·rename_i ay w0;rcases Od zs ay r h x ab with h1|⟨q,h1,h2⟩
     ·rcases ajr w0 x h1 with h2|h2
      ·exact .inl h2
      ·exact .inr ⟨(i,z),by simp,h2⟩
     ·exact .inr ⟨q,by simp[h1],h2⟩
    ·cases h
  ·cases h
theorem UY{α β:Type}{f:α→Sem β}{W:World}:∀(l:List α) (vs:List β),l.length=vs.length→(∀(i:Nat) x v,l[i]?=some x→vs[i]?=some v→(f x).run P W = .ok v W)→(l.mapM f).run P W = .ok vs W
 | [],[],_,_=>rfl
 | [],_::_,h,_=>by cases h
 | _::_,[],h,_=>by cases h
 | x::l,v::vs,al,h=>by
  have aE:=h 0 x v rfl rfl;have cf:=UY l vs (by simpa using al) (fun i x v ab hv=>h (i+1) x v (by simpa using ab) (by simpa using hv));rw[List.mapM_cons];simp only[Sem.run_bind,aE,Result.andThen_ok,cf];rfl
theorem RZ{α β:Type}{f:α→Option β}:∀(l:List α) (vs:List β),l.mapM f=some vs→l.length=vs.length∧∀(i:Nat) x v,l[i]?=some x→vs[i]?=some v→f x=some v
 | [],vs,h=>by cases h;exact⟨rfl,fun i x v ab=>by simp at ab⟩
 | a::l,vs,h=>by
  rw[List.mapM_cons] at h;cases aX:f a with
  | none=>rw[aX] at h;cases h
  | some b =>
   rw[aX] at h;cases al:l.mapM f with
   | none=>rw[al] at h;cases h
   | some bs =>
    rw[al] at h;cases h;obtain⟨h1,h2⟩:=RZ l bs al;refine⟨by simp[h1],fun i x v ab hv => ?_⟩;cases i with
    | zero=>simp at ab hv;subst ab;subst hv;exact aX
    | succ i=>exact h2 i x v (by simpa using ab) (by simpa using hv)
theorem Yk{t:Nat}{parts:List (Nat×Operand)}{vs:List Value}{ps:List (Nat×Nat)}{zs:List (Nat×bF)}{r:List AC} [Z:DO P t vs] [L:Nf P t ps](hw:want ops ⟨some d,.build t parts.toArray,ty,pos,after,guard⟩ s=some true)(aS:oR s.look parts=some zs)(aa:r1 ps (vs.map .c) zs=some r)(h1:(vs.all fun v=>v.oneCell')=true)(hd:Nat.blt d s.n=true)(h:bm P ops K rest (s.put (some d) (.w (.agg r)))):bm P ops K (⟨some d,.build t parts.toArray,ty,pos,after,guard⟩::rest) s:=by
 refine gb (av := .w (.agg r)) hw ⟨fun _ _ h=>(by cases h),fun z BS => ?_,fun U ad W env he => ?_,fun j af => ?_⟩ hd h
 ·simp only[Op.operands,List.mem_toArray,fE] at BS;obtain⟨p,hp,rfl⟩:=BS;obtain⟨z,h1,_⟩:=KX parts zs aS p hp;exact⟨_,h1⟩
 ·have ed:=Z.h;have dp:=L.h;unfold zeroOf at ed;unfold Gw at dp;cases hi:P.info? t with
  | none=>rw[hi] at ed;cases ed
  | some i =>
   rw[hi] at ed;simp only[lW] at ed;cases iy:i.zero with
   | none=>rw[iy] at ed;cases ed
   | some z =>
    rw[iy] at ed;cases ed
    split at dp
    ·rename_i br hu;obtain⟨m1,m2⟩:=RZ _ _ dp;have tK:(zeroValue t).run P W = .ok z W:=by simp[zeroValue,typeInfo,program,Sem.run_bind,Sem.run,hi,Result.andThen,iy]
     have nB:(br.mapM fun f=>(do pure (f.offset,←sizeOf f.type):Sem (Nat×Nat))).run P W = .ok ps.toArray W:=by
      rw[Array.mapM_eq_mapM_toList]
      have:=UY (P:=P) (W:=W) (f:=fun f:Field=>(do pure (f.offset,←sizeOf f.type):Sem (Nat×Nat))) br.toList ps m1 (fun j x v ab hv=>by
       have:=m2 j x v ab hv;cases JW:P.info? x.type with
       | none=>rw[JW] at this;cases this
       | some eJ =>
        rw[JW] at this;cases this;simp only[Sem.run_bind,ig JW,Result.andThen_ok,Sem.run_pure])
      simp only[map_eq_pure_bind,Sem.run_bind,this,Result.andThen_ok,Sem.run_pure]
     have hH:bO U ad W (z.cells.toList.map .c) z.cells.toList:=⟨by simp,fun j x v ab hv=>by
      rw[dt,hv] at ab;cases ab;exact⟨rfl,bZ.1 h1 v (cM hv)⟩⟩
     obtain⟨us,g1,g2⟩:=A2 (U:=U) (ad:=ad) (W:=W) (ps:=ps) (place:=fun i=>ps.toArray[i]?) (fun i q h=>by simpa using h) (look:=s.look) (env:=env) parts _ _ zs r hH aS (fun p hp a aX=>he p.2 (by simp only[Op.operands,List.mem_toArray,fE];exact⟨p,hp,rfl⟩) a aX) aa;refine⟨.agg us.toArray,?_,us,rfl,g2⟩;have vf:(parts.toArray.map fun(i,x)=>(i,env x)).toList=parts.map fun p=>(p.1,env p.2):=by simp
     have BU:z.cells.toList.toArray=z.cells:=by simp
     rw[BU] at g1;simp only[execOp,Instr.build,Sem.run_bind,tK,Result.andThen_ok,run_underlying hu,nB,vf,g1,Sem.run_pure]
    ·rename_i n el hu;have tK:(zeroValue t).run P W = .ok z W:=by simp[zeroValue,typeInfo,program,Sem.run_bind,Sem.run,hi,Result.andThen,iy]
     have hH:bO U ad W (z.cells.toList.map .c) z.cells.toList:=⟨by simp,fun j x v ab hv=>by
      rw[dt,hv] at ab;cases ab;exact⟨rfl,bZ.1 h1 v (cM hv)⟩⟩
     cases aA:Nat.ble n 32 with
     | false=>rw[aA] at dp;cases dp
     | true =>
      rw[aA] at dp;simp only[cond_true] at dp;cases JV:P.info? el with
      | none=>rw[JV] at dp;cases dp
      | some eJ =>
       rw[JV] at dp;simp only[ha,iC] at dp
       obtain⟨us,g1,g2⟩:=A2 (U:=U) (ad:=ad) (W:=W) (ps:=ps) (place:=fun i=>some (i*eJ.size,eJ.size)) (fun i q h=>by
        rw[←dp,dt] at h;rcases ia i n with a8|iO
        ·rw[bB (by simpa using a8)] at h;simpa using h
        ·rw[qu (by simpa using iO)] at h;cases h) (look:=s.look) (env:=env) parts _ _ zs r hH aS (fun p hp a aX=>he p.2 (by simp only[Op.operands,List.mem_toArray,fE];exact⟨p,hp,rfl⟩) a aX) aa
       refine⟨.agg us.toArray,?_,us,rfl,g2⟩;have vf:(parts.toArray.map fun(i,x)=>(i,env x)).toList=parts.map fun p=>(p.1,env p.2):=by simp
       have BU:z.cells.toList.toArray=z.cells:=by simp
       rw[BU] at g1;simp only[execOp,Instr.build,Sem.run_bind,tK,Result.andThen_ok,run_underlying hu,ig JV,vf,g1,Sem.run_pure]
    ·cases dp
 ·obtain⟨y,ai,nE⟩:=af;rcases Od zs _ r aa y ai with h2|⟨q,h2,ar⟩
  ·obtain⟨v,_,rfl⟩:=fE.1 h2;cases nE
  ·obtain⟨p,hp,al⟩:=RU parts zs aS q h2;exact⟨p.2,by simp only[Op.operands,List.mem_toArray,fE];exact⟨p,hp,rfl⟩,_,al,⟨y,ar,nE⟩⟩
theorem ND{Ip:Builtin}{az:Array TypeId}{x y:Operand}{jO fN v:Value}(hw:want ops ⟨some d,.call ⟨.builtin Ip,#[x,y],az⟩,ty,pos,after,guard⟩ s=some true)(ab:s.look x=some (aQ jO))(ai:s.look y=some (aQ fN))(ao:∀cs W,(builtin Ip az ty cs #[jO,fN]).run P W = .ok (.value v) W)(h1:v.oneCell'=true)(hd:Nat.blt d s.n=true)(h:bm P ops K rest (s.put (some d) (aQ v))):bm P ops K (⟨some d,.call ⟨.builtin Ip,#[x,y],az⟩,ty,pos,after,guard⟩::rest) s:=by
 refine gb (av:=aQ v) hw ⟨fun _ _ h=>(by cases h),fun z aS => ?_,fun U ad W env he=>⟨v,?_,⟨rfl,h1⟩⟩,fun j af=>absurd af (gL v j)⟩ hd h
 ·simp[Op.operands,Call.operands] at aS;rcases aS with rfl|rfl
  ·exact⟨_,ab⟩
  ·exact⟨_,ai⟩
 ·have aH:env x=jO:=(he x (by simp[Op.operands,Call.operands]) _ ab).1;have aN:env y=fN:=(he y (by simp[Op.operands,Call.operands]) _ ai).1;have em:(#[x,y]:Array Operand).map env = #[jO,fN]:=by simp[aH,aN]
  simp only[execOp,resolve,em,Sem.run_bind,Sem.run_pure,Result.andThen_ok,invoke,ao]
theorem YG{az:Array TypeId}{x y:Operand}{k:IntKind}{a b:Int}(hw:want ops ⟨some d,.call ⟨.builtin .min,#[x,y],az⟩,ty,pos,after,guard⟩ s=some true)(ab:s.look x=some (aQ (.int k a)))(ai:s.look y=some (aQ (.int k b)))(hd:Nat.blt d s.n=true)(h:bm P ops K rest (s.put (some d) (aQ (.int k (if b<a then b else a))))):bm P ops K (⟨some d,.call ⟨.builtin .min,#[x,y],az⟩,ty,pos,after,guard⟩::rest) s :=
 ND hw ab ai (fun cs W=>by go_simp;all_goals (first|rfl|(split <;> omega))) rfl hd h
theorem YF{az:Array TypeId}{x y:Operand}{k:IntKind}{a b:Int}(hw:want ops ⟨some d,.call ⟨.builtin .max,#[x,y],az⟩,ty,pos,after,guard⟩ s=some true)(ab:s.look x=some (aQ (.int k a)))(ai:s.look y=some (aQ (.int k b)))(hd:Nat.blt d s.n=true)(h:bm P ops K rest (s.put (some d) (aQ (.int k (if b>a then b else a))))):bm P ops K (⟨some d,.call ⟨.builtin .max,#[x,y],az⟩,ty,pos,after,guard⟩::rest) s :=
 ND hw ab ai (fun cs W=>by go_simp;all_goals (first|rfl|(split <;> omega))) rfl hd h
theorem Yl{t:Nat}{b:Bool}{l:List Oper}(hs:s.tmps t=some (bl b))(h1:b=true→bm P ops K l (s.put (some t) (bl true)))(aE:b=false→bm P ops K l (s.put (some t) (bl false))):bm P ops K l s:=by
 have same:∀c,b=c→s.put (some t) (bl c)=s:=fun c e=>by
  subst e;simp only[aB.put];congr 1;funext j
  by_cases af:j=t
  ·subst af;rw[bW,hs]
  ·rw[bL _ _ af]
 cases b with
 | true=>rw[←same true rfl];exact h1 rfl
 | false=>rw[←same false rfl];exact aE rfl
end
theorem aM:([]:List ResultVar).map (gO P s)=([]:List bF).map some:=rfl
theorem aY{t:Nat}{x:bF}{l:List ResultVar}{xs:List bF}(h:s.tmps t=some (.w x))(al:l.map (gO P s)=xs.map some):(ResultVar.tmp t::l).map (gO P s)=(x::xs).map some:=by
 simp only[hO,al];rw[show gO P s (.tmp t)=some x by simp only[gO,h]]
theorem GH{a ty k off n:Nat} [T:e7 P ty false n]{cs:List AC}{y:AC}{l:List ResultVar}{xs:List bF}(h:s.tmps a=some (nS k off))(hm:s.mem k=some cs)(ak:cs[off]?=some y)(al:l.map (gO P s)=xs.map some):(ResultVar.cell a ty::l).map (gO P s)=(.one y::xs).map some:=by
 simp only[hO,al];rw[show gO P s (.cell a ty)=some (.one y) by simp only[gO,h,hm,lW,VO T.h ak]]
theorem c6{a ty k off n:Nat} [T:e7 P ty true n]{cs ys:List AC}{l:List ResultVar}{xs:List bF}(h:s.tmps a=some (nS k off))(hm:s.mem k=some cs)(ak:takeN cs off n=some ys)(al:l.map (gO P s)=xs.map some):(ResultVar.cell a ty::l).map (gO P s)=(.agg ys::xs).map some:=by
 simp only[hO,al];rw[show gO P s (.cell a ty)=some (.agg ys) by simp only[gO,h,hm,lW,VN T.h ak]]
theorem bk{fn:Func}{l:List ResultVar}{xs:List bF}{r:ag}(ao:fn.results=l.toArray)(h:l.map (gO P s)=xs.map some)(hle:(packed xs).aU r):wo P fn r .ret s:=⟨xs,by rw[ao];exact h,hle⟩
theorem ai6{f:FuncId}{args:List ag}{r:ag}{kl:List Value}(he:args.map (fun x=>match x with | .w y=>nt y|_=>none)=kl.map some)(fA:∀x∈args,x.closed)(cq:r.closed)
  (h:∀W,Calls P f kl.toArray W fun e W'=>∃v,e = .returned v∧(∀U,(∀b,W.heap.size≤b→U b)→cS U id W' r v)∧Below W.heap.size W W'):aO P f args r:=by
 refine⟨fA,cq,fun U W vs cO => ?_⟩
 have e:vs=kl:=by
  apply List.ext_getElem?;intro i;have al:=cO.1;have iw:args.length=kl.length:=by have:=congrArg List.length he;simpa using this
  rcases ia i args.length with hi|hi
  ·have h1:(args.map (fun x=>match x with | .w y=>nt y|_=>none))[i]?=(kl.map some)[i]?:=by rw[he]
   rw[dt,dt,bB hi,bB (by omega:i<kl.length)] at h1;simp only[ha,iC] at h1;rw[bB (by omega:i<vs.length),bB (by omega:i<kl.length)];have h2:=cO.2 i args[i] vs[i] (bB hi) (bB (by omega));cases ab:args[i] with
   | w y =>
    rw[ab] at h1 h2;rw[AX h2 h1]
   | ck xs=>rw[ab] at h1;cases h1
  ·rw[qu (by omega),qu (by omega)]
 subst e;refine(h W).mono ?_;rintro e W' ⟨v,h1,h2,ar⟩;exact⟨v,h1,h2 _ fun b aa => .inr aa,ar⟩
def AC.aW:AC→Bool
 | .own _ _=>false
 | _=>true
def bF.aW:bF→Bool
 | .one x=>x.aW
 | .agg xs=>xs.all AC.aW
def ag.aW:ag→Bool
 | .w x=>x.aW
 | .ck xs=>xs.all bF.aW
theorem AC.c8{x:AC}(h:x.aW=true)(j:Nat):¬x.owns j:=by cases x <;> simp_all [AC.aW,AC.owns]
theorem bF.c8{x:bF}(h:x.aW=true)(j:Nat):¬x.owns j:=by
 rintro⟨y,ai,af⟩;cases x with
 | one z=>simp[bF.cells] at ai;subst ai;exact AC.c8 h j af
 | agg xs=>exact AC.c8 (bZ.1 h y ai) j af
theorem ag.c8{x:ag}(h:x.aW=true):x.closed:=fun j=>by
 cases x with
 | w y=>exact bF.c8 h j
 | ck xs=>rintro⟨y,ai,af⟩;exact bF.c8 (bZ.1 h y ai) j af
theorem bo{f:FuncId}{fn:Func}{c:Code}{args:List ag}{r:ag}(aw:P.funcs[f]?=some fn)(aa:fn.body=some c)(aA:Nat.ble args.length fn.ntmps=true)(fA:args.all ag.aW=true)(cq:r.aW=true)
  (h:fz P c (wo P fn r) (start fn.ntmps args)):aO P f args r :=
 ai8 aw aa (by simpa [Nat.ble_eq] using aA) (fun x ab=>ag.c8 (bZ.1 fA x ab)) (ag.c8 cq) h
theorem LD{f:FuncId}{fn:Func}{c:Code}{args:List ag}{r:ag}(aw:P.funcs[f]?=some fn)(aa:fn.body=some c)(aA:Nat.ble args.length fn.ntmps=true)(fA:args.all ag.aW=true)(cq:r.aW=true)
  (h:ux P c (wo P fn r) (start fn.ntmps args)):aO P f args r :=
 TF aw aa (by simpa [Nat.ble_eq] using aA) (fun x ab=>ag.c8 (bZ.1 fA x ab)) (ag.c8 cq) h
theorem ajb{f:FuncId}{args:List ag}{r:ag}(kl:List Value)(he:args.map (fun x=>match x with | .w y=>nt y|_=>none)=kl.map some)(fA:args.all ag.aW=true)(cq:r.aW=true)
  (h:∀W,Calls P f kl.toArray W fun e W'=>∃v,e = .returned v∧(∀U,(∀b,W.heap.size≤b→U b)→cS U id W' r v)∧Below W.heap.size W W'):aO P f args r :=
 ai6 he (fun x ab=>ag.c8 (bZ.1 fA x ab)) (ag.c8 cq) h
theorem NV{next:aB→Prop}{Q:Exit→aB→Prop}(h:next s):tc next Q .normal s:=h
theorem Ze{next:aB→Prop}{Q:Exit→aB→Prop}{id:Nat}(h:Q (.exit id) s):tc next Q (.exit id) s:=h
theorem Zf{next:aB→Prop}{Q:Exit→aB→Prop}(h:Q .ret s):tc next Q .ret s:=h
theorem X5{Q:Exit→aB→Prop}{id:Nat}(h:Q .normal s):x7 id Q .normal s:=h
theorem X6{Q:Exit→aB→Prop}{id:Nat}(h:Q .ret s):x7 id Q .ret s:=h
theorem X7{Q:Exit→aB→Prop}{id:Nat}(h:Q .normal s):x7 id Q (.exit id) s:=by simp only[x7,qv,cond_true];exact h
theorem bR{dst:Option Nat}{op:Op}{ty:Nat}{pos:String}{after:Array Edge}{g t:Nat}{b N7 c:Bool}(hd:(ops[g]?).bind (·.dst)=some t)(hs:s.tmps t=some (bl N7))(aa:N7=c)
  (h1:bm P ops K (⟨dst,op,ty,pos,after,some (g,b)⟩::rest) (s.put (some t) (bl c))):bm P ops K (⟨dst,op,ty,pos,after,some (g,b)⟩::rest) s:=by
 subst aa;exact Yl hs (fun e=>by subst e;exact h1) (fun e=>by subst e;exact h1)
theorem NZ{c:Operand}{t u:Bool}{x y:Code}{Q:Exit→aB→Prop}(ak:s.look c=some (bl t))(aC:t=u)(h:fz P (bif u then x else y) Q s):fz P (.cond c x y) Q s:=by
 subst aC;cases t with
 | true=>exact N1 ak h
 | false=>exact N0 ak h
theorem Zh{c:Operand}{t:Bool}{x y:Code}{Q:Exit→aB→Prop}(ak:s.look c=some (bl t))(aC:t=true)(h:fz P x Q s):fz P (.cond c x y) Q s:=NZ ak aC h
theorem NY{c:Operand}{t:Bool}{x y:Code}{Q:Exit→aB→Prop}(ak:s.look c=some (bl t))(aC:t=false)(h:fz P y Q s):fz P (.cond c x y) Q s:=NZ ak aC h
end
abbrev bn(x y:Int):ag := .w (.agg [.c (.int .i64 x),.c (.int .i64 y)])
def I4(w:World):AC→Value→Nat→Prop
 | .p R,x,b=>R.ll w x b
 | _,_,_=>False
theorem An(a:Addr)(m j:Nat):(a.add m).add j=a.add (m+j):=by
 unfold Addr.add
 by_cases h1:m=0 <;> by_cases h2:j=0 <;> simp[h1,h2,ox]
theorem block_add(a:Addr)(m:Nat):(a.add m).block=a.block:=by unfold Addr.add;split <;> rfl
structure ld (w:World) (a:Addr) (xs:List AC) (vs:List Value):Prop where
 lt:a.block<w.heap.size
 qz:bO (fun _=>True) id w xs vs
 at_:∀(j:Nat) v,vs[j]?=some v→w.cell? (a.add j)=some v
 gV:∀y∈xs,y.aW=true
def n4(w:World)(a:Addr)(xs:List AC)(b:Nat):Prop:=a.block=b∨∃(j:Nat) (y:AC) (v:Value),xs[j]?=some y∧w.cell? (a.add j)=some v∧I4 w y v b
theorem ld.frame{w w':World}{a:Addr}{xs:List AC}{vs:List Value}(h:ld w a xs vs)(aw:∀b,n4 w a xs b→w'.heap[b]?=w.heap[b]?):ld w' a xs vs∧∀b,n4 w' a xs b→n4 w a xs b:=by
 have aa:w'.heap[a.block]?=w.heap[a.block]?:=aw _ (.inl rfl);have ak:∀j,w'.cell? (a.add j)=w.cell? (a.add j):=fun j=>World.cell?_of_block (w:=w) (by rw[block_add];exact aa)
 have key:∀(j:Nat) (y:AC) (v:Value),xs[j]?=some y→w.cell? (a.add j)=some v→fZ (fun _=>True) id w y v→fZ (fun _=>True) id w' y v∧∀b,I4 w' y v b→I4 w y v b:=by
  intro j y v ai hv ao;cases y with
  | c u=>exact⟨ao,fun b h=>h⟩
  | own k o=>exact⟨ao,fun b h=>h⟩
  | p R =>
   have:=R.frame w w' v ao.1 fun b aa=>aw b (.inr ⟨j,_,v,ai,hv,aa⟩);exact⟨⟨this.1,fun _ _=>trivial⟩,this.2⟩
 refine⟨⟨?_,⟨h.qz.1,fun i y v ai hv=>(key i y v ai (h.at_ i v hv) (h.qz.2 i y v ai hv)).1⟩,fun j v hv=>by rw[ak];exact h.at_ j v hv,h.gV⟩,?_⟩
 ·have bX:=Array.getElem?_eq_getElem h.lt;exact(h9.1 (aa.trans bX)).1
 ·rintro b (h1|⟨j,y,v,ai,hv,fG⟩)
  ·exact .inl h1
  ·rw[ak] at hv;have a8:j<vs.length:=by rw[←h.qz.1];exact(bq.1 ai).1
   have h2:=h.at_ j _ (bB a8);rw[hv] at h2;cases h2;exact .inr ⟨j,y,_,ai,hv,(key j y _ ai hv (h.qz.2 j y _ ai (bB a8))).2 b fG⟩
theorem ld.iS{w:World}{a:Addr}{xs:List AC}{vs:List Value}{b:Nat}(h:ld w a xs vs)(aw:n4 w a xs b):b<w.heap.size:=by
 rcases aw with rfl|⟨j,y,v,ai,hv,fG⟩
 ·exact h.lt
 ·have a8:j<vs.length:=by rw[←h.qz.1];exact(bq.1 ai).1
  have h2:=h.at_ j _ (bB a8);rw[hv] at h2;cases h2;have:=h.qz.2 j y _ ai (bB a8);cases y with
  | c u=>cases fG
  | own k o=>cases fG
  | p R=>exact R.iS _ _ _ this.1 fG
theorem ld.sub{w:World}{a:Addr}{xs:List AC}{vs:List Value}(h:ld w a xs vs)(off n:Nat):ld w (a.add off) ((xs.drop off).take n) ((vs.drop off).take n):=by
 refine⟨by rw[block_add];exact h.lt,h.qz.sub off n,fun j v hv => ?_,fun y ai=>h.gV y (ow (o0 ai))⟩;rw[An]
 have af:j<n:=by
  have:=(bq.1 hv).1;simp at this;omega
 rw[gp af,gN] at hv;exact h.at_ _ v hv
theorem n4.sub{w:World}{a:Addr}{xs:List AC}{off n b:Nat}(h:n4 w (a.add off) ((xs.drop off).take n) b):n4 w a xs b:=by
 rcases h with h|⟨j,y,v,ai,hv,fG⟩
 ·rw[block_add] at h;exact .inl h
 ·rw[An] at hv
  have af:j<n:=by
   have:=(bq.1 ai).1;simp at this;omega
  rw[gp af,gN] at ai;exact .inr ⟨_,y,v,ai,hv,fG⟩
theorem ld.xw{w:World}{a:Addr}{xs:List AC}{vs:List Value}{U:Nat→Prop}{ad:Nat→Nat}(h:ld w a xs vs)(cW:∀b,n4 w a xs b→U b):bO U ad w xs vs:=by
 refine⟨h.qz.1,fun i y v ai hv => ?_⟩;have h1:=h.qz.2 i y v ai hv;have h2:=h.gV y (cM ai);cases y with
 | c u=>exact h1
 | own k o=>cases h2
 | p R=>exact⟨h1.1,fun b aa=>cW b (.inr ⟨i,_,v,ai,h.at_ i v hv,aa⟩)⟩
def pc(xs:List AC):dV where
 holds w v:=∃a vs,v = .pointer (some a)∧ld w a xs vs
 ll w v b:=∃a,v = .pointer (some a)∧n4 w a xs b
 frame w w' v:=by
  rintro⟨a,vs,rfl,h⟩ aw;obtain⟨h1,h2⟩:=h.frame fun b aa=>aw b ⟨a,rfl,aa⟩;exact⟨⟨a,vs,rfl,h1⟩,fun b ⟨a',e,aa⟩=>by cases e;exact⟨a,rfl,h2 b aa⟩⟩
 iS w v b:=by
  rintro⟨a,vs,rfl,h⟩ ⟨a',e,aa⟩;cases e;exact h.iS aa
 cell w v:=by rintro⟨a,vs,rfl,h⟩;rfl
def b3(sz n:Nat)(xs:List AC):dV where
 holds w v:=∃A c,v = .slice A n c∧n≤c∧xs.length=n*sz∧(0<n→∃a vs,A=some a∧ld w a xs vs)
 ll w v b:=∃c a,v = .slice (some a) n c∧0<n∧n4 w a xs b
 frame w w' v:=by
  rintro⟨A,c,rfl,ak,al,h⟩ aw;refine⟨⟨A,c,rfl,ak,al,fun aA => ?_⟩,?_⟩
  ·obtain⟨a,vs,rfl,aJ⟩:=h aA;exact⟨a,vs,rfl,(aJ.frame fun b aa=>aw b ⟨c,a,rfl,aA,aa⟩).1⟩
  ·rintro b ⟨c',a',e,aA,aa⟩;cases e;obtain⟨a,vs,e,aJ⟩:=h aA;cases e;exact⟨c,a',rfl,aA,(aJ.frame fun b aa=>aw b ⟨c,a',rfl,aA,aa⟩).2 b aa⟩
 iS w v b:=by
  rintro⟨A,c,rfl,ak,al,h⟩ ⟨c',a',e,aA,aa⟩;cases e;obtain⟨a,vs,e,aJ⟩:=h aA;cases e;exact aJ.iS aa
 cell w v:=by rintro⟨A,c,rfl,_⟩;rfl
abbrev cF(sz n:Nat)(xs:List AC):ag := .w (.one (.p (b3 sz n xs)))
abbrev MG(xs:List AC):ag := .w (.one (.p (pc xs)))
theorem ly(R:dV)(j:Nat):¬(ag.w (.one (.p R))).owns j:=fun⟨y,ai,h⟩=>by simp[bF.cells] at ai;subst ai;cases h
section
variable{P:Program}{s:aB}{o:Oper}{ops:Array Oper}{K:aB→Prop}{rest:List Oper}{op:Op}{ty:Nat}{pos:String}{after:Array Edge}{guard:Option (Nat×Bool)}{d:Nat}
theorem H8{av:ag}(hw:want ops ⟨some d,op,ty,pos,after,guard⟩ s=some true)(aj:xU P s.look ⟨some d,op,ty,pos,after,guard⟩ av)(hd:Nat.blt d s.n=true)(h:bm P ops K rest (s.put (some d) av)):bm P ops K (⟨some d,op,ty,pos,after,guard⟩::rest) s :=
 rZ (e:=⟨av,none⟩) hw (.fresh av aj) (me hd) h
theorem nf{t sz:Nat}(h:um P t=some sz):∃e i,P.underlying t=some (.slice e)∧P.info? e=some i∧i.size=sz:=by
 unfold um at h
 split at h
 ·rename_i e hu;cases hi:P.info? e with
  | none=>rw[hi] at h;cases h
  | some i=>rw[hi] at h;cases h;exact⟨e,i,hu,hi,rfl⟩
 ·cases h
theorem jX{t e:Nat}(h:P.underlying t=some (.slice e)):P.elem t=e:=by simp[Program.elem,h]
theorem rY{t sz alD n:Nat}{xs:List AC}{x:Operand} [S:hE P t alD](hw:want ops ⟨some d,.call ⟨.builtin .len,#[x],#[t]⟩,ty,pos,after,guard⟩ s=some true)(ab:s.look x=some (cF sz n xs))(hd:Nat.blt d s.n=true)
  (h:bm P ops K rest (s.put (some d) (aL n))):bm P ops K (⟨some d,.call ⟨.builtin .len,#[x],#[t]⟩,ty,pos,after,guard⟩::rest) s:=by
 refine gb (av:=aL n) hw ⟨fun _ _ h=>(by cases h),fun y ai => ?_,fun U ad W env he=>⟨.int .i64 n,?_,rfl,rfl⟩,fun j af=>absurd af (gL _ j)⟩ hd h
 ·simp[Op.operands,Call.operands] at ai;subst ai;exact⟨_,ab⟩
 ·obtain⟨⟨A,c,aH,_⟩,_⟩:=he x (by simp[Op.operands,Call.operands]) _ ab;obtain⟨e,i,hu,hi,_⟩:=nf S.h;have e0:P.underlying t=some (.slice (P.elem t)):=by rw[jX hu];exact hu
  have em:(#[x]:Array Operand).map env = #[.slice A n c]:=by simp[aH]
  simp only[execOp,resolve,em,Sem.run_bind,Sem.run_pure,Result.andThen_ok,invoke,builtin];rw[run_len_slice W t ty A n c e0];rfl
theorem Ar{x y:Operand}{t sz n:Nat}{gI:IntKind}{i:Int}{xs ys:List AC} [S:hE P t sz](hw:want ops ⟨some d,.indexAddr t x y,ty,pos,after,guard⟩ s=some true)(ab:s.look x=some (cF sz n xs))(ai:s.look y=some (aQ (.int gI i)))(aE:0≤i)(h1:i<n)
  (he:(xs.drop (i.toNat*sz)).take sz=ys) (hd:Nat.blt d s.n=true) (h:bm P ops K rest (s.put (some d) (MG ys))):bm P ops K (⟨some d,.indexAddr t x y,ty,pos,after,guard⟩::rest) s:=by
 subst he;refine gb hw ⟨fun _ _ h=>(by cases h),fun z aS => ?_,fun U ad W env he => ?_,fun j af=>absurd af (ly _ j)⟩ hd h
 ·simp[Op.operands] at aS;rcases aS with rfl|rfl
  ·exact⟨_,ab⟩
  ·exact⟨_,ai⟩
 ·obtain⟨⟨A,c,aH,ak,al,ct⟩,cW⟩:=he x (by simp[Op.operands]) _ ab;have hi:env y = .int gI i:=(he y (by simp[Op.operands]) _ ai).1;obtain⟨e,eJ,hu,b7,hs⟩:=nf S.h;obtain⟨a,vs,rfl,di⟩:=ct (by omega);refine⟨.pointer (some (a.add (i.toNat*sz))),?_,⟨_,_,rfl,di.sub _ _⟩,?_⟩
  ·simp only[execOp,Instr.indexAt,aH,hi,asIntOf,Sem.run_bind,Sem.run_pure,Result.andThen_ok,run_underlying hu,ig b7,if_pos (And.intro aE h1),hs]
  ·rintro b ⟨a',e,aa⟩;cases e;exact cW b ⟨c,a,aH,by omega,aa.sub⟩
theorem As{x:Operand}{lt n:Nat}{xs:List AC}{y:AC} [T:e7 P lt false n](hw:want ops ⟨some d,.load lt x,ty,pos,after,guard⟩ s=some true)(ab:s.look x=some (MG xs))(ak:xs[0]?=some y)(cu:y.aW=true)(hd:Nat.blt d s.n=true)(h:bm P ops K rest (s.put (some d) (.w (.one y)))):bm P ops K (⟨some d,.load lt x,ty,pos,after,guard⟩::rest) s:=by
 refine gb hw ⟨fun _ _ h=>(by cases h),fun y ai => ?_,fun U ad W env he => ?_,fun j af => ?_⟩ hd h
 ·simp[Op.operands] at ai;subst ai;exact⟨_,ab⟩
 ·obtain⟨⟨a,vs,aH,di⟩,cW⟩:=he x (by simp[Op.operands]) _ ab;have ao:=di.xw (U:=U) (ad:=ad) fun b aa=>cW b ⟨a,aH,aa⟩;have a8:0<vs.length:=by rw[←ao.1];exact(bq.1 ak).1
  have hv:=bB a8;refine⟨_,?_,ao.2 0 y _ ak hv⟩;have eS:=T.h;have po:W.cell? a=some vs[0]:=di.at_ 0 _ hv;unfold lD at eS;cases hu:P.underlying lt with
  | none=>rw[hu] at eS;cases eS
  | some D =>
   have key:(loadVar lt a).run P W = .ok vs[0] W:=by
    refine L2 hu (fun br e => ?_) (fun m e' e => ?_) po
    ·subst e;cases hi:P.info? lt with
     | none=>simp[hu,hi] at eS
     | some eJ=>simp[hu,hi] at eS
    ·subst e;cases hi:P.info? lt with
     | none=>simp[hu,hi] at eS
     | some eJ=>simp[hu,hi] at eS
   simp only[execOp,Instr.loadAt,aH,Instr.sureAddr,Sem.run_bind,Sem.run_pure,Result.andThen_ok,key]
 ·exact absurd af (ag.c8 (x := .w (.one y)) cu j)
theorem H9{x:Operand}{lt n:Nat}{xs ys:List AC} [T:e7 P lt true n](hw:want ops ⟨some d,.load lt x,ty,pos,after,guard⟩ s=some true)(ab:s.look x=some (MG xs))(ak:takeN xs 0 n=some ys)(cu:(bF.agg ys).aW=true)(hd:Nat.blt d s.n=true)(h:bm P ops K rest (s.put (some d) (.w (.agg ys)))):bm P ops K (⟨some d,.load lt x,ty,pos,after,guard⟩::rest) s:=by
 refine gb hw ⟨fun _ _ h=>(by cases h),fun y ai => ?_,fun U ad W env he => ?_,fun j af => ?_⟩ hd h
 ·simp[Op.operands] at ai;subst ai;exact⟨_,ab⟩
 ·obtain⟨⟨a,vs,aH,di⟩,cW⟩:=he x (by simp[Op.operands]) _ ab;obtain⟨q1,q2⟩:=G8 _ _ _ _ ak;have Kv:=di.sub 0 n;have ao:=Kv.xw (U:=U) (ad:=ad) fun b aa=>cW b ⟨a,aH,n4.sub aa⟩;rw[q2] at ao;have aX:a.add 0=a:=rfl;refine⟨.agg ((vs.drop 0).take n).toArray,?_,_,rfl,ao⟩;have eS:=T.h;unfold lD at eS;have hlen:((vs.drop 0).take n).length=n:=by have:=di.qz.1;simp;omega
  have po:=Kv.at_;rw[aX] at po;cases hu:P.underlying lt with
  | none=>rw[hu] at eS;cases eS
  | some D =>
   cases hi:P.info? lt with
   | none=>rw[hu,hi] at eS;cases D <;> cases eS
   | some eJ =>
    rw[hu,hi] at eS;have key:((∃br,D = .struct br)∨∃n e,D = .array n e)∧eJ.size=n:=by cases D <;> simp at eS <;> simp[eS]
    have:=L1 (P:=P) (w:=W) (A:=a) hu key.1 hi (by rw[hlen,key.2]) po;simp only[execOp,Instr.loadAt,aH,Instr.sureAddr,Sem.run_bind,Sem.run_pure,Result.andThen_ok,this]
 ·exact absurd af (ag.c8 (x := .w (.agg ys)) cu j)
def zz(P:Program)(t:TypeId):Option (List Value) :=
 match P.underlying t with
 | some (.slice e)=>zeroOf P e
 | _=>none
class nX (P:Program) (t:TypeId) (vs:outParam (List Value)):Prop where
 h:zz P t=some vs
def iW(n sz:Nat)(vs:List Value):List AC:=(List.range (n*sz)).map fun j => .c (vs.toArray[j % vs.length]!)
def ze(n sz:Nat):List (Nat×Nat):=(List.range n).map fun i=>(i*sz,sz)
theorem Y7{w:World}{rF:List AC}{us:List Value}{ty:TypeId}{U:Nat→Prop}{ad:Nat→Nat}(h:bO U ad w rF us)(cu:∀y∈rF,y.aW=true):ld (w.alloc (.cells us.toArray ty)) ⟨w.heap.size,0,none⟩ rF us:=by
 refine⟨by show w.heap.size<(w.heap.push _).size;simp,⟨h.1,fun i y v ai hv => ?_⟩,fun j v hv => ?_,cu⟩
 ·refine(h.2 i y v ai hv).map (fun b aa al=>⟨trivial,Below.heap_alloc _ _ _ al⟩) fun j af => ?_;exact absurd af (AC.c8 (cu y (cM ai)) j)
 ·have lN:(⟨w.heap.size,0,none⟩:Addr).add j=⟨w.heap.size,j,none⟩:=by unfold Addr.add;split <;> simp_all
  rw[lN];have:(w.alloc (.cells us.toArray ty)).heap[w.heap.size]?=some (.cells us.toArray ty (0,0)):=by show (w.heap.push _)[w.heap.size]?=_;simp
  simp only[World.cell?,this];simpa using hv
theorem Y8{w:World}{rF:List AC}{us:List Value}{ty:TypeId}{U:Nat→Prop}{ad:Nat→Nat}{b:Nat}(h:bO U ad w rF us)(aw:n4 (w.alloc (.cells us.toArray ty)) ⟨w.heap.size,0,none⟩ rF b):U b∨w.heap.size≤b:=by
 rcases aw with rfl|⟨j,y,v,ai,hv,fG⟩
 ·exact .inr (cE _)
 ·have lN:(⟨w.heap.size,0,none⟩:Addr).add j=⟨w.heap.size,j,none⟩:=by unfold Addr.add;split <;> simp_all
  rw[lN] at hv;have:(w.alloc (.cells us.toArray ty)).heap[w.heap.size]?=some (.cells us.toArray ty (0,0)):=by show (w.heap.push _)[w.heap.size]?=_;simp
  simp only[World.cell?,this] at hv;have bT:us[j]?=some v:=by simpa using hv
  have ao:=h.2 j y v ai bT;cases y with
  | c u=>cases fG
  | own k o=>cases fG
  | p R =>
   refine .inl (ao.2 b ?_);exact(R.frame w _ v ao.1 fun b4 cR=>Below.heap_alloc _ _ _ (R.iS _ _ _ ao.1 cR)).2 b fG
theorem NE{t n sz:Nat}{parts:List (Nat×Operand)}{vs:List Value}{zs:List (Nat×bF)}{r:List AC} [S:hE P t sz] [Z:nX P t vs](hw:want ops ⟨some d,.buildSlice t n parts.toArray,ty,pos,after,guard⟩ s=some true)(aS:oR s.look parts=some zs)(aa:r1 (ze n sz) (iW n sz vs) zs=some r)
  (h1:(vs.all fun v=>v.oneCell')=true) (hs:Nat.beq vs.length sz=true) (aE:Nat.blt 0 (n*sz)=true) (h2:Nat.ble (n*sz) 16777216=true) (ao:Nat.beq r.length (n*sz)=true) (cu:r.all AC.aW=true) (hd:Nat.blt d s.n=true) (h:bm P ops K rest (s.put (some d) (cF sz n r))):bm P ops K (⟨some d,.buildSlice t n parts.toArray,ty,pos,after,guard⟩::rest) s:=by
 refine H8 (av:=cF sz n r) hw ⟨fun z BS => ?_,fun j af=>ly _ j af,fun U ad W env he => ?_⟩ hd h
 ·simp only[Op.operands,List.mem_toArray,fE] at BS;obtain⟨p,hp,rfl⟩:=BS;obtain⟨z,h1,_⟩:=KX parts zs aS p hp;exact⟨_,h1⟩
 ·obtain⟨e,i,hu,hi,bI⟩:=nf S.h;have ed:=Z.h;unfold zz at ed;rw[hu] at ed;simp only at ed;unfold zeroOf at ed;rw[hi] at ed;simp only[lW] at ed;cases iy:i.zero with
  | none=>rw[iy] at ed;cases ed
  | some z =>
   rw[iy] at ed;cases ed;have hlen:z.cells.toList.length=sz:=gn hs;have A6:0<n*sz:=by simpa [lz] using aE
   have yp:n*sz≤16777216:=by simpa [Nat.ble_eq] using h2
   have Fy:r.length=n*sz:=gn ao;have q7:∀y∈r,y.aW=true:=bZ.1 cu;have tK:(zeroValue e).run P W = .ok z W:=by simp[zeroValue,typeInfo,program,Sem.run_bind,Sem.run,hi,Result.andThen,iy]
   have hH:bO U ad W (iW n sz z.cells.toList) ((List.range (n*sz)).map fun j=>z.cells[j % z.cells.size]!):=by
    refine⟨by simp[iW],fun j x v ab hv => ?_⟩;have af:j<n*sz:=by have:=(bq.1 hv).1;simpa using this
    simp only[iW,dt,xq af,ha,iC] at ab hv;subst ab;subst hv;have w4:z.cells.size=sz:=by simpa using hlen
    have Kg:0<sz:=Nat.pos_of_mul_pos_left A6 |> fun h=>by
     rcases xr sz with q|q
     ·rw[q] at A6;simp at A6
     ·exact q
    have a8:j % z.cells.size<z.cells.size:=Nat.mod_lt _ (by omega);have aN:z.cells.toList.toArray[j % z.cells.toList.length]! = z.cells[j % z.cells.size]! := by simp
    refine⟨aN.symm,?_⟩;rw[aN,getElem!_pos z.cells _ a8];exact bZ.1 h1 _ (by simp)
   obtain⟨us,g1,g2⟩:=A2 (U:=U) (ad:=ad) (W:=W) (ps:=ze n sz) (place:=fun i=>some (i*sz,sz)) (fun i q aj=>by
     simp only[ze,dt] at aj;cases ao:(List.range n)[i]? with
     | none=>rw[ao] at aj;cases aj
     | some m =>
      rw[ao] at aj;cases aj;have:=bq.1 ao;obtain⟨ar,aK⟩:=this;simp at aK;rw[aK]) (look:=s.look) (env:=env) parts _ _ zs r hH aS (fun p hp a aX=>he p.2 (by simp only[Op.operands,List.mem_toArray,fE];exact⟨p,hp,rfl⟩) a aX) aa
   refine⟨.slice (some ⟨W.heap.size,0,none⟩) n n,W.alloc (.cells us.toArray e),?_,⟨⟨some ⟨W.heap.size,0,none⟩,n,rfl,cE _,Fy,fun aA=>⟨_,us,rfl,Y7 g2 q7⟩⟩,?_⟩,(Below.refl _ _).alloc (cE _) _⟩
   ·have vf:(parts.toArray.map fun(i,x)=>(i,env x)).toList=parts.map fun p=>(p.1,env p.2):=by simp
    have b6:(Array.range (n*sz)).map (fun j=>z.cells[j % z.cells.size]!)=((List.range (n*sz)).map fun j=>z.cells[j % z.cells.size]!).toArray:=by simp[←List.toArray_range]
    simp only[execOp,Instr.buildSlice,Sem.run_bind,run_underlying hu,Result.andThen_ok,ig hi,bI];rw[if_neg (by omega),if_neg (by omega)];simp only[Sem.run_bind,Sem.run_pure,tK,Result.andThen_ok,b6,vf,g1,newRow,newObj,Sem.run];rfl
   ·rintro b ⟨c,a,e,aA,aa⟩;cases e;exact Y8 g2 aa
end
def gC{α:Type}:List (Nat×α)→Nat→Option α
 | [],_=>none
 | (k,v)::r,t=>bif Nat.beq t k then some v else gC r t
def ei(n:Nat)(az:List (Nat×ag))(aR:List (Nat×List AC)):aB:=⟨n,gC az,gC aR⟩
def hW{α:Type}(f:Nat→Option α):List (Nat×α)→Prop
 | []=>True
 | (k,v)::r=>f k=some v∧hW f r
theorem At{α:Type}{f:Nat→Option α}:∀(l:List (Nat×α)),hW f l→∀t v,gC l t=some v→f t=some v
 | [],_,t,v,h=>by cases h
 | (k,u)::r,aX,t,v,h=>by
  simp only[gC] at h;cases aa:Nat.beq t k with
  | true=>rw[aa] at h;cases h;rw[gn aa];exact aX.1
  | false=>rw[aa] at h;exact At r aX.2 t v h
theorem rf{s:aB}{n:Nat}{az:List (Nat×ag)}{aR:List (Nat×List AC)}(aA:n=s.n)(aC:hW s.tmps az)(hm:hW s.mem aR):s.aU (ei n az aR) :=
 ⟨aA,At az aC,At aR hm⟩
def FX{α:Type}(aR:List (Nat×α))(k:Nat):Bool:=aR.any fun p=>Nat.beq k p.1
def x8(aR:List (Nat×List AC)):AC→Bool
 | .own k _=>FX aR k
 | _=>true
def NW(aR:List (Nat×List AC)):ag→Bool
 | .w x=>x.cells.all (x8 aR)
 | .ck xs=>xs.all fun x=>x.cells.all (x8 aR)
def okB(az:List (Nat×ag))(aR:List (Nat×List AC)):Bool:=az.all (fun p=>NW aR p.2)&&aR.all fun p=>p.2.all (x8 aR)
theorem RF{α:Type}{k:Nat}:∀(aR:List (Nat×α)),FX aR k=true→∃v,gC aR k=some v
 | [],h=>by cases h
 | (j,u)::r,h=>by
  simp only[FX,List.any_cons,pA] at h;simp only[gC];cases aa:Nat.beq k j with
  | true=>exact⟨u,rfl⟩
  | false=>rw[aa] at h;exact RF r (by simpa [FX] using h)
theorem Cc{α:Type}{k:Nat}{v:α}:∀(aR:List (Nat×α)),gC aR k=some v→(k,v)∈aR
 | [],h=>by cases h
 | (j,u)::r,h=>by
  simp only[gC] at h;cases aa:Nat.beq k j with
  | true=>rw[aa] at h;cases h;rw[gn aa];simp
  | false=>rw[aa] at h;exact kH _ (Cc r h)
theorem H3{aR:List (Nat×List AC)}{x:AC}{j:Nat}(h:x8 aR x=true)(af:x.owns j):∃cs,gC aR j=some cs:=by
 cases x with
 | c v=>cases af
 | p R=>cases af
 | own k o=>cases af;exact RF aR h
theorem rh{n:Nat}{az:List (Nat×ag)}{aR:List (Nat×List AC)}(h:okB az aR=true):(ei n az aR).bM:=by
 unfold okB at h;rw[eg] at h;refine⟨fun t av j aC af => ?_,fun k cs x j ae ab af => ?_⟩
 ·have h1:=bZ.1 h.1 _ (Cc az aC);cases av with
  | w x =>
   obtain⟨y,ai,nE⟩:=af;exact H3 (bZ.1 h1 y ai) nE
  | ck xs =>
   obtain⟨z,aS,y,ai,nE⟩:=af;exact H3 (bZ.1 (bZ.1 h1 z aS) y ai) nE
 ·have h1:=bZ.1 h.2 _ (Cc aR ae);exact H3 (bZ.1 h1 x ab) af
section
variable{P:Program}{s:aB}{x:Code}
theorem oE{Q:Exit→aB→Prop}(N:Nat)(I:Nat→List (Nat×ag)→List (Nat×List AC)→Prop)(k:Nat)(az:List (Nat×ag))(aR:List (Nat×List AC))(bf:I k az aR)(aA:N=s.n)(aC:hW s.tmps az)(hm:hW s.mem aR)(ok:okB az aR=true)
  (round:∀k az aR,I k az aR→okB az aR=true→fz P x (tc (fun s'=>∃k' hA hq,k'<k∧I k' hA hq∧N=s'.n∧hW s'.tmps hA∧hW s'.mem hq∧okB hA hq=true) Q) (ei N az aR)):fz P (.loop x) Q s:=by
 refine N3 (fun k s=>∃az aR,I k az aR∧okB az aR=true∧s=ei N az aR) k (ei N az aR) (rf aA aC hm) (rh ok) ⟨az,aR,bf,ok,rfl⟩ ?_;rintro k s ⟨az,aR,bf,ok,rfl⟩;intro bU B A ad a w an;refine rM (round k az aR bf ok bU B A ad a w an) ?_;rintro e a' w' ⟨s',aV,xk,bu,aj⟩;refine⟨s',aV,xk,bu,?_⟩;cases e with
 | normal =>
  obtain⟨k',hA,hq,h1,h2,ar,aK,bX,fb⟩:=aj;exact⟨k',h1,ei N hA hq,rf ar aK bX,rh fb,hA,hq,h2,fb,rfl⟩
 | _=>exact aj
def CN(P:Program)(x:Code)(Q:Exit→aB→Prop):Nat→aB→Prop
 | 0,_=>False
 | n+1,s=>fz P x (tc (CN P x Q n) Q) s
theorem aj0{Q:Exit→aB→Prop}{n:Nat}(h:fz P x (tc (CN P x Q n) Q) s):CN P x Q (n+1) s:=h
theorem Zi(n:Nat){Q:Exit→aB→Prop}(h:CN P x Q n s):fz P (.loop x) Q s:=by
 intro ok;refine N3 (fun k s=>s.bM∧CN P x Q k s) n s ⟨rfl,fun _ _ h=>h,fun _ _ h=>h⟩ ok ⟨ok,h⟩ ?_ ok;rintro k s ⟨ok,h⟩;cases k with
 | zero=>cases h
 | succ k =>
  intro bU B A ad a w an;refine rM (h bU B A ad a w an) ?_;rintro e a' w' ⟨s',aV,xk,bu,aj⟩;refine⟨s',aV,xk,bu,?_⟩;cases e with
  | normal=>exact⟨k,Nat.lt_succ_self k,s',⟨rfl,fun _ _ h=>h,fun _ _ h=>h⟩,xk,xk,aj⟩
  | _=>exact aj
end
structure z7 where
 v:Value
 n:Nat
 xs:List Value
section
variable{P:Program}{B eU:cU}{A b0:Nat→Prop}{s s':aB}{ad:Nat→Nat}{a:Act}{w w':World}
theorem Rel.pP(h:Rel B A s ad a w)(cW:∀b,A b→b<w.heap.size→b0 b∧w'.heap[b]?=w.heap[b]?)(c9:∀k cs,s.mem k=some cs→w'.heap[ad k]?=w.heap[ad k]?∧¬eU.F (ad k))(pj:eR eU w')(BO:∀b,eU.W.heap.size≤b→b0 b)(JB:uy eU s ad)(mj:eU.marks=B.marks:=by rfl):Rel eU b0 s ad a w':=by
 have PT:∀b,s.free A ad b→b<w.heap.size→s.free b0 ad b∧w'.heap[b]?=w.heap[b]?:=fun b aa al=>⟨⟨(cW b aa.1 al).1,aa.2⟩,(cW b aa.1 al).2⟩;refine⟨h.kD.trans mj.symm,h.size,fun t av aC => ?_,fun k cs ae => ?_,h.inj,pj,BO,JB⟩
 ·obtain⟨v,h1,h2⟩:=h.dq t av aC;exact⟨v,h1,h2.map PT fun _ _=>rfl⟩
 ·obtain⟨vs,ty,h1,h2,ar⟩:=h.c3 k cs ae;exact⟨vs,ty,by rw[(c9 k cs ae).1];exact h1,h2.map PT fun _ _ _ _=>rfl,(c9 k cs ae).2⟩
theorem Rel.LU{d:Nat}{av bv:ag}(h:Rel B A s ad a w)(hd:s.tmps d=some bv)(hv:∀v,a.tmps[d]?=some v→cS (s.free A ad) ad w bv v→cS (s.free A ad) ad w av v):Rel B A (s.put (some d) av) ad a w:=by
 refine⟨h.kD,h.size,fun t cv aC => ?_,h.c3,h.inj,h.below,h.up,h.fP⟩;simp only[aB.put] at aC
 by_cases e:t=d
 ·subst e;rw[bW] at aC;cases aC;obtain⟨v,h1,h2⟩:=h.dq t bv hd;exact⟨v,h1,hv v h1 h2⟩
 ·rw[bL _ _ e] at aC;exact h.dq t cv aC
def hY(B:cU)(s:aB)(ad:Nat→Nat)(w:World):cU:=⟨w,fun b=>b<w.heap.size∧∀k cs,s.mem k=some cs→ad k≠b,fun _ h=>h.1,fun k=>if s.n≤k then some (ad k) else none,B.marks⟩
theorem lP{B:cU}(s:aB)(ad:Nat→Nat)(w:World):uy (hY B s ad w) s ad:=fun k b ae=>by
 simp only[hY] at ae
 split at ae
 ·rename_i h;exact⟨h,lA ae⟩
 ·cases ae
theorem Za{aG:cU}{s s':aB}{ad aV:Nat→Nat}{w w':World}{A:Nat→Prop}{a':Act}(h:uy aG s ad)(bu:Rel (hY aG s ad w) A s' aV a' w'):uy aG s' aV:=fun k b ae=>by
 obtain⟨h1,h2⟩:=h k b ae;obtain⟨ar,aK⟩:=bu.fP k (ad k) (by simp[hY,h1]);exact⟨ar,aK.trans h2⟩
theorem Rel.hot(h:Rel B A s ad a w)(BO:∀b,w.heap.size≤b→A b):Rel (hY B s ad w) A s ad a w :=
 h.pP (fun b h _=>⟨h,rfl⟩) (fun k cs ae=>⟨rfl,fun aw=>aw.2 k cs ae rfl⟩) (eR.refl _) BO (lP _ _ _)
theorem S5{base:Nat}{e:TypeId}{sz:Nat}{v:Value}{n:Nat}{xs:List Value}(h:w.ownsRow base e sz v n xs)(au:∀g,v.ownBlock=some g→w'.heap[g]?=w.heap[g]?):w'.ownsRow base e sz v n xs:=by
 refine⟨h.1,?_⟩;rcases h.2 with aA|⟨g,cap,cur,rfl,aa,si,rest⟩
 ·exact .inl aA
 ·exact .inr ⟨g,cap,cur,rfl,aa,(au g rfl).trans si,rest⟩
end
def HD(aG:cU)(aP:Nat→Prop)(e sz:Nat)(t:z7)(s:aB)(a:Act)(w:World):Prop :=
 ∃A ad,(∀b,A b→aP b)∧Rel (hY aG s ad w) A s ad a w∧(∀k cs,s.mem k=some cs→¬aG.F (ad k))∧eR aG w∧w.ownsRow aG.W.heap.size e sz t.v t.n t.xs∧(∀g,t.v.ownBlock=some g→¬A g∧∀k cs,s.mem k=some cs→ad k≠g)∧(∀u∈t.xs,u.oneCell'=true)∧uy aG s ad
def Xd(P:Program)(e sz:Nat)(c:Code)(Q:Exit→z7→aB→Prop)(t:z7)(s:aB):Prop :=
 s.bM→∀(aG:cU) aP a w,(∀b,aG.W.heap.size≤b→aP b)→HD aG aP e sz t s a w→k8 P c (fun x a' w'=>∃l0 s',s'.bM∧HD aG aP e sz l0 s' a' w'∧Q x l0 s') a w
section
variable{P:Program}{e sz:Nat}{t:z7}{s:aB}{Q:Exit→z7→aB→Prop}{x y c:Code}
theorem amD{Q:Exit→aB→Prop}(e sz:Nat)(h:Xd P e sz c (fun x t s'=>∃d,s'.tmps d=some (aQ t.v)∧Q x (s'.put (some d) (cF sz t.n (t.xs.map .c)))) ⟨.slice none 0 0,0,[]⟩ s):fz P c Q s:=by
 intro ok B A ad a w an;have cb:HD B A e sz ⟨.slice none 0 0,0,[]⟩ s a w:=⟨A,ad,fun _ h=>h,an.hot fun b h=>an.up b (eO an.below.size h),fun k cs ae=>(an.c3 k cs ae).choose_spec.choose_spec.2.2,an.below,World.ownsRow_nil w B.W.heap.size e sz,fun g au=>(by cases au),fun u hu=>(by cases hu),an.fP⟩;refine rM (h ok B A a w an.up cb) ?_;rintro x a' w' ⟨l0,s',bU,⟨dO,ej,abP,tu,adK,mQ,Fx,wQ,adF,acm⟩,d,hd,aj⟩;refine⟨_,ej,bU.put fun j af=>absurd af (ly _ j),?_,aj⟩;have p0:Rel B A s' ej a' w':=tu.pP (fun b aa _=>⟨abP b aa,rfl⟩) (fun k cs ae=>⟨rfl,adK k cs ae⟩) mQ an.up acm;refine p0.LU hd fun v jj mV => ?_;obtain⟨rfl,ET⟩:=mV;obtain⟨al,aA|⟨g,cap,cur,jx,pk,sj,eN,j3,di,oh⟩⟩:=Fx
 ·obtain⟨aH,aN⟩:=aA;rw[aH];exact⟨⟨none,0,by rw[aN],by omega,by simpa using al,fun h=>absurd h (by omega)⟩,fun b ⟨c',a',q,aA,aa⟩=>by cases q⟩
 ·have mS:∀(j:Nat) u,l0.xs[j]?=some u→w'.cell? ((⟨g,0,none⟩:Addr).add j)=some u:=World.ownsRow.cells ⟨al,.inr ⟨g,cap,cur,jx,pk,sj,eN,j3,di,oh⟩⟩ (by rw[jx];rfl);have si:=(wQ g (by rw[jx];rfl)).2;rw[jx];refine⟨⟨some ⟨g,0,none⟩,cap,rfl,eN,by simpa using al,fun aA=>⟨⟨g,0,none⟩,l0.xs,rfl,(h9.1 sj).1,⟨by simp,fun i y v ai hv => ?_⟩,mS,fun y ai => ?_⟩⟩,?_⟩
  ·rw[dt,hv] at ai;cases ai;exact⟨rfl,adF v (cM hv)⟩
  ·obtain⟨v,_,rfl⟩:=fE.1 ai;rfl
  ·rintro b ⟨c',a',q,aA,aw⟩;cases q;rcases aw with rfl|⟨j,y,v,ai,hv,fG⟩
   ·exact⟨an.up _ pk,si⟩
   ·rw[dt] at ai;cases lR:l0.xs[j]? with
    | none=>rw[lR] at ai;cases ai
    | some u=>rw[lR] at ai;cases ai;cases fG
theorem UU(w:World)(base:Nat)(t ty e:TypeId)(i:TypeInfo)(z:Value)(size bytes:Nat)(aC:P.underlying t=some (.slice e))(hi:P.info? e=some i)(aS:i.zero=some z)
  (ix:i.size=size) (mh:i.bytes=bytes) (qd:z.cells.size=size) (bI:0<size)
  (v:Value) (n:Nat) (xs:List Value) (c9:w.ownsRow base e size v n xs)
  (a:Addr) (m c:Nat) (news:List Value) (al:news.length=m*size) (ml:∀j u,news[j]?=some u→w.cell? (a.add j)=some u) (h1:∀u∈news,u.oneCell'=true)
  (Jm:n+m≤maxLen) (JI:(n+m)*bytes≤140737488355328) (hY:base≤w.heap.size) (hm:0<m) :
  ∃ba w',(Builtin.append_ #[t,t] ty #[v,.slice (some a) m c]).run P w = .ok ba w'∧w'.ownsRow base e size ba (n+m) (xs++news)∧w.grownBy w' v.ownBlock∧(∀g,ba.ownBlock=some g→v.ownBlock=some g∨w.heap.size≤g)∧ba.oneCell'=true:=by
 obtain⟨ba,w',ao,h2,ar,aK⟩:=run_append_own (P:=P) w base t ty e i z size bytes aC hi aS ix mh qd bI v n xs c9 a m c news al ml h1 Jm JI hY;refine⟨ba,w',ao,h2,ar,?_,?_⟩
 ·have anE:n+m≤9223372036854775807:=by simp only[maxLen] at Jm;omega
  rcases c9.2 with ⟨rfl,rfl⟩|⟨g,cap,cur,rfl,pk,au,eN,j3,di,oh⟩
  ·have ab:xs=[]:=mZ (by simpa using c9.1);subst ab;have:=run_append_nil (P:=P) w t ty e i z aC hi aS a m c news (by rw[ix];exact al) ml hm (by omega) (by rw[mh];simp only[ib] at JI;omega);rw[this] at ao;cases ao;intro g au;simp[Value.ownBlock] at au;exact .inr (by omega)
  ·by_cases j8:n+m≤cap
   ·have lQ:n*i.size+news.length≤cur.size:=by rw[ix,al,di,←lX];exact ic _ j8
    have:=run_append_room (P:=P) w t ty e i aC hi g n cap cur au a m c news (by rw[ix];exact al) ml h1 j8 lQ;rw[this] at ao;cases ao;intro cZ dw;exact .inl dw
   ·have holds:∀j u,xs[j]?=some u→w.cell? ((⟨g,0,none⟩:Addr).add j)=some u:=c9.cells (g:=g) rfl;have:=run_append_grow (P:=P) w t ty e i z aC hi aS ⟨g,0,none⟩ n cap xs (by rw[ix];exact c9.1) holds a m c news (by rw[ix];exact al) ml (by omega) (by omega) (growslice_fits (by omega) (by rw[mh];exact JI));rw[this] at ao;cases ao;intro cZ dw;simp[Value.ownBlock] at dw;exact .inr (by omega)
 ·rcases h2.2 with ⟨rfl,_⟩|⟨g,cap,cur,rfl,_⟩ <;> rfl
theorem H0{ro:Option Nat}{B:cU}{A:Nat→Prop}{ops:Array Oper}{K:aB→Prop}{Q:Exit→Act→World→Prop}{r:List Nat}(nv:∀s' aV a' w',s'.bM→Rel B A s' aV a' w'→K s'→wpOpsIn (ma ro) 0 P ops Q r a' w'):∀(l:List Oper) (k:Nat) (s:aB) (ad:Nat→Nat) (a:Act) (w:World),(∀(j:Nat),j<l.length→l[j]?=ops[k+j]?)→s.bM→Rel B A s ad a w →
  bm P ops K l s→wpOpsIn (ma ro) 0 P ops Q ((List.range l.length).map (k + ·)++r) a w
 | [],_,_,_,_,_,_,ok,an,h=>nv _ _ _ _ ok an h
 | o::l,k,s,ad,a,w,al,ok,an,h=>by
  have aE:ops[k]?=some o:=by simpa using (al 0 (by simp)).symm
  have e:(List.range (o::l).length).map (k + ·)=k::(List.range l.length).map (k+1 + ·):=by
   rw[hb,List.range_succ_eq_map,hO,List.map_map];congr 1;apply nM;intro j _;simp[ox,oy 1 j]
  rw[e,uc,wpOpsIn_cons];refine DR aE ok an h fun s' aV a' w' bU bu ae=>H0 nv l (k+1) s' aV a' w' (fun j af=>by have:=al (j+1) (by simp;omega);simpa [ox,oy 1 j] using this) bU bu ae
def xv(P:Program)(tt e sz bytes:Nat):Bool:=match P.underlying tt,P.info? e with
 | some (.slice e'),some i=>match i.zero with
  | some z=>Nat.beq e' e&&Nat.beq i.size sz&&Nat.beq i.bytes bytes&&Nat.beq z.cells.size sz&&Nat.blt 0 sz
  | none=>false
 | _,_=>false
class nn (P:Program) (tt:TypeId) (e sz bytes:outParam Nat):Prop where
 h:xv P tt e sz bytes=true
theorem sS{tt e sz bytes:Nat}(h:xv P tt e sz bytes=true):∃(i:TypeInfo) (z:Value),P.underlying tt=some (.slice e)∧P.info? e=some i∧i.zero=some z∧i.size=sz∧i.bytes=bytes∧z.cells.size=sz∧0<sz:=by
 unfold xv at h
 split at h
 ·rename_i e' i hu hi
  split at h
  ·rename_i z aS;simp only[eg] at h;obtain⟨⟨⟨⟨h1,h2⟩,ar⟩,aK⟩,bX⟩:=h;rw[gn h1] at hu;exact⟨i,z,hu,hi,aS,gn h2,gn ar,gn aK,by simpa [lz] using bX⟩
  ·cases h
 ·cases h
def AK:Nat→List Oper→Option (List Oper×List Oper)
 | 0,l=>some ([],l)
 | k+1,o::l=>match AK k l with
  | some (a,b)=>some (o::a,b)
  | none=>none
 | _+1,[]=>none
theorem IA:∀(k:Nat) (l a b:List Oper),AK k l=some (a,b)→l=a++b
 | 0,l,a,b,h=>by cases h;rfl
 | k+1,[],a,b,h=>by cases h
 | k+1,o::l,a,b,h=>by
  simp only[AK] at h
  split at h
  ·rename_i a' b4 ak;cases h;have:=IA k l _ _ ak;rw[this];rfl
  ·cases h
end
end Go.Proofs.YtklpfooafbjnpaaGreat
