/-
  My own texts,without what this claim does not need. My own text.
-/
import Derived.Tactics
import Derived.IntWalk
import Derived.Laws.AppendOwn
import Derived.Test.YtklpfooafbjnpaaGreatSLEndsK1
set_option maxRecDepth 100000
set_option maxHeartbeats 64000000
set_option linter.unusedVariables false
set_option linter.unusedSimpArgs false
set_option linter.unusedSectionVars false
namespace Go.Proofs.YtklpfooafbjnpaaGreat
open Go.RowKit
abbrev aQ(v:Value):ag := .w (.one (.c v))
abbrev aL(n:Int):ag:=aQ (.int .i64 n)
abbrev bl(b:Bool):ag:=aQ (.bool b)
abbrev nK(k off:Nat):ag := .w (.one (.own k off))
def lx(P:Program)(ty:TypeId):Option (Bool×Nat) :=
 match P.underlying ty,P.info? ty with
 | some (.struct _),some i|some (.array _ _),some i=>some (true,i.size)
 | some _,some i=>some (false,i.size)
 | _,_=>none
class e8 (P:Program) (ty:TypeId) (agg:outParam Bool) (n:outParam Nat):Prop where
 h:lx P ty=some (agg,n)
def zeroOf(P:Program)(ty:TypeId):Option (List Value):=((P.info? ty).bind (·.zero)).map fun z=>z.cells.toList
class Dv (P:Program) (ty:TypeId) (vs:outParam (List Value)):Prop where
 h:zeroOf P ty=some vs
def wu(P:Program)(ty:TypeId)(i:Nat):Option Nat :=
 match P.underlying ty with
 | some (.struct bp)=>(bp[i]?).bind fun f=>(P.info? f.type).bind fun t=>if t.size=0 then none else some f.offset
 | _=>none
class qv (P:Program) (ty:TypeId) (i:Nat) (off:outParam Nat):Prop where
 h:wu P ty i=some off
def DL(P:Program)(ty:TypeId):Option (Nat×Nat) :=
 match P.underlying ty with
 | some (.array n e)=>(P.info? e).map fun t=>(n,t.size)
 | _=>none
class Mq (P:Program) (ty:TypeId) (n size:outParam Nat):Prop where
 h:DL P ty=some (n,size)
def uc(P:Program)(ty:TypeId):Option Nat :=
 match P.underlying ty with
 | some (.slice e)=>(P.info? e).map fun t=>t.size
 | _=>none
class hy (P:Program) (ty:TypeId) (size:outParam Nat):Prop where
 h:uc P ty=some size
def Gf(P:Program)(ty:TypeId):Option (List (Nat×Nat)) :=
 match P.underlying ty with
 | some (.struct bp)=>bp.toList.mapM fun f=>(P.info? f.type).map fun t=>(f.offset,t.size)
 | some (.array n e)=>bif Nat.ble n 32 then(P.info? e).map fun t=>(List.range n).map fun i=>(i*t.size,t.size) else none
 | _=>none
class MN (P:Program) (ty:TypeId) (ps:outParam (List (Nat×Nat))):Prop where
 h:Gf P ty=some ps
class Hj (P:Program) (ty:TypeId) (k:outParam IntKind):Prop where
 h:P.underlying ty=some (.int k)
class Enters (P:Program) (f:FuncId):Prop where
 h:enters P f=true
def takeN:List AC→Nat→Nat→Option (List AC)
 | _,0,0=>some []
 | [],_,_=>none
 | c::cs,0,n+1=>match takeN cs 0 n with
  | some r=>some (c::r)
  | none=>none
 | _::cs,off+1,n=>takeN cs off n
def qk:List AC→Nat→List AC→Option (List AC)
 | cs,0,[]=>some cs
 | [],_,_=>none
 | _::cs,0,d::ds=>match qk cs 0 ds with
  | some r=>some (d::r)
  | none=>none
 | c::cs,off+1,ds=>match qk cs off ds with
  | some r=>some (c::r)
  | none=>none
theorem GQ:∀(cs:List AC) (off n:Nat) (r:List AC),takeN cs off n=some r→off+n≤cs.length∧(cs.drop off).take n=r
 | cs,0,0,r,h=>by
  cases cs <;> (simp only[takeN,iQ] at h;subst h;simp)
 | [],0,n+1,r,h=>by simp[takeN] at h
 | [],off+1,n,r,h=>by cases n <;> simp[takeN] at h
 | c::cs,0,n+1,r,h=>by
  simp only[takeN] at h
  split at h
  ·rename_i bd ao;cases h;have:=GQ cs 0 n bd ao;simp at this ⊢;exact this
  ·cases h
 | c::cs,off+1,n,r,h=>by
  have aJ:takeN cs off n=some r:=by cases n <;> simpa [takeN] using h
  have:=GQ cs off n r aJ;exact⟨by have:=this.1;simp;omega,by simpa using this.2⟩
theorem Ck:∀(cs:List AC) (off:Nat) (ds:List AC) (r:List AC),qk cs off ds=some r→off+ds.length≤cs.length∧eM cs off ds=r
 | cs,0,[],r,h=>by
  cases cs <;> (simp only[qk,iQ] at h;subst h;simp[eM])
 | [],0,d::ds,r,h=>by simp[qk] at h
 | [],off+1,ds,r,h=>by cases ds <;> simp[qk] at h
 | c::cs,0,d::ds,r,h=>by
  simp only[qk] at h
  split at h
  ·rename_i bd ao;cases h;have:=Ck cs 0 ds bd ao;simp[eM] at this ⊢;exact this
  ·cases h
 | c::cs,off+1,ds,r,h=>by
  simp only[qk] at h
  split at h
  ·rename_i bd ao;cases h;have:=Ck cs off ds bd ao;simp[eM,Nat.add_right_comm] at this ⊢;exact this
  ·cases h
section
variable{P:Program}{s s':aB}{o:Oper}{ops:Array Oper}{rest:List Oper}{K:aB→Prop}
theorem dA(h:K s):bk P ops K [] s:=h
theorem Nh{prs:List (Nat×Nat)}(hs:prs.all (nH s)=true)(h:K s):bk P ops (fun s=>prs.all (nH s)=true∧K s) [] s:=⟨hs,h⟩
theorem rN{e:cB}(hw:want ops o s=some true)(he:e7 P s.n s.look s.mem o true e)(hd:∀d,o.dst=some d→d<s.n)(h:bk P ops K rest (e.on o.dst s)):bk P ops K (o::rest) s:=⟨true,hw,e,he,hd,h⟩
section
variable{d ty:Nat}{op:Op}{pos:String}{after:Array Edge}{guard:Option (Nat×Bool)}
theorem l3{d:Nat}(hd:Nat.blt d s.n=true):∀d',some d=some d'→d'<s.n:=fun d' e=>by cases e;simpa [lr] using hd
theorem Ni{dst:Option Nat}(hw:want ops ⟨dst,op,ty,pos,after,guard⟩ s=some false)(hd:∀d,dst=some d→Nat.blt d s.n=true)(h:bk P ops K rest (s.put dst (.cd []))):bk P ops K (⟨dst,op,ty,pos,after,guard⟩::rest) s :=
 ⟨false,hw,_,.skip,fun d e=>by have:=hd d e;simpa [lr] using this,h⟩
theorem fU{av:ag}(hw:want ops ⟨some d,op,ty,pos,after,guard⟩ s=some true)(aj:xM P s.look ⟨some d,op,ty,pos,after,guard⟩ av)(hd:Nat.blt d s.n=true)(h:bk P ops K rest (s.put (some d) av)):bk P ops K (⟨some d,op,ty,pos,after,guard⟩::rest) s :=
 rN hw (.quiet av aj) (l3 hd) h
theorem X8{x:Operand}{av:ag}(hw:want ops ⟨some d,.move x,ty,pos,after,guard⟩ s=some true)(ab:s.look x=some av)(hd:Nat.blt d s.n=true)(h:bk P ops K rest (s.put (some d) av)):bk P ops K (⟨some d,.move x,ty,pos,after,guard⟩::rest) s:=by
 refine fU hw ⟨fun _ _ h=>(by cases h),fun y ai => ?_,fun U ad W env he=>⟨env x,rfl,he x (by simp[Op.operands]) av ab⟩,fun j af=>⟨x,by simp[Op.operands],av,ab,af⟩⟩ hd h;simp[Op.operands] at ai;subst ai;exact⟨av,ab⟩
theorem XJ{x:Operand}{av:ag}(hw:want ops ⟨some d,.assign x,ty,pos,after,guard⟩ s=some true)(ab:s.look x=some av)(hd:Nat.blt d s.n=true)(h:bk P ops K rest (s.put (some d) av)):bk P ops K (⟨some d,.assign x,ty,pos,after,guard⟩::rest) s:=by
 refine fU hw ⟨fun _ _ h=>(by cases h),fun y ai => ?_,fun U ad W env he=>⟨env x,rfl,he x (by simp[Op.operands]) av ab⟩,fun j af=>⟨x,by simp[Op.operands],av,ab,af⟩⟩ hd h;simp[Op.operands] at ai;subst ai;exact⟨av,ab⟩
theorem XU{x:Operand}{i:Nat}{xs:List bD}{y:bD}(hw:want ops ⟨some d,.extract x i,ty,pos,after,guard⟩ s=some true)(ab:s.look x=some (.cd xs))(hi:xs[i]?=some y)(hd:Nat.blt d s.n=true)(h:bk P ops K rest (s.put (some d) (.w y))):bk P ops K (⟨some d,.extract x i,ty,pos,after,guard⟩::rest) s:=by
 refine fU (av := .w y) hw ⟨fun _ _ h=>(by cases h),fun y ai => ?_,fun U ad W env he => ?_,fun j af=>⟨x,by simp[Op.operands],_,ab,⟨y,cP hi,af⟩⟩⟩ hd h
 ·simp[Op.operands] at ai;subst ai;exact⟨_,ab⟩
 ·obtain⟨vs,e,al,hv⟩:=he x (by simp[Op.operands]) _ ab;have bb:i<vs.length:=by rw[←al];exact(br.1 hi).1
  refine⟨vs[i],?_,hv i y _ hi (bG bb)⟩;simp only[execOp,Instr.extract,e];simp[bb]
theorem XW{x:Operand}{xw i k off kl:Nat} [F:qv P xw i kl](hw:want ops ⟨some d,.fieldAddr xw x i,ty,pos,after,guard⟩ s=some true)(ab:s.look x=some (nK k off))(hd:Nat.blt d s.n=true)(h:bk P ops K rest (s.put (some d) (nK k (off+kl)))):bk P ops K (⟨some d,.fieldAddr xw x i,ty,pos,after,guard⟩::rest) s:=by
 refine fU hw ⟨fun _ _ h=>(by cases h),fun y ai => ?_,fun U ad W env he => ?_,fun j af=>⟨x,by simp[Op.operands],_,ab,?_⟩⟩ hd h
 ·simp[Op.operands] at ai;subst ai;exact⟨_,ab⟩
 ·have hp:env x = .pointer (some ⟨ad k,off,none⟩):=he x (by simp[Op.operands]) _ ab;have hF:=F.h;unfold wu at hF
  split at hF
  ·rename_i bp hu;cases ay:bp[i]? with
   | none=>rw[ay] at hF;cases hF
   | some f =>
    rw[ay] at hF;simp only[lN] at hF;cases hi:P.info? f.type with
    | none=>rw[hi] at hF;cases hF
    | some t =>
     rw[hi] at hF;simp only[lN] at hF
     split at hF
     ·cases hF
     ·rename_i cz;cases hF;refine⟨.pointer (some ⟨ad k,off+f.offset,none⟩),?_,rfl⟩;have lH:(⟨ad k,off,none⟩:Addr).add f.offset=⟨ad k,off+f.offset,none⟩:=by unfold Addr.add;split <;> simp_all
      simp only[execOp,Instr.fieldAt,hp,Instr.sureAddr,Sem.run_bind,Sem.run_pure,Result.andThen_ok,run_underlying hu,ay,fieldPlace,ia hi,if_neg cz,lH]
  ·cases hF
 ·obtain⟨y,ai,nv⟩:=af;exact⟨.own k off,by simp[bD.cells],by simp[bD.cells] at ai;subst ai;exact nv⟩
theorem Nf{x y:Operand}{HO k off n size:Nat}{gD:IntKind}{i:Int} [A:Mq P HO n size](hw:want ops ⟨some d,.indexAddr HO x y,ty,pos,after,guard⟩ s=some true)(ab:s.look x=some (nK k off))(ai:s.look y=some (aQ (.int gD i)))(aF:0≤i)(h1:i<n)(hd:Nat.blt d s.n=true)(h:bk P ops K rest (s.put (some d) (nK k (off+i.toNat*size)))):bk P ops K (⟨some d,.indexAddr HO x y,ty,pos,after,guard⟩::rest) s:=by
 refine fU hw ⟨fun _ _ h=>(by cases h),fun z aR => ?_,fun U ad W env he => ?_,fun j af=>⟨x,by simp[Op.operands],_,ab,?_⟩⟩ hd h
 ·simp[Op.operands] at aR;rcases aR with rfl|rfl
  ·exact⟨_,ab⟩
  ·exact⟨_,ai⟩
 ·have hp:env x = .pointer (some ⟨ad k,off,none⟩):=he x (by simp[Op.operands]) _ ab;have hi:env y = .int gD i:=(he y (by simp[Op.operands]) _ ai).1;have cp:=A.h;unfold DL at cp
  split at cp
  ·rename_i n' e hu;cases b4:P.info? e with
   | none=>rw[b4] at cp;cases cp
   | some t =>
    rw[b4] at cp;cases cp;refine⟨.pointer (some ⟨ad k,off+i.toNat*t.size,none⟩),?_,rfl⟩;have lH:(⟨ad k,off,none⟩:Addr).add (i.toNat*t.size)=⟨ad k,off+i.toNat*t.size,none⟩:=by unfold Addr.add;split <;> simp_all
    simp only[execOp,Instr.indexAt,hp,hi,asIntOf,Instr.sureAddr,Sem.run_bind,Sem.run_pure,Result.andThen_ok,run_underlying hu,ia b4,if_pos (And.intro aF h1),lH]
  ·cases cp
 ·obtain⟨y,ai,nv⟩:=af;exact⟨.own k off,by simp[bD.cells],by simp[bD.cells] at ai;subst ai;exact nv⟩
theorem Vl{ty n:Nat}(h:lx P ty=some (false,n)){cs:List AC}{off:Nat}{y:AC}(ak:cs[off]?=some y):pick P ty cs off=some (.one y):=by
 unfold lx at h;unfold pick;cases hu:P.underlying ty with
 | none=>rw[hu] at h;cases h
 | some D =>
  cases hi:P.info? ty with
  | none=>rw[hu,hi] at h;cases D <;> cases h
  | some i =>
   rw[hu,hi] at h;cases D <;> first|(simp only[ak,gU];done)|(exfalso;cases h)
theorem Vk{ty n:Nat}(h:lx P ty=some (true,n)){cs ys:List AC}{off:Nat}(ak:takeN cs off n=some ys):pick P ty cs off=some (.agg ys):=by
 obtain⟨h1,h2⟩:=GQ _ _ _ _ ak;unfold lx at h;unfold pick
 split at h
 ·rename_i i hu hi;cases h;simp only[hu,hi,lN,if_pos h1,h2]
 ·rename_i i hu hi;cases h;simp only[hu,hi,lN,if_pos h1,h2]
 ·cases h
 ·cases h
theorem ala{ty n:Nat}{b:Bool}(h:lx P ty=some (b,n)):∃i,P.info? ty=some i∧i.size=n:=by
 unfold lx at h
 split at h
 ·rename_i i hu hi;cases h;exact⟨i,hi,rfl⟩
 ·rename_i i hu hi;cases h;exact⟨i,hi,rfl⟩
 ·rename_i i _ _ hu hi;cases h;exact⟨_,hi,rfl⟩
 ·cases h
theorem X2{x:Operand}{lt k off n:Nat}{cs:List AC}{y:AC} [T:e8 P lt false n](hw:want ops ⟨some d,.load lt x,ty,pos,after,guard⟩ s=some true)(ab:s.look x=some (nK k off))(hm:s.mem k=some cs)(ak:cs[off]?=some y)(hd:Nat.blt d s.n=true)(h:bk P ops K rest (s.put (some d) (.w (.one y)))):bk P ops K (⟨some d,.load lt x,ty,pos,after,guard⟩::rest) s :=
 rN hw (.load lt x k off cs _ rfl ab hm (Vl T.h ak)) (l3 hd) h
theorem X3{x:Operand}{lt k off n:Nat}{cs ys:List AC} [T:e8 P lt true n](hw:want ops ⟨some d,.load lt x,ty,pos,after,guard⟩ s=some true)(ab:s.look x=some (nK k off))(hm:s.mem k=some cs)(ak:takeN cs off n=some ys)(hd:Nat.blt d s.n=true)(h:bk P ops K rest (s.put (some d) (.w (.agg ys)))):bk P ops K (⟨some d,.load lt x,ty,pos,after,guard⟩::rest) s :=
 rN hw (.load lt x k off cs _ rfl ab hm (Vk T.h ak)) (l3 hd) h
theorem Yr{x y:Operand}{st k off n:Nat}{b:Bool}{cs ds:List AC}{z:bD} [T:e8 P st b n](hw:want ops ⟨none,.store st x y,ty,pos,after,guard⟩ s=some true)(ab:s.look x=some (nK k off))(ai:s.look y=some (.w z))(hm:s.mem k=some cs)(aA:Nat.beq n z.cells.length=true)(hp:qk cs off z.cells=some ds)(h:bk P ops K rest (s.en k ds)):bk P ops K (⟨none,.store st x y,ty,pos,after,guard⟩::rest) s:=by
 obtain⟨i,hi,hs⟩:=ala T.h;obtain⟨h1,h2⟩:=Ck _ _ _ _ hp;refine rN hw (.store st x y k off cs z i rfl ab ai hm hi (by rw[hs];exact gd aA) h1) (fun d e=>by cases e) ?_;simp only[cB.on,h2];exact h
theorem XI{iW:Nat}{vs:List Value} [Z:Dv P iW vs](hw:want ops ⟨some d,.alloc iW,ty,pos,after,guard⟩ s=some true)(hm:s.mem d=none)(h1:(vs.all fun v=>v.oneCell')=true)(hd:Nat.blt d s.n=true)(h:bk P ops K rest ((s.en d (vs.map .c)).put (some d) (nK d 0))):bk P ops K (⟨some d,.alloc iW,ty,pos,after,guard⟩::rest) s:=by
 have aR:=Z.h;unfold zeroOf at aR;cases hi:P.info? iW with
 | none=>rw[hi] at aR;cases aR
 | some i =>
  rw[hi] at aR;simp only[lN] at aR;cases iv:i.zero with
  | none=>rw[iv] at aR;cases aR
  | some z =>
   rw[iv] at aR;cases aR;exact rN hw (.new _ d rfl hm (.alloc iW i z _ rfl hi iv rfl h1)) (l3 hd) h
theorem XK{HY:Nat}{x:Operand}{z:bD}(hw:want ops ⟨some d,.box HY x,ty,pos,after,guard⟩ s=some true)(ab:s.look x=some (.w z))(hm:s.mem d=none)(hd:Nat.blt d s.n=true)(h:bk P ops K rest ((s.en d z.cells).put (some d) (nK d 0))):bk P ops K (⟨some d,.box HY x,ty,pos,after,guard⟩::rest) s :=
 rN hw (.new _ d rfl hm (.box HY x z rfl ab)) (l3 hd) h
def uH:List AC→Option (List Value)
 | []=>some []
 | .c v::xs=>match uH xs with
  | some r=>some (v::r)
  | none=>none
 | _::_=>none
def ng:bD→Option Value
 | .one (.c v)=>some v
 | .one _=>none
 | .agg xs=>match uH xs with
  | some r=>some (.agg r.toArray)
  | none=>none
theorem OI{U:Nat→Prop}{ad:Nat→Nat}{W:World}:∀(xs:List AC) (vs r:List Value),bQ U ad W xs vs→uH xs=some r→vs=r
 | [],vs,r,h,he=>by cases he;have:=h.1;exact mR this.symm
 | .c v::xs,vs,r,h,he=>by
  simp only[uH] at he
  split at he
  ·rename_i bd ao;cases he;cases vs with
   | nil=>have:=h.1;cases this
   | cons u us =>
    have aF:u=v:=(h.2 0 _ _ rfl rfl).1;have:=OI xs us bd ⟨by have:=h.1;simpa using this,fun i x w ab hw=>h.2 (i+1) x w (by simpa using ab) (by simpa using hw)⟩ ao;rw[aF,this]
  ·cases he
 | .own _ _::_,_,_,_,he=>by cases he
 | .p _::_,_,_,_,he=>by cases he
theorem AE{U:Nat→Prop}{ad:Nat→Nat}{W:World}{x:bD}{v u:Value}(h:gM U ad W x v)(he:ng x=some u):v=u:=by
 cases x with
 | one y=>cases y with
  | c w=>cases he;exact h.1
  | own=>cases he
  | p=>cases he
 | agg xs =>
  simp only[ng] at he
  split at he
  ·rename_i r ao;cases he;obtain⟨vs,rfl,al⟩:=h;rw[OI xs vs r al ao]
  ·cases he
theorem gG(v:Value)(j:Nat):¬(aQ v).owns j:=fun⟨y,ai,h⟩=>by simp[bD.cells] at ai;subst ai;cases h
theorem xV{s5:BinOp}{df dW:Nat}{x y:Operand}{a b:bD}{jH fG v:Value}(hw:want ops ⟨some d,.binOp s5 df x y dW,ty,pos,after,guard⟩ s=some true)(ab:s.look x=some (.w a))(ai:s.look y=some (.w b))(jo:ng a=some jH)(nc:ng b=some fG)
  (au:∀W,(eqGuard s5 df x y jH fG).run P W = .ok () W) (ao:∀W,(binOp s5 df jH fG).run P W = .ok v W) (h1:v.oneCell'=true) (hd:Nat.blt d s.n=true) (h:bk P ops K rest (s.put (some d) (aQ v))):bk P ops K (⟨some d,.binOp s5 df x y dW,ty,pos,after,guard⟩::rest) s:=by
 refine fU (av:=aQ v) hw ⟨fun _ _ h=>(by cases h),fun z aR => ?_,fun U ad W env he=>⟨v,?_,⟨rfl,h1⟩⟩,fun j af=>absurd af (gG v j)⟩ hd h
 ·simp[Op.operands] at aR;rcases aR with rfl|rfl
  ·exact⟨_,ab⟩
  ·exact⟨_,ai⟩
 ·have aI:env x=jH:=AE (he x (by simp[Op.operands]) _ ab) jo;have aN:env y=fG:=AE (he y (by simp[Op.operands]) _ ai) nc;simp only[execOp,aI,aN,Sem.run_bind,au,Result.andThen_ok,ao,Sem.run_pure]
theorem qI{s5:BinOp}{df dW:Nat}{x y:Operand}{k:IntKind}{a b:Int}{v:Value}(hw:want ops ⟨some d,.binOp s5 df x y dW,ty,pos,after,guard⟩ s=some true)(ab:s.look x=some (aQ (.int k a)))(ai:s.look y=some (aQ (.int k b)))
  (ao:∀W,(binOp s5 df (.int k a) (.int k b)).run P W = .ok v W) (h1:v.oneCell'=true) (hd:Nat.blt d s.n=true) (h:bk P ops K rest (s.put (some d) (aQ v))):bk P ops K (⟨some d,.binOp s5 df x y dW,ty,pos,after,guard⟩::rest) s :=
 xV hw ab ai rfl rfl (fun W=>by unfold eqGuard;cases s5 <;> rfl) ao h1 hd h
theorem X4{df dW:Nat}{x y:Operand}{k:IntKind}{a b:Int}(hw:want ops ⟨some d,.binOp .lss df x y dW,ty,pos,after,guard⟩ s=some true)(ab:s.look x=some (aQ (.int k a)))(ai:s.look y=some (aQ (.int k b)))(hd:Nat.blt d s.n=true)(h:bk P ops K rest (s.put (some d) (bl (decide (a<b))))):bk P ops K (⟨some d,.binOp .lss df x y dW,ty,pos,after,guard⟩::rest) s :=
 qI hw ab ai (fun W=>by cases k <;> rfl) rfl hd h
theorem X1{df dW:Nat}{x y:Operand}{k:IntKind}{a b:Int}(hw:want ops ⟨some d,.binOp .leq df x y dW,ty,pos,after,guard⟩ s=some true)(ab:s.look x=some (aQ (.int k a)))(ai:s.look y=some (aQ (.int k b)))(hd:Nat.blt d s.n=true)(h:bk P ops K rest (s.put (some d) (bl (decide (a≤b))))):bk P ops K (⟨some d,.binOp .leq df x y dW,ty,pos,after,guard⟩::rest) s :=
 qI hw ab ai (fun W=>by cases k <;> rfl) rfl hd h
theorem XZ{df dW:Nat}{x y:Operand}{k:IntKind}{a b:Int}(hw:want ops ⟨some d,.binOp .gtr df x y dW,ty,pos,after,guard⟩ s=some true)(ab:s.look x=some (aQ (.int k a)))(ai:s.look y=some (aQ (.int k b)))(hd:Nat.blt d s.n=true)(h:bk P ops K rest (s.put (some d) (bl (decide (b<a))))):bk P ops K (⟨some d,.binOp .gtr df x y dW,ty,pos,after,guard⟩::rest) s :=
 qI hw ab ai (fun W=>by cases k <;> rfl) rfl hd h
theorem XY{df dW:Nat}{x y:Operand}{k:IntKind}{a b:Int}(hw:want ops ⟨some d,.binOp .geq df x y dW,ty,pos,after,guard⟩ s=some true)(ab:s.look x=some (aQ (.int k a)))(ai:s.look y=some (aQ (.int k b)))(hd:Nat.blt d s.n=true)(h:bk P ops K rest (s.put (some d) (bl (decide (b≤a))))):bk P ops K (⟨some d,.binOp .geq df x y dW,ty,pos,after,guard⟩::rest) s :=
 qI hw ab ai (fun W=>by cases k <;> rfl) rfl hd h
theorem XR{df dW:Nat}{x y:Operand}{k:IntKind}{a b:Int}(hw:want ops ⟨some d,.binOp .eql df x y dW,ty,pos,after,guard⟩ s=some true)(ab:s.look x=some (aQ (.int k a)))(ai:s.look y=some (aQ (.int k b)))(hd:Nat.blt d s.n=true)(h:bk P ops K rest (s.put (some d) (bl (decide (a=b))))):bk P ops K (⟨some d,.binOp .eql df x y dW,ty,pos,after,guard⟩::rest) s :=
 qI hw ab ai (fun W=>by cases k <;> rfl) rfl hd h
theorem Yc{df dW:Nat}{x y:Operand}{k:IntKind}{a b:Int}(hw:want ops ⟨some d,.binOp .neq df x y dW,ty,pos,after,guard⟩ s=some true)(ab:s.look x=some (aQ (.int k a)))(ai:s.look y=some (aQ (.int k b)))(hd:Nat.blt d s.n=true)(h:bk P ops K rest (s.put (some d) (bl (!decide (a=b))))):bk P ops K (⟨some d,.binOp .neq df x y dW,ty,pos,after,guard⟩::rest) s :=
 qI hw ab ai (fun W=>by cases k <;> rfl) rfl hd h
theorem vV{df dW:Nat}{x y:Operand}{k:IntKind}{a b c:Int}(hw:want ops ⟨some d,.binOp .add df x y dW,ty,pos,after,guard⟩ s=some true)(ab:s.look x=some (aQ (.int k a)))(ai:s.look y=some (aQ (.int k b)))(ak:k.wrap (a+b)=c)(hd:Nat.blt d s.n=true)(h:bk P ops K rest (s.put (some d) (aQ (.int k c)))):bk P ops K (⟨some d,.binOp .add df x y dW,ty,pos,after,guard⟩::rest) s :=
 qI hw ab ai (fun W=>by rw[←ak];cases k <;> rfl) rfl hd h
theorem Ys{df dW:Nat}{x y:Operand}{k:IntKind}{a b c:Int}(hw:want ops ⟨some d,.binOp .sub df x y dW,ty,pos,after,guard⟩ s=some true)(ab:s.look x=some (aQ (.int k a)))(ai:s.look y=some (aQ (.int k b)))(ak:k.wrap (a-b)=c)(hd:Nat.blt d s.n=true)(h:bk P ops K rest (s.put (some d) (aQ (.int k c)))):bk P ops K (⟨some d,.binOp .sub df x y dW,ty,pos,after,guard⟩::rest) s :=
 qI hw ab ai (fun W=>by rw[←ak];cases k <;> rfl) rfl hd h
theorem X9{df dW:Nat}{x y:Operand}{k:IntKind}{a b c:Int}(hw:want ops ⟨some d,.binOp .mul df x y dW,ty,pos,after,guard⟩ s=some true)(ab:s.look x=some (aQ (.int k a)))(ai:s.look y=some (aQ (.int k b)))(ak:k.wrap (a*b)=c)(hd:Nat.blt d s.n=true)(h:bk P ops K rest (s.put (some d) (aQ (.int k c)))):bk P ops K (⟨some d,.binOp .mul df x y dW,ty,pos,after,guard⟩::rest) s :=
 qI hw ab ai (fun W=>by rw[←ak];cases k <;> rfl) rfl hd h
theorem jd{n:Int}(h : -9223372036854775808≤n∧n<9223372036854775808):IntKind.i64.wrap n=n:=IntWalk.i64_in n (by omega)
theorem Yh{df:Nat}{x:Operand}{b:Bool}(hw:want ops ⟨some d,.unOp .not df x,ty,pos,after,guard⟩ s=some true)(ab:s.look x=some (bl b))(hd:Nat.blt d s.n=true)(h:bk P ops K rest (s.put (some d) (bl (!b)))):bk P ops K (⟨some d,.unOp .not df x,ty,pos,after,guard⟩::rest) s:=by
 refine fU (av:=bl (!b)) hw ⟨fun _ _ h=>(by cases h),fun z aR => ?_,fun U ad W env he=>⟨.bool (!b),?_,⟨rfl,rfl⟩⟩,fun j af=>absurd af (gG _ j)⟩ hd h
 ·simp[Op.operands] at aR;subst aR;exact⟨_,ab⟩
 ·have aI:env x = .bool b:=(he x (by simp[Op.operands]) _ ab).1;simp only[execOp,aI,Sem.run_bind,Op.unary];rfl
theorem Nk{L8:UnOp}{df:Nat}{x:Operand}{jH v:Value}(hw:want ops ⟨some d,.unOp L8 df x,ty,pos,after,guard⟩ s=some true)(ab:s.look x=some (aQ jH))(ao:∀W,(Op.unary L8 jH).run P W = .ok v W)(h1:v.oneCell'=true)(hd:Nat.blt d s.n=true)(h:bk P ops K rest (s.put (some d) (aQ v))):bk P ops K (⟨some d,.unOp L8 df x,ty,pos,after,guard⟩::rest) s:=by
 refine fU (av:=aQ v) hw ⟨fun _ _ h=>(by cases h),fun z aR => ?_,fun U ad W env he=>⟨v,?_,⟨rfl,h1⟩⟩,fun j af=>absurd af (gG v j)⟩ hd h
 ·simp[Op.operands] at aR;subst aR;exact⟨_,ab⟩
 ·have aI:env x=jH:=(he x (by simp[Op.operands]) _ ab).1;simp only[execOp,aI,Sem.run_bind,ao,Result.andThen_ok,Sem.run_pure]
theorem Nd{src dst:Nat}{x:Operand}{jH v:Value}(hw:want ops ⟨some d,.convert src dst x,ty,pos,after,guard⟩ s=some true)(ab:s.look x=some (aQ jH))(ao:∀W,(convert src dst jH).run P W = .ok v W)(h1:v.oneCell'=true)(hd:Nat.blt d s.n=true)(h:bk P ops K rest (s.put (some d) (aQ v))):bk P ops K (⟨some d,.convert src dst x,ty,pos,after,guard⟩::rest) s:=by
 refine fU (av:=aQ v) hw ⟨fun _ _ h=>(by cases h),fun z aR => ?_,fun U ad W env he=>⟨v,?_,⟨rfl,h1⟩⟩,fun j af=>absurd af (gG v j)⟩ hd h
 ·simp[Op.operands] at aR;subst aR;exact⟨_,ab⟩
 ·have aI:env x=jH:=(he x (by simp[Op.operands]) _ ab).1;simp only[execOp,aI,Sem.run_bind,ao,Result.andThen_ok,Sem.run_pure]
theorem XN{src dst n:Nat}{b:Bool}{k k':IntKind}{x:Operand}{a c:Int} [S:e8 P src b n] [I:Hj P dst k'](hw:want ops ⟨some d,.convert src dst x,ty,pos,after,guard⟩ s=some true)(ab:s.look x=some (aQ (.int k a)))(ak:k'.wrap a=c)(hd:Nat.blt d s.n=true)(h:bk P ops K rest (s.put (some d) (aQ (.int k' c)))):bk P ops K (⟨some d,.convert src dst x,ty,pos,after,guard⟩::rest) s:=by
 refine Nd hw ab (fun W => ?_) rfl hd h
 have hs:∃D,P.underlying src=some D:=by
  have:=S.h;unfold lx at this;cases hu:P.underlying src with
  | none=>rw[hu] at this;cases this
  | some D=>exact⟨D,rfl⟩
 obtain⟨D,hs⟩:=hs;unfold convert;simp only[Sem.run_bind,run_underlying hs,run_underlying I.h,Result.andThen_ok];rw[←ak];cases D <;> rfl
theorem Yj{c x y:Operand}{av:ag}(hw:want ops ⟨some d,.pick c x y,ty,pos,after,guard⟩ s=some true)(ak:s.look c=some (bl true))(ab:s.look x=some av){bv:ag}(ai:s.look y=some bv)(hd:Nat.blt d s.n=true)(h:bk P ops K rest (s.put (some d) av)):bk P ops K (⟨some d,.pick c x y,ty,pos,after,guard⟩::rest) s:=by
 refine fU hw ⟨fun _ _ h=>(by cases h),fun z aR => ?_,fun U ad W env he=>⟨env x,?_,he x (by simp[Op.operands]) av ab⟩,fun j af=>⟨x,by simp[Op.operands],av,ab,af⟩⟩ hd h
 ·simp[Op.operands] at aR;rcases aR with rfl|rfl|rfl
  ·exact⟨_,ak⟩
  ·exact⟨_,ab⟩
  ·exact⟨_,ai⟩
 ·have aI:env c = .bool true:=(he c (by simp[Op.operands]) _ ak).1;simp[execOp,aI,asBool]
theorem Yi{c x y:Operand}{av:ag}(hw:want ops ⟨some d,.pick c x y,ty,pos,after,guard⟩ s=some true)(ak:s.look c=some (bl false))(ab:s.look y=some av){bv:ag}(ai:s.look x=some bv)(hd:Nat.blt d s.n=true)(h:bk P ops K rest (s.put (some d) av)):bk P ops K (⟨some d,.pick c x y,ty,pos,after,guard⟩::rest) s:=by
 refine fU hw ⟨fun _ _ h=>(by cases h),fun z aR => ?_,fun U ad W env he=>⟨env y,?_,he y (by simp[Op.operands]) av ab⟩,fun j af=>⟨y,by simp[Op.operands],av,ab,af⟩⟩ hd h
 ·simp[Op.operands] at aR;rcases aR with rfl|rfl|rfl
  ·exact⟨_,ak⟩
  ·exact⟨_,ai⟩
  ·exact⟨_,ab⟩
 ·have aI:env c = .bool false:=(he c (by simp[Op.operands]) _ ak).1;simp[execOp,aI,asBool]
theorem xW{f:FuncId}{g:Operand}{az:Array TypeId}{l:List Operand}{args:List ag}{r:ag} [E:Enters P f](hw:want ops ⟨some d,.call ⟨.value g,l.toArray,az⟩,ty,pos,after,guard⟩ s=some true)(au:s.look g=some (aQ (.func (.func f) #[] #[])))(aX:l.map s.look=args.map some)(hp:aO P f args r)(hd:Nat.blt d s.n=true)(h:bk P ops K rest (s.put (some d) r)) :
  bk P ops K (⟨some d,.call ⟨.value g,l.toArray,az⟩,ty,pos,after,guard⟩::rest) s :=
 rN hw (.call f args r ⟨⟨_,g,rfl,rfl,.inl ⟨[],au,by simpa using aX,rfl⟩⟩,E.h⟩ hp) (l3 hd) h
theorem ux{f:FuncId}{g:Operand}{az:Array TypeId}{l:List Operand}{bs:List Value}{args:List ag}{r:ag} [E:Enters P f](hw:want ops ⟨some d,.call ⟨.value g,l.toArray,az⟩,ty,pos,after,guard⟩ s=some true)(au:s.look g=some (aQ (.func (.func f) bs.toArray #[])))(aa:bs.all DU=true)(aX:l.map s.look=args.map some)(hp:aO P f (bs.map yU++args) r)(hd:Nat.blt d s.n=true)(h:bk P ops K rest (s.put (some d) r)) :
  bk P ops K (⟨some d,.call ⟨.value g,l.toArray,az⟩,ty,pos,after,guard⟩::rest) s :=
 rN hw (.call f _ r ⟨⟨_,g,rfl,rfl,.inl ⟨bs,au,by rw[List.toList_toArray,aX,sx,List.map_map];rfl,aa⟩⟩,E.h⟩ hp) (l3 hd) h
theorem uw{f:FuncId}{g:Operand}{az:Array TypeId}{l:List Operand}{cs:List AC}{args:List ag}{r:ag} [E:Enters P f](hw:want ops ⟨some d,.call ⟨.value g,l.toArray,az⟩,ty,pos,after,guard⟩ s=some true)(au:s.look g=some (.w (.one (.p (lV (.func f) cs)))))(aX:l.map s.look=args.map some)(hp:aO P f (args++cs.map fun x => .w (.one x)) r)(hd:Nat.blt d s.n=true)(h:bk P ops K rest (s.put (some d) r)) :
  bk P ops K (⟨some d,.call ⟨.value g,l.toArray,az⟩,ty,pos,after,guard⟩::rest) s :=
 rN hw (.call f _ r ⟨⟨_,g,rfl,rfl,.inr ⟨cs,au,by rw[List.toList_toArray,aX,sx,List.map_map];rfl⟩⟩,E.h⟩ hp) (l3 hd) h
theorem X7{fn:Fn}{x:Operand}{a:bD}{jH:Value}(hw:want ops ⟨some d,.makeFunc fn #[x] #[],ty,pos,after,guard⟩ s=some true)(ab:s.look x=some (.w a))(jo:ng a=some jH)(hd:Nat.blt d s.n=true)(h:bk P ops K rest (s.put (some d) (aQ (.func fn #[jH] #[])))):bk P ops K (⟨some d,.makeFunc fn #[x] #[],ty,pos,after,guard⟩::rest) s:=by
 refine fU (av:=aQ (.func fn #[jH] #[])) hw ⟨fun _ _ h=>(by cases h),fun z aR => ?_,fun U ad W env he=>⟨.func fn #[jH] #[],?_,⟨rfl,rfl⟩⟩,fun j af=>absurd af (gG _ j)⟩ hd h
 ·simp[Op.operands] at aR;subst aR;exact⟨_,ab⟩
 ·have aI:env x=jH:=AE (he x (by simp[Op.operands]) _ ab) jo;have em:(#[x]:Array Operand).map env = #[jH]:=by simp[aI]
  simp only[execOp,em,Array.map_empty,Instr.makeFunc,Sem.run_bind,Sem.run_pure,Result.andThen_ok]
theorem Na{f:FuncId}{g:Operand}{az:Array TypeId}{r:ag} [E:Enters P f](hw:want ops ⟨some d,.call ⟨.value g,#[],az⟩,ty,pos,after,guard⟩ s=some true)(au:s.look g=some (aQ (.func (.func f) #[] #[])))(hp:aO P f [] r)(hd:Nat.blt d s.n=true)(h:bk P ops K rest (s.put (some d) r)):bk P ops K (⟨some d,.call ⟨.value g,#[],az⟩,ty,pos,after,guard⟩::rest) s :=
 xW (l:=[]) hw au rfl hp hd h
theorem HF{f:FuncId}{g:Operand}{az:Array TypeId}{da:Operand}{a1:ag}{r:ag} [E:Enters P f](hw:want ops ⟨some d,.call ⟨.value g,#[da],az⟩,ty,pos,after,guard⟩ s=some true)(au:s.look g=some (aQ (.func (.func f) #[] #[])))(h1:s.look da=some a1)(hp:aO P f [a1] r)(hd:Nat.blt d s.n=true)(h:bk P ops K rest (s.put (some d) r)):bk P ops K (⟨some d,.call ⟨.value g,#[da],az⟩,ty,pos,after,guard⟩::rest) s :=
 xW (l:=[da]) hw au (by simp[h1]) hp hd h
theorem HG{f:FuncId}{g:Operand}{az:Array TypeId}{da de:Operand}{a1 a2:ag}{r:ag} [E:Enters P f](hw:want ops ⟨some d,.call ⟨.value g,#[da,de],az⟩,ty,pos,after,guard⟩ s=some true)(au:s.look g=some (aQ (.func (.func f) #[] #[])))(h1:s.look da=some a1)(h2:s.look de=some a2)(hp:aO P f [a1,a2] r)(hd:Nat.blt d s.n=true)(h:bk P ops K rest (s.put (some d) r)):bk P ops K (⟨some d,.call ⟨.value g,#[da,de],az⟩,ty,pos,after,guard⟩::rest) s :=
 xW (l:=[da,de]) hw au (by simp[h1,h2]) hp hd h
theorem HH{f:FuncId}{g:Operand}{az:Array TypeId}{da de k2:Operand}{a1 a2 a3:ag}{r:ag} [E:Enters P f](hw:want ops ⟨some d,.call ⟨.value g,#[da,de,k2],az⟩,ty,pos,after,guard⟩ s=some true)(au:s.look g=some (aQ (.func (.func f) #[] #[])))(h1:s.look da=some a1)(h2:s.look de=some a2)(ar:s.look k2=some a3)(hp:aO P f [a1,a2,a3] r)(hd:Nat.blt d s.n=true)(h:bk P ops K rest (s.put (some d) r)):bk P ops K (⟨some d,.call ⟨.value g,#[da,de,k2],az⟩,ty,pos,after,guard⟩::rest) s :=
 xW (l:=[da,de,k2]) hw au (by simp[h1,h2,ar]) hp hd h
theorem Nb{f:FuncId}{g:Operand}{az:Array TypeId}{da de k2 nM:Operand}{a1 a2 a3 a4:ag}{r:ag} [E:Enters P f](hw:want ops ⟨some d,.call ⟨.value g,#[da,de,k2,nM],az⟩,ty,pos,after,guard⟩ s=some true)(au:s.look g=some (aQ (.func (.func f) #[] #[])))(h1:s.look da=some a1)(h2:s.look de=some a2)(ar:s.look k2=some a3)(aK:s.look nM=some a4)(hp:aO P f [a1,a2,a3,a4] r)(hd:Nat.blt d s.n=true)(h:bk P ops K rest (s.put (some d) r)):bk P ops K (⟨some d,.call ⟨.value g,#[da,de,k2,nM],az⟩,ty,pos,after,guard⟩::rest) s :=
 xW (l:=[da,de,k2,nM]) hw au (by simp[h1,h2,ar,aK]) hp hd h
theorem Nc{f:FuncId}{g:Operand}{az:Array TypeId}{da de k2 nM vC:Operand}{a1 a2 a3 a4 a5:ag}{r:ag} [E:Enters P f](hw:want ops ⟨some d,.call ⟨.value g,#[da,de,k2,nM,vC],az⟩,ty,pos,after,guard⟩ s=some true)(au:s.look g=some (aQ (.func (.func f) #[] #[])))(h1:s.look da=some a1)(h2:s.look de=some a2)(ar:s.look k2=some a3)(aK:s.look nM=some a4)(bX:s.look vC=some a5)(hp:aO P f [a1,a2,a3,a4,a5] r)(hd:Nat.blt d s.n=true)(h:bk P ops K rest (s.put (some d) r)):bk P ops K (⟨some d,.call ⟨.value g,#[da,de,k2,nM,vC],az⟩,ty,pos,after,guard⟩::rest) s :=
 xW (l:=[da,de,k2,nM,vC]) hw au (by simp[h1,h2,ar,aK,bX]) hp hd h
def rQ(ps:List (Nat×Nat)):List AC→List (Nat×bD)→Option (List AC)
 | cs,[]=>some cs
 | cs,(i,z)::rest=>match ps[i]? with
  | some (off,size)=>bif Nat.beq size z.cells.length then match qk cs off z.cells with
    | some r=>rQ ps r rest
    | none=>none
   else none
  | none=>none
def oD(look:Operand→Option ag):List (Nat×Operand)→Option (List (Nat×bD))
 | []=>some []
 | (i,x)::rest=>match look x,oD look rest with
  | some (.w z),some r=>some ((i,z)::r)
  | _,_=>none
theorem OQ(off:Nat):∀(zs:List Value) (k:Nat) (oq:Array Value),off+k+zs.length≤oq.size→((zs.zipIdx k).foldl (fun cs (c,j)=>cs.setIfInBounds (off+j) c) oq).toList=oq.toList.take (off+k)++zs++oq.toList.drop (off+k+zs.length)
 | [],k,oq,_=>by simp
 | z::zs,k,oq,h=>by
  simp only[List.zipIdx_cons,tR];rw[OQ off zs (k+1) _ (by simp at h ⊢;omega)];have e:=list_seg_step oq.toList (off+k) z zs (by simp at h ⊢;omega);simpa [Array.toList_setIfInBounds,oj] using e
theorem AK{U:Nat→Prop}{ad:Nat→Nat}{W:World}{ps:List (Nat×Nat)}{place:Nat→Option (Nat×Nat)}(hp:∀i q,ps[i]?=some q→place i=some q){look:Operand→Option ag}{env:Operand→Value}:∀(parts:List (Nat×Operand)) (cs:List AC) (vs:List Value) (zs:List (Nat×bD)) (r:List AC),bQ U ad W cs vs→oD look parts=some zs→(∀p∈parts,∀a,look p.2=some a→cR U ad W a (env p.2))→rQ ps cs zs=some r →
  ∃us:List Value,Instr.fill place vs.toArray (parts.map fun p=>(p.1,env p.2))=some us.toArray∧bQ U ad W r us
 | [],cs,vs,zs,r,al,aR,_,aa=>by cases aR;cases aa;exact⟨vs,rfl,al⟩
 | (i,x)::parts,cs,vs,zs,r,al,aR,he,aa=>by
  simp only[oD] at aR
  split at aR
  ·rename_i z CZ ab ao;cases aR;simp only[rQ] at aa
   split at aa
   ·rename_i off size u3;cases yg:Nat.beq size z.cells.length with
    | false=>rw[yg] at aa;cases aa
    | true =>
     rw[yg] at aa;simp only[cond_true] at aa
     split at aa
     ·rename_i aw wO;have aR:gM U ad W z (env x):=he (i,x) (by simp) _ ab;have p0:=aR.cells;obtain⟨q1,q2⟩:=Ck _ _ _ _ wO;have hs:=gd yg;have PW:(env x).cells.size=z.cells.length:=by have:=p0.1;simp at this;exact this.symm
      have E8:=al.1;have nt:=al.eM p0 off q1;rw[q2] at nt;obtain⟨us,g1,g2⟩:=AK hp parts aw _ CZ r nt ao (fun p mK=>he p (by simp[mK])) aa;refine⟨us,?_,g2⟩;simp only[hK,Instr.fill,hp i _ u3];rw[if_neg (by simp[PW,hs];omega)];rw[←g1];congr 1;apply Array.ext';have:=OQ off (env x).cells.toList 0 vs.toArray (by simp[PW];omega);rw[←Array.foldl_toList,Array.toList_zipIdx];simpa using this
     ·cases aa
   ·cases aa
  ·cases aR
theorem Kw{look:Operand→Option ag}:∀(parts:List (Nat×Operand)) (zs:List (Nat×bD)),oD look parts=some zs→∀p∈parts,∃z,look p.2=some (.w z)∧(p.1,z)∈zs
 | [],_,_,p,hp=>by cases hp
 | (i,x)::parts,zs,h,p,hp=>by
  simp only[oD] at h
  split at h
  ·rename_i z CZ ab ao;cases h;rcases fe.1 hp with rfl|hp
   ·exact⟨z,ab,by simp⟩
   ·obtain⟨alA,h1,h2⟩:=Kw parts CZ ao p hp;exact⟨alA,h1,by simp[h2]⟩
  ·cases h
theorem Rv{look:Operand→Option ag}:∀(parts:List (Nat×Operand)) (zs:List (Nat×bD)),oD look parts=some zs→∀q∈zs,∃p∈parts,look p.2=some (.w q.2)
 | [],_,h,q,aj=>by cases h;cases aj
 | (i,x)::parts,zs,h,q,aj=>by
  simp only[oD] at h
  split at h
  ·rename_i z CZ ab ao;cases h;rcases fe.1 aj with rfl|aj
   ·exact⟨(i,x),by simp,ab⟩
   ·obtain⟨p,h1,h2⟩:=Rv parts CZ ao q aj;exact⟨p,by simp[h1],h2⟩
  ·cases h
theorem aiK{cs ds r:List AC}{off:Nat}(h:qk cs off ds=some r):∀x∈r,x∈cs∨x∈ds:=by
 obtain⟨_,rfl⟩:=Ck _ _ _ _ h;intro x ab;unfold eM at ab;simp only[j7] at ab;rcases ab with (h1|h1)|h1
 ·exact .inl (oL h1)
 ·exact .inr h1
 ·exact .inl (oi h1)
theorem NK{ps:List (Nat×Nat)}:∀(zs:List (Nat×bD)) (cs r:List AC),rQ ps cs zs=some r→∀x∈r,x∈cs∨∃q∈zs,x∈q.2.cells
 | [],cs,r,h,x,ab=>by cases h;exact .inl ab
 | (i,z)::zs,cs,r,h,x,ab=>by
  simp only[rQ] at h
  split at h
  ·rename_i off size u3;cases yg:Nat.beq size z.cells.length with
   | false=>rw[yg] at h;cases h
   | true =>
    rw[yg] at h;simp only[cond_true] at h
    split at h
    ·rename_i aw wO;rcases NK zs aw r h x ab with h1|⟨q,h1,h2⟩
     ·rcases aiK wO x h1 with h2|h2
      ·exact .inl h2
      ·exact .inr ⟨(i,z),by simp,h2⟩
     ·exact .inr ⟨q,by simp[h1],h2⟩
    ·cases h
  ·cases h
theorem Uv{α β:Type}{f:α→Sem β}{W:World}:∀(l:List α) (vs:List β),l.length=vs.length→(∀(i:Nat) x v,l[i]?=some x→vs[i]?=some v→(f x).run P W = .ok v W)→(l.mapM f).run P W = .ok vs W
 | [],[],_,_=>rfl
 | [],_::_,h,_=>by cases h
 | _::_,[],h,_=>by cases h
 | x::l,v::vs,al,h=>by
  have aF:=h 0 x v rfl rfl;have ck:=Uv l vs (by simpa using al) (fun i x v ab hv=>h (i+1) x v (by simpa using ab) (by simpa using hv));rw[List.mapM_cons];simp only[Sem.run_bind,aF,Result.andThen_ok,ck];rfl
theorem RA{α β:Type}{f:α→Option β}:∀(l:List α) (vs:List β),l.mapM f=some vs→l.length=vs.length∧∀(i:Nat) x v,l[i]?=some x→vs[i]?=some v→f x=some v
 | [],vs,h=>by cases h;exact⟨rfl,fun i x v ab=>by simp at ab⟩
 | a::l,vs,h=>by
  rw[List.mapM_cons] at h;cases aX:f a with
  | none=>rw[aX] at h;cases h
  | some b =>
   rw[aX] at h;cases al:l.mapM f with
   | none=>rw[al] at h;cases h
   | some bs =>
    rw[al] at h;cases h;obtain⟨h1,h2⟩:=RA l bs al;refine⟨by simp[h1],fun i x v ab hv => ?_⟩;cases i with
    | zero=>simp at ab hv;subst ab;subst hv;exact aX
    | succ i=>exact h2 i x v (by simpa using ab) (by simpa using hv)
theorem XL{t:Nat}{parts:List (Nat×Operand)}{vs:List Value}{ps:List (Nat×Nat)}{zs:List (Nat×bD)}{r:List AC} [Z:Dv P t vs] [L:MN P t ps](hw:want ops ⟨some d,.build t parts.toArray,ty,pos,after,guard⟩ s=some true)(aR:oD s.look parts=some zs)(aa:rQ ps (vs.map .c) zs=some r)(h1:(vs.all fun v=>v.oneCell')=true)(hd:Nat.blt d s.n=true)(h:bk P ops K rest (s.put (some d) (.w (.agg r)))):bk P ops K (⟨some d,.build t parts.toArray,ty,pos,after,guard⟩::rest) s:=by
 refine fU (av := .w (.agg r)) hw ⟨fun _ _ h=>(by cases h),fun z BB => ?_,fun U ad W env he => ?_,fun j af => ?_⟩ hd h
 ·simp only[Op.operands,List.mem_toArray,fO] at BB;obtain⟨p,hp,rfl⟩:=BB;obtain⟨z,h1,_⟩:=Kw parts zs aR p hp;exact⟨_,h1⟩
 ·have dZ:=Z.h;have dj:=L.h;unfold zeroOf at dZ;unfold Gf at dj;cases hi:P.info? t with
  | none=>rw[hi] at dZ;cases dZ
  | some i =>
   rw[hi] at dZ;simp only[lN] at dZ;cases iv:i.zero with
   | none=>rw[iv] at dZ;cases dZ
   | some z =>
    rw[iv] at dZ;cases dZ
    split at dj
    ·rename_i bp hu;obtain⟨m1,m2⟩:=RA _ _ dj;have tB:(zeroValue t).run P W = .ok z W:=by simp[zeroValue,typeInfo,program,Sem.run_bind,Sem.run,hi,Result.andThen,iv]
     have nn:(bp.mapM fun f=>(do pure (f.offset,←sizeOf f.type):Sem (Nat×Nat))).run P W = .ok ps.toArray W:=by
      rw[Array.mapM_eq_mapM_toList]
      have:=Uv (P:=P) (W:=W) (f:=fun f:Field=>(do pure (f.offset,←sizeOf f.type):Sem (Nat×Nat))) bp.toList ps m1 (fun j x v ab hv=>by
       have:=m2 j x v ab hv;cases Jx:P.info? x.type with
       | none=>rw[Jx] at this;cases this
       | some eH =>
        rw[Jx] at this;cases this;simp only[Sem.run_bind,ia Jx,Result.andThen_ok,Sem.run_pure])
      simp only[map_eq_pure_bind,Sem.run_bind,this,Result.andThen_ok,Sem.run_pure]
     have hB:bQ U ad W (z.cells.toList.map .c) z.cells.toList:=⟨by simp,fun j x v ab hv=>by
      rw[dx,hv] at ab;cases ab;exact⟨rfl,b5.1 h1 v (cP hv)⟩⟩
     obtain⟨us,g1,g2⟩:=AK (U:=U) (ad:=ad) (W:=W) (ps:=ps) (place:=fun i=>ps.toArray[i]?) (fun i q h=>by simpa using h) (look:=s.look) (env:=env) parts _ _ zs r hB aR (fun p hp a aX=>he p.2 (by simp only[Op.operands,List.mem_toArray,fO];exact⟨p,hp,rfl⟩) a aX) aa;refine⟨.agg us.toArray,?_,us,rfl,g2⟩;have u1:(parts.toArray.map fun(i,x)=>(i,env x)).toList=parts.map fun p=>(p.1,env p.2):=by simp
     have BC:z.cells.toList.toArray=z.cells:=by simp
     rw[BC] at g1;simp only[execOp,Instr.build,Sem.run_bind,tB,Result.andThen_ok,run_underlying hu,nn,u1,g1,Sem.run_pure]
    ·rename_i n el hu;have tB:(zeroValue t).run P W = .ok z W:=by simp[zeroValue,typeInfo,program,Sem.run_bind,Sem.run,hi,Result.andThen,iv]
     have hB:bQ U ad W (z.cells.toList.map .c) z.cells.toList:=⟨by simp,fun j x v ab hv=>by
      rw[dx,hv] at ab;cases ab;exact⟨rfl,b5.1 h1 v (cP hv)⟩⟩
     cases aA:Nat.ble n 32 with
     | false=>rw[aA] at dj;cases dj
     | true =>
      rw[aA] at dj;simp only[cond_true] at dj;cases Jw:P.info? el with
      | none=>rw[Jw] at dj;cases dj
      | some eH =>
       rw[Jw] at dj;simp only[gU,iQ] at dj
       obtain⟨us,g1,g2⟩:=AK (U:=U) (ad:=ad) (W:=W) (ps:=ps) (place:=fun i=>some (i*eH.size,eH.size)) (fun i q h=>by
        rw[←dj,dx] at h;rcases h7 i n with bb|iK
        ·rw[bG (by simpa using bb)] at h;simpa using h
        ·rw[ql (by simpa using iK)] at h;cases h) (look:=s.look) (env:=env) parts _ _ zs r hB aR (fun p hp a aX=>he p.2 (by simp only[Op.operands,List.mem_toArray,fO];exact⟨p,hp,rfl⟩) a aX) aa
       refine⟨.agg us.toArray,?_,us,rfl,g2⟩;have u1:(parts.toArray.map fun(i,x)=>(i,env x)).toList=parts.map fun p=>(p.1,env p.2):=by simp
       have BC:z.cells.toList.toArray=z.cells:=by simp
       rw[BC] at g1;simp only[execOp,Instr.build,Sem.run_bind,tB,Result.andThen_ok,run_underlying hu,ia Jw,u1,g1,Sem.run_pure]
    ·cases dj
 ·obtain⟨y,ai,nv⟩:=af;rcases NK zs _ r aa y ai with h2|⟨q,h2,ar⟩
  ·obtain⟨v,_,rfl⟩:=fO.1 h2;cases nv
  ·obtain⟨p,hp,al⟩:=Rv parts zs aR q h2;exact⟨p.2,by simp only[Op.operands,List.mem_toArray,fO];exact⟨p,hp,rfl⟩,_,al,⟨y,ar,nv⟩⟩
theorem M8{HW:Builtin}{az:Array TypeId}{x y:Operand}{jH fG v:Value}(hw:want ops ⟨some d,.call ⟨.builtin HW,#[x,y],az⟩,ty,pos,after,guard⟩ s=some true)(ab:s.look x=some (aQ jH))(ai:s.look y=some (aQ fG))(ao:∀cs W,(builtin HW az ty cs #[jH,fG]).run P W = .ok (.value v) W)(h1:v.oneCell'=true)(hd:Nat.blt d s.n=true)(h:bk P ops K rest (s.put (some d) (aQ v))):bk P ops K (⟨some d,.call ⟨.builtin HW,#[x,y],az⟩,ty,pos,after,guard⟩::rest) s:=by
 refine fU (av:=aQ v) hw ⟨fun _ _ h=>(by cases h),fun z aR => ?_,fun U ad W env he=>⟨v,?_,⟨rfl,h1⟩⟩,fun j af=>absurd af (gG v j)⟩ hd h
 ·simp[Op.operands,Call.operands] at aR;rcases aR with rfl|rfl
  ·exact⟨_,ab⟩
  ·exact⟨_,ai⟩
 ·have aI:env x=jH:=(he x (by simp[Op.operands,Call.operands]) _ ab).1;have aN:env y=fG:=(he y (by simp[Op.operands,Call.operands]) _ ai).1;have em:(#[x,y]:Array Operand).map env = #[jH,fG]:=by simp[aI,aN]
  simp only[execOp,resolve,em,Sem.run_bind,Sem.run_pure,Result.andThen_ok,invoke,ao]
theorem X6{az:Array TypeId}{x y:Operand}{k:IntKind}{a b:Int}(hw:want ops ⟨some d,.call ⟨.builtin .min,#[x,y],az⟩,ty,pos,after,guard⟩ s=some true)(ab:s.look x=some (aQ (.int k a)))(ai:s.look y=some (aQ (.int k b)))(hd:Nat.blt d s.n=true)(h:bk P ops K rest (s.put (some d) (aQ (.int k (if b<a then b else a))))):bk P ops K (⟨some d,.call ⟨.builtin .min,#[x,y],az⟩,ty,pos,after,guard⟩::rest) s :=
 M8 hw ab ai (fun cs W=>by go_simp;all_goals (first|rfl|(split <;> omega))) rfl hd h
theorem X5{az:Array TypeId}{x y:Operand}{k:IntKind}{a b:Int}(hw:want ops ⟨some d,.call ⟨.builtin .max,#[x,y],az⟩,ty,pos,after,guard⟩ s=some true)(ab:s.look x=some (aQ (.int k a)))(ai:s.look y=some (aQ (.int k b)))(hd:Nat.blt d s.n=true)(h:bk P ops K rest (s.put (some d) (aQ (.int k (if b>a then b else a))))):bk P ops K (⟨some d,.call ⟨.builtin .max,#[x,y],az⟩,ty,pos,after,guard⟩::rest) s :=
 M8 hw ab ai (fun cs W=>by go_simp;all_goals (first|rfl|(split <;> omega))) rfl hd h
theorem XM{t:Nat}{b:Bool}{l:List Oper}(hs:s.tmps t=some (bl b))(h1:b=true→bk P ops K l (s.put (some t) (bl true)))(aF:b=false→bk P ops K l (s.put (some t) (bl false))):bk P ops K l s:=by
 have same:∀c,b=c→s.put (some t) (bl c)=s:=fun c e=>by
  subst e;simp only[aB.put];congr 1;funext j
  by_cases af:j=t
  ·subst af;rw[bW,hs]
  ·rw[bM _ _ af]
 cases b with
 | true=>rw[←same true rfl];exact h1 rfl
 | false=>rw[←same false rfl];exact aF rfl
end
theorem aM:([]:List ResultVar).map (gJ P s)=([]:List bD).map some:=rfl
theorem aZ{t:Nat}{x:bD}{l:List ResultVar}{xs:List bD}(h:s.tmps t=some (.w x))(al:l.map (gJ P s)=xs.map some):(ResultVar.tmp t::l).map (gJ P s)=(x::xs).map some:=by
 simp only[hK,al];rw[show gJ P s (.tmp t)=some x by simp only[gJ,h]]
theorem Gq{a ty k off n:Nat} [T:e8 P ty false n]{cs:List AC}{y:AC}{l:List ResultVar}{xs:List bD}(h:s.tmps a=some (nK k off))(hm:s.mem k=some cs)(ak:cs[off]?=some y)(al:l.map (gJ P s)=xs.map some):(ResultVar.cell a ty::l).map (gJ P s)=(.one y::xs).map some:=by
 simp only[hK,al];rw[show gJ P s (.cell a ty)=some (.one y) by simp only[gJ,h,hm,lN,Vl T.h ak]]
theorem c8{a ty k off n:Nat} [T:e8 P ty true n]{cs ys:List AC}{l:List ResultVar}{xs:List bD}(h:s.tmps a=some (nK k off))(hm:s.mem k=some cs)(ak:takeN cs off n=some ys)(al:l.map (gJ P s)=xs.map some):(ResultVar.cell a ty::l).map (gJ P s)=(.agg ys::xs).map some:=by
 simp only[hK,al];rw[show gJ P s (.cell a ty)=some (.agg ys) by simp only[gJ,h,hm,lN,Vk T.h ak]]
theorem bm{fn:Func}{l:List ResultVar}{xs:List bD}{r:ag}(ao:fn.results=l.toArray)(h:l.map (gJ P s)=xs.map some)(hle:(packed xs).aV r):vW P fn r .ret s:=⟨xs,by rw[ao];exact h,hle⟩
theorem aip{f:FuncId}{args:List ag}{r:ag}{ke:List Value}(he:args.map (fun x=>match x with | .w y=>ng y|_=>none)=ke.map some)(ha:∀x∈args,x.closed)(cn:r.closed)
  (h:∀W,Calls P f ke.toArray W fun e W'=>∃v,e = .returned v∧(∀U,(∀b,W.heap.size≤b→U b)→cR U id W' r v)∧Below W.heap.size W W'):aO P f args r:=by
 refine⟨ha,cn,fun U W vs cL => ?_⟩
 have e:vs=ke:=by
  apply List.ext_getElem?;intro i;have al:=cL.1;have ir:args.length=ke.length:=by have:=congrArg List.length he;simpa using this
  rcases h7 i args.length with hi|hi
  ·have h1:(args.map (fun x=>match x with | .w y=>ng y|_=>none))[i]?=(ke.map some)[i]?:=by rw[he]
   rw[dx,dx,bG hi,bG (by omega:i<ke.length)] at h1;simp only[gU,iQ] at h1;rw[bG (by omega:i<vs.length),bG (by omega:i<ke.length)];have h2:=cL.2 i args[i] vs[i] (bG hi) (bG (by omega));cases ab:args[i] with
   | w y =>
    rw[ab] at h1 h2;rw[AE h2 h1]
   | cd xs=>rw[ab] at h1;cases h1
  ·rw[ql (by omega),ql (by omega)]
 subst e;refine(h W).mono ?_;rintro e W' ⟨v,h1,h2,ar⟩;exact⟨v,h1,h2 _ fun b aa => .inr aa,ar⟩
def AC.aW:AC→Bool
 | .own _ _=>false
 | _=>true
def bD.aW:bD→Bool
 | .one x=>x.aW
 | .agg xs=>xs.all AC.aW
def ag.aW:ag→Bool
 | .w x=>x.aW
 | .cd xs=>xs.all bD.aW
theorem AC.c6{x:AC}(h:x.aW=true)(j:Nat):¬x.owns j:=by cases x <;> simp_all [AC.aW,AC.owns]
theorem bD.c6{x:bD}(h:x.aW=true)(j:Nat):¬x.owns j:=by
 rintro⟨y,ai,af⟩;cases x with
 | one z=>simp[bD.cells] at ai;subst ai;exact AC.c6 h j af
 | agg xs=>exact AC.c6 (b5.1 h y ai) j af
theorem ag.c6{x:ag}(h:x.aW=true):x.closed:=fun j=>by
 cases x with
 | w y=>exact bD.c6 h j
 | cd xs=>rintro⟨y,ai,af⟩;exact bD.c6 (b5.1 h y ai) j af
theorem bq{f:FuncId}{fn:Func}{c:Code}{args:List ag}{r:ag}(ay:P.funcs[f]?=some fn)(aa:fn.body=some c)(aA:Nat.ble args.length fn.ntmps=true)(ha:args.all ag.aW=true)(cn:r.aW=true)
  (h:ft P c (vW P fn r) (start fn.ntmps args)):aO P f args r :=
 air ay aa (by simpa [Nat.ble_eq] using aA) (fun x ab=>ag.c6 (b5.1 ha x ab)) (ag.c6 cn) h
theorem Lb{f:FuncId}{fn:Func}{c:Code}{args:List ag}{r:ag}(ay:P.funcs[f]?=some fn)(aa:fn.body=some c)(aA:Nat.ble args.length fn.ntmps=true)(ha:args.all ag.aW=true)(cn:r.aW=true)
  (h:uj P c (vW P fn r) (start fn.ntmps args)):aO P f args r :=
 Te ay aa (by simpa [Nat.ble_eq] using aA) (fun x ab=>ag.c6 (b5.1 ha x ab)) (ag.c6 cn) h
theorem aiu{f:FuncId}{args:List ag}{r:ag}(ke:List Value)(he:args.map (fun x=>match x with | .w y=>ng y|_=>none)=ke.map some)(ha:args.all ag.aW=true)(cn:r.aW=true)
  (h:∀W,Calls P f ke.toArray W fun e W'=>∃v,e = .returned v∧(∀U,(∀b,W.heap.size≤b→U b)→cR U id W' r v)∧Below W.heap.size W W'):aO P f args r :=
 aip he (fun x ab=>ag.c6 (b5.1 ha x ab)) (ag.c6 cn) h
theorem Nt{next:aB→Prop}{Q:Exit→aB→Prop}(h:next s):s0 next Q .normal s:=h
theorem YE{next:aB→Prop}{Q:Exit→aB→Prop}{id:Nat}(h:Q (.exit id) s):s0 next Q (.exit id) s:=h
theorem YF{next:aB→Prop}{Q:Exit→aB→Prop}(h:Q .ret s):s0 next Q .ret s:=h
theorem Xx{Q:Exit→aB→Prop}{id:Nat}(h:Q .normal s):xU id Q .normal s:=h
theorem Xy{Q:Exit→aB→Prop}{id:Nat}(h:Q .ret s):xU id Q .ret s:=h
theorem Xz{Q:Exit→aB→Prop}{id:Nat}(h:Q .normal s):xU id Q (.exit id) s:=by simp only[xU,qm,cond_true];exact h
theorem bT{dst:Option Nat}{op:Op}{ty:Nat}{pos:String}{after:Array Edge}{g t:Nat}{b NE c:Bool}(hd:(ops[g]?).bind (·.dst)=some t)(hs:s.tmps t=some (bl NE))(aa:NE=c)
  (h1:bk P ops K (⟨dst,op,ty,pos,after,some (g,b)⟩::rest) (s.put (some t) (bl c))):bk P ops K (⟨dst,op,ty,pos,after,some (g,b)⟩::rest) s:=by
 subst aa;exact XM hs (fun e=>by subst e;exact h1) (fun e=>by subst e;exact h1)
theorem Nw{c:Operand}{t u:Bool}{x y:Code}{Q:Exit→aB→Prop}(ak:s.look c=some (bl t))(aD:t=u)(h:ft P (bif u then x else y) Q s):ft P (.cond c x y) Q s:=by
 subst aD;cases t with
 | true=>exact Ny ak h
 | false=>exact Nx ak h
theorem YI{c:Operand}{t:Bool}{x y:Code}{Q:Exit→aB→Prop}(ak:s.look c=some (bl t))(aD:t=true)(h:ft P x Q s):ft P (.cond c x y) Q s:=Nw ak aD h
theorem Nv{c:Operand}{t:Bool}{x y:Code}{Q:Exit→aB→Prop}(ak:s.look c=some (bl t))(aD:t=false)(h:ft P y Q s):ft P (.cond c x y) Q s:=Nw ak aD h
end
abbrev bn(x y:Int):ag := .w (.agg [.c (.int .i64 x),.c (.int .i64 y)])
def IC(w:World):AC→Value→Nat→Prop
 | .p R,x,b=>R.lf w x b
 | _,_,_=>False
theorem z8(a:Addr)(m j:Nat):(a.add m).add j=a.add (m+j):=by
 unfold Addr.add
 by_cases h1:m=0 <;> by_cases h2:j=0 <;> simp[h1,h2,oj]
theorem block_add(a:Addr)(m:Nat):(a.add m).block=a.block:=by unfold Addr.add;split <;> rfl
structure k6 (w:World) (a:Addr) (xs:List AC) (vs:List Value):Prop where
 lt:a.block<w.heap.size
 qq:bQ (fun _=>True) id w xs vs
 at_:∀(j:Nat) v,vs[j]?=some v→w.cell? (a.add j)=some v
 gO:∀y∈xs,y.aW=true
def nW(w:World)(a:Addr)(xs:List AC)(b:Nat):Prop:=a.block=b∨∃(j:Nat) (y:AC) (v:Value),xs[j]?=some y∧w.cell? (a.add j)=some v∧IC w y v b
theorem k6.frame{w w':World}{a:Addr}{xs:List AC}{vs:List Value}(h:k6 w a xs vs)(ay:∀b,nW w a xs b→w'.heap[b]?=w.heap[b]?):k6 w' a xs vs∧∀b,nW w' a xs b→nW w a xs b:=by
 have aa:w'.heap[a.block]?=w.heap[a.block]?:=ay _ (.inl rfl);have ak:∀j,w'.cell? (a.add j)=w.cell? (a.add j):=fun j=>World.cell?_of_block (w:=w) (by rw[block_add];exact aa)
 have key:∀(j:Nat) (y:AC) (v:Value),xs[j]?=some y→w.cell? (a.add j)=some v→fS (fun _=>True) id w y v→fS (fun _=>True) id w' y v∧∀b,IC w' y v b→IC w y v b:=by
  intro j y v ai hv ao;cases y with
  | c u=>exact⟨ao,fun b h=>h⟩
  | own k o=>exact⟨ao,fun b h=>h⟩
  | p R =>
   have:=R.frame w w' v ao.1 fun b aa=>ay b (.inr ⟨j,_,v,ai,hv,aa⟩);exact⟨⟨this.1,fun _ _=>trivial⟩,this.2⟩
 refine⟨⟨?_,⟨h.qq.1,fun i y v ai hv=>(key i y v ai (h.at_ i v hv) (h.qq.2 i y v ai hv)).1⟩,fun j v hv=>by rw[ak];exact h.at_ j v hv,h.gO⟩,?_⟩
 ·have bX:=Array.getElem?_eq_getElem h.lt;exact(iA.1 (aa.trans bX)).1
 ·rintro b (h1|⟨j,y,v,ai,hv,fB⟩)
  ·exact .inl h1
  ·rw[ak] at hv;have bb:j<vs.length:=by rw[←h.qq.1];exact(br.1 ai).1
   have h2:=h.at_ j _ (bG bb);rw[hv] at h2;cases h2;exact .inr ⟨j,y,_,ai,hv,(key j y _ ai hv (h.qq.2 j y _ ai (bG bb))).2 b fB⟩
theorem k6.iM{w:World}{a:Addr}{xs:List AC}{vs:List Value}{b:Nat}(h:k6 w a xs vs)(ay:nW w a xs b):b<w.heap.size:=by
 rcases ay with rfl|⟨j,y,v,ai,hv,fB⟩
 ·exact h.lt
 ·have bb:j<vs.length:=by rw[←h.qq.1];exact(br.1 ai).1
  have h2:=h.at_ j _ (bG bb);rw[hv] at h2;cases h2;have:=h.qq.2 j y _ ai (bG bb);cases y with
  | c u=>cases fB
  | own k o=>cases fB
  | p R=>exact R.iM _ _ _ this.1 fB
theorem k6.sub{w:World}{a:Addr}{xs:List AC}{vs:List Value}(h:k6 w a xs vs)(off n:Nat):k6 w (a.add off) ((xs.drop off).take n) ((vs.drop off).take n):=by
 refine⟨by rw[block_add];exact h.lt,h.qq.sub off n,fun j v hv => ?_,fun y ai=>h.gO y (oi (oL ai))⟩;rw[z8]
 have af:j<n:=by
  have:=(br.1 hv).1;simp at this;omega
 rw[gg af,gI] at hv;exact h.at_ _ v hv
theorem nW.sub{w:World}{a:Addr}{xs:List AC}{off n b:Nat}(h:nW w (a.add off) ((xs.drop off).take n) b):nW w a xs b:=by
 rcases h with h|⟨j,y,v,ai,hv,fB⟩
 ·rw[block_add] at h;exact .inl h
 ·rw[z8] at hv
  have af:j<n:=by
   have:=(br.1 ai).1;simp at this;omega
  rw[gg af,gI] at ai;exact .inr ⟨_,y,v,ai,hv,fB⟩
theorem k6.xk{w:World}{a:Addr}{xs:List AC}{vs:List Value}{U:Nat→Prop}{ad:Nat→Nat}(h:k6 w a xs vs)(cV:∀b,nW w a xs b→U b):bQ U ad w xs vs:=by
 refine⟨h.qq.1,fun i y v ai hv => ?_⟩;have h1:=h.qq.2 i y v ai hv;have h2:=h.gO y (cP ai);cases y with
 | c u=>exact h1
 | own k o=>cases h2
 | p R=>exact⟨h1.1,fun b aa=>cV b (.inr ⟨i,_,v,ai,h.at_ i v hv,aa⟩)⟩
def oX(xs:List AC):dS where
 holds w v:=∃a vs,v = .pointer (some a)∧k6 w a xs vs
 lf w v b:=∃a,v = .pointer (some a)∧nW w a xs b
 frame w w' v:=by
  rintro⟨a,vs,rfl,h⟩ ay;obtain⟨h1,h2⟩:=h.frame fun b aa=>ay b ⟨a,rfl,aa⟩;exact⟨⟨a,vs,rfl,h1⟩,fun b ⟨a',e,aa⟩=>by cases e;exact⟨a,rfl,h2 b aa⟩⟩
 iM w v b:=by
  rintro⟨a,vs,rfl,h⟩ ⟨a',e,aa⟩;cases e;exact h.iM aa
 cell w v:=by rintro⟨a,vs,rfl,h⟩;rfl
def b0(sz n:Nat)(xs:List AC):dS where
 holds w v:=∃A c,v = .slice A n c∧n≤c∧xs.length=n*sz∧(0<n→∃a vs,A=some a∧k6 w a xs vs)
 lf w v b:=∃c a,v = .slice (some a) n c∧0<n∧nW w a xs b
 frame w w' v:=by
  rintro⟨A,c,rfl,ak,al,h⟩ ay;refine⟨⟨A,c,rfl,ak,al,fun aA => ?_⟩,?_⟩
  ·obtain⟨a,vs,rfl,aJ⟩:=h aA;exact⟨a,vs,rfl,(aJ.frame fun b aa=>ay b ⟨c,a,rfl,aA,aa⟩).1⟩
  ·rintro b ⟨c',a',e,aA,aa⟩;cases e;obtain⟨a,vs,e,aJ⟩:=h aA;cases e;exact⟨c,a',rfl,aA,(aJ.frame fun b aa=>ay b ⟨c,a',rfl,aA,aa⟩).2 b aa⟩
 iM w v b:=by
  rintro⟨A,c,rfl,ak,al,h⟩ ⟨c',a',e,aA,aa⟩;cases e;obtain⟨a,vs,e,aJ⟩:=h aA;cases e;exact aJ.iM aa
 cell w v:=by rintro⟨A,c,rfl,_⟩;rfl
abbrev cD(sz n:Nat)(xs:List AC):ag := .w (.one (.p (b0 sz n xs)))
abbrev Me(xs:List AC):ag := .w (.one (.p (oX xs)))
theorem lq(R:dS)(j:Nat):¬(ag.w (.one (.p R))).owns j:=fun⟨y,ai,h⟩=>by simp[bD.cells] at ai;subst ai;cases h
section
variable{P:Program}{s:aB}{o:Oper}{ops:Array Oper}{K:aB→Prop}{rest:List Oper}{op:Op}{ty:Nat}{pos:String}{after:Array Edge}{guard:Option (Nat×Bool)}{d:Nat}
theorem HI{av:ag}(hw:want ops ⟨some d,op,ty,pos,after,guard⟩ s=some true)(aj:xG P s.look ⟨some d,op,ty,pos,after,guard⟩ av)(hd:Nat.blt d s.n=true)(h:bk P ops K rest (s.put (some d) av)):bk P ops K (⟨some d,op,ty,pos,after,guard⟩::rest) s :=
 rN (e:=⟨av,none⟩) hw (.fresh av aj) (l3 hd) h
theorem mU{t sz:Nat}(h:uc P t=some sz):∃e i,P.underlying t=some (.slice e)∧P.info? e=some i∧i.size=sz:=by
 unfold uc at h
 split at h
 ·rename_i e hu;cases hi:P.info? e with
  | none=>rw[hi] at h;cases h
  | some i=>rw[hi] at h;cases h;exact⟨e,i,hu,hi,rfl⟩
 ·cases h
theorem jQ{t e:Nat}(h:P.underlying t=some (.slice e)):P.elem t=e:=by simp[Program.elem,h]
theorem rM{t sz akS n:Nat}{xs:List AC}{x:Operand} [S:hy P t akS](hw:want ops ⟨some d,.call ⟨.builtin .len,#[x],#[t]⟩,ty,pos,after,guard⟩ s=some true)(ab:s.look x=some (cD sz n xs))(hd:Nat.blt d s.n=true)
  (h:bk P ops K rest (s.put (some d) (aL n))):bk P ops K (⟨some d,.call ⟨.builtin .len,#[x],#[t]⟩,ty,pos,after,guard⟩::rest) s:=by
 refine fU (av:=aL n) hw ⟨fun _ _ h=>(by cases h),fun y ai => ?_,fun U ad W env he=>⟨.int .i64 n,?_,rfl,rfl⟩,fun j af=>absurd af (gG _ j)⟩ hd h
 ·simp[Op.operands,Call.operands] at ai;subst ai;exact⟨_,ab⟩
 ·obtain⟨⟨A,c,aI,_⟩,_⟩:=he x (by simp[Op.operands,Call.operands]) _ ab;obtain⟨e,i,hu,hi,_⟩:=mU S.h;have eW:P.underlying t=some (.slice (P.elem t)):=by rw[jQ hu];exact hu
  have em:(#[x]:Array Operand).map env = #[.slice A n c]:=by simp[aI]
  simp only[execOp,resolve,em,Sem.run_bind,Sem.run_pure,Result.andThen_ok,invoke,builtin];rw[run_len_slice W t ty A n c eW];rfl
theorem Ad{x y:Operand}{t sz n:Nat}{gD:IntKind}{i:Int}{xs ys:List AC} [S:hy P t sz](hw:want ops ⟨some d,.indexAddr t x y,ty,pos,after,guard⟩ s=some true)(ab:s.look x=some (cD sz n xs))(ai:s.look y=some (aQ (.int gD i)))(aF:0≤i)(h1:i<n)
  (he:(xs.drop (i.toNat*sz)).take sz=ys) (hd:Nat.blt d s.n=true) (h:bk P ops K rest (s.put (some d) (Me ys))):bk P ops K (⟨some d,.indexAddr t x y,ty,pos,after,guard⟩::rest) s:=by
 subst he;refine fU hw ⟨fun _ _ h=>(by cases h),fun z aR => ?_,fun U ad W env he => ?_,fun j af=>absurd af (lq _ j)⟩ hd h
 ·simp[Op.operands] at aR;rcases aR with rfl|rfl
  ·exact⟨_,ab⟩
  ·exact⟨_,ai⟩
 ·obtain⟨⟨A,c,aI,ak,al,cp⟩,cV⟩:=he x (by simp[Op.operands]) _ ab;have hi:env y = .int gD i:=(he y (by simp[Op.operands]) _ ai).1;obtain⟨e,eH,hu,b4,hs⟩:=mU S.h;obtain⟨a,vs,rfl,dv⟩:=cp (by omega);refine⟨.pointer (some (a.add (i.toNat*sz))),?_,⟨_,_,rfl,dv.sub _ _⟩,?_⟩
  ·simp only[execOp,Instr.indexAt,aI,hi,asIntOf,Sem.run_bind,Sem.run_pure,Result.andThen_ok,run_underlying hu,ia b4,if_pos (And.intro aF h1),hs]
  ·rintro b ⟨a',e,aa⟩;cases e;exact cV b ⟨c,a,aI,by omega,aa.sub⟩
theorem Ae{x:Operand}{lt n:Nat}{xs:List AC}{y:AC} [T:e8 P lt false n](hw:want ops ⟨some d,.load lt x,ty,pos,after,guard⟩ s=some true)(ab:s.look x=some (Me xs))(ak:xs[0]?=some y)(cq:y.aW=true)(hd:Nat.blt d s.n=true)(h:bk P ops K rest (s.put (some d) (.w (.one y)))):bk P ops K (⟨some d,.load lt x,ty,pos,after,guard⟩::rest) s:=by
 refine fU hw ⟨fun _ _ h=>(by cases h),fun y ai => ?_,fun U ad W env he => ?_,fun j af => ?_⟩ hd h
 ·simp[Op.operands] at ai;subst ai;exact⟨_,ab⟩
 ·obtain⟨⟨a,vs,aI,dv⟩,cV⟩:=he x (by simp[Op.operands]) _ ab;have ao:=dv.xk (U:=U) (ad:=ad) fun b aa=>cV b ⟨a,aI,aa⟩;have bb:0<vs.length:=by rw[←ao.1];exact(br.1 ak).1
  have hv:=bG bb;refine⟨_,?_,ao.2 0 y _ ak hv⟩;have eP:=T.h;have o8:W.cell? a=some vs[0]:=dv.at_ 0 _ hv;unfold lx at eP;cases hu:P.underlying lt with
  | none=>rw[hu] at eP;cases eP
  | some D =>
   have key:(loadVar lt a).run P W = .ok vs[0] W:=by
    refine Lx hu (fun bp e => ?_) (fun m e' e => ?_) o8
    ·subst e;cases hi:P.info? lt with
     | none=>simp[hu,hi] at eP
     | some eH=>simp[hu,hi] at eP
    ·subst e;cases hi:P.info? lt with
     | none=>simp[hu,hi] at eP
     | some eH=>simp[hu,hi] at eP
   simp only[execOp,Instr.loadAt,aI,Instr.sureAddr,Sem.run_bind,Sem.run_pure,Result.andThen_ok,key]
 ·exact absurd af (ag.c6 (x := .w (.one y)) cq j)
theorem HJ{x:Operand}{lt n:Nat}{xs ys:List AC} [T:e8 P lt true n](hw:want ops ⟨some d,.load lt x,ty,pos,after,guard⟩ s=some true)(ab:s.look x=some (Me xs))(ak:takeN xs 0 n=some ys)(cq:(bD.agg ys).aW=true)(hd:Nat.blt d s.n=true)(h:bk P ops K rest (s.put (some d) (.w (.agg ys)))):bk P ops K (⟨some d,.load lt x,ty,pos,after,guard⟩::rest) s:=by
 refine fU hw ⟨fun _ _ h=>(by cases h),fun y ai => ?_,fun U ad W env he => ?_,fun j af => ?_⟩ hd h
 ·simp[Op.operands] at ai;subst ai;exact⟨_,ab⟩
 ·obtain⟨⟨a,vs,aI,dv⟩,cV⟩:=he x (by simp[Op.operands]) _ ab;obtain⟨q1,q2⟩:=GQ _ _ _ _ ak;have J6:=dv.sub 0 n;have ao:=J6.xk (U:=U) (ad:=ad) fun b aa=>cV b ⟨a,aI,nW.sub aa⟩;rw[q2] at ao;have aX:a.add 0=a:=rfl;refine⟨.agg ((vs.drop 0).take n).toArray,?_,_,rfl,ao⟩;have eP:=T.h;unfold lx at eP;have hlen:((vs.drop 0).take n).length=n:=by have:=dv.qq.1;simp;omega
  have o8:=J6.at_;rw[aX] at o8;cases hu:P.underlying lt with
  | none=>rw[hu] at eP;cases eP
  | some D =>
   cases hi:P.info? lt with
   | none=>rw[hu,hi] at eP;cases D <;> cases eP
   | some eH =>
    rw[hu,hi] at eP;have key:((∃bp,D = .struct bp)∨∃n e,D = .array n e)∧eH.size=n:=by cases D <;> simp at eP <;> simp[eP]
    have:=Lw (P:=P) (w:=W) (A:=a) hu key.1 hi (by rw[hlen,key.2]) o8;simp only[execOp,Instr.loadAt,aI,Instr.sureAddr,Sem.run_bind,Sem.run_pure,Result.andThen_ok,this]
 ·exact absurd af (ag.c6 (x := .w (.agg ys)) cq j)
def zi(P:Program)(t:TypeId):Option (List Value) :=
 match P.underlying t with
 | some (.slice e)=>zeroOf P e
 | _=>none
class nP (P:Program) (t:TypeId) (vs:outParam (List Value)):Prop where
 h:zi P t=some vs
def iS(n sz:Nat)(vs:List Value):List AC:=(List.range (n*sz)).map fun j => .c (vs.toArray[j % vs.length]!)
def yZ(n sz:Nat):List (Nat×Nat):=(List.range n).map fun i=>(i*sz,sz)
theorem Yx{w:World}{rq:List AC}{us:List Value}{ty:TypeId}{U:Nat→Prop}{ad:Nat→Nat}(h:bQ U ad w rq us)(cq:∀y∈rq,y.aW=true):k6 (w.alloc (.cells us.toArray ty)) ⟨w.heap.size,0,none⟩ rq us:=by
 refine⟨by show w.heap.size<(w.heap.push _).size;simp,⟨h.1,fun i y v ai hv => ?_⟩,fun j v hv => ?_,cq⟩
 ·refine(h.2 i y v ai hv).map (fun b aa al=>⟨trivial,Below.heap_alloc _ _ _ al⟩) fun j af => ?_;exact absurd af (AC.c6 (cq y (cP ai)) j)
 ·have lH:(⟨w.heap.size,0,none⟩:Addr).add j=⟨w.heap.size,j,none⟩:=by unfold Addr.add;split <;> simp_all
  rw[lH];have:(w.alloc (.cells us.toArray ty)).heap[w.heap.size]?=some (.cells us.toArray ty (0,0)):=by show (w.heap.push _)[w.heap.size]?=_;simp
  simp only[World.cell?,this];simpa using hv
theorem Yy{w:World}{rq:List AC}{us:List Value}{ty:TypeId}{U:Nat→Prop}{ad:Nat→Nat}{b:Nat}(h:bQ U ad w rq us)(ay:nW (w.alloc (.cells us.toArray ty)) ⟨w.heap.size,0,none⟩ rq b):U b∨w.heap.size≤b:=by
 rcases ay with rfl|⟨j,y,v,ai,hv,fB⟩
 ·exact .inr (cH _)
 ·have lH:(⟨w.heap.size,0,none⟩:Addr).add j=⟨w.heap.size,j,none⟩:=by unfold Addr.add;split <;> simp_all
  rw[lH] at hv;have:(w.alloc (.cells us.toArray ty)).heap[w.heap.size]?=some (.cells us.toArray ty (0,0)):=by show (w.heap.push _)[w.heap.size]?=_;simp
  simp only[World.cell?,this] at hv;have bS:us[j]?=some v:=by simpa using hv
  have ao:=h.2 j y v ai bS;cases y with
  | c u=>cases fB
  | own k o=>cases fB
  | p R =>
   refine .inl (ao.2 b ?_);exact(R.frame w _ v ao.1 fun cE cO=>Below.heap_alloc _ _ _ (R.iM _ _ _ ao.1 cO)).2 b fB
theorem M9{t n sz:Nat}{parts:List (Nat×Operand)}{vs:List Value}{zs:List (Nat×bD)}{r:List AC} [S:hy P t sz] [Z:nP P t vs](hw:want ops ⟨some d,.buildSlice t n parts.toArray,ty,pos,after,guard⟩ s=some true)(aR:oD s.look parts=some zs)(aa:rQ (yZ n sz) (iS n sz vs) zs=some r)
  (h1:(vs.all fun v=>v.oneCell')=true) (hs:Nat.beq vs.length sz=true) (aF:Nat.blt 0 (n*sz)=true) (h2:Nat.ble (n*sz) 16777216=true) (ao:Nat.beq r.length (n*sz)=true) (cq:r.all AC.aW=true) (hd:Nat.blt d s.n=true) (h:bk P ops K rest (s.put (some d) (cD sz n r))):bk P ops K (⟨some d,.buildSlice t n parts.toArray,ty,pos,after,guard⟩::rest) s:=by
 refine HI (av:=cD sz n r) hw ⟨fun z BB => ?_,fun j af=>lq _ j af,fun U ad W env he => ?_⟩ hd h
 ·simp only[Op.operands,List.mem_toArray,fO] at BB;obtain⟨p,hp,rfl⟩:=BB;obtain⟨z,h1,_⟩:=Kw parts zs aR p hp;exact⟨_,h1⟩
 ·obtain⟨e,i,hu,hi,bI⟩:=mU S.h;have dZ:=Z.h;unfold zi at dZ;rw[hu] at dZ;simp only at dZ;unfold zeroOf at dZ;rw[hi] at dZ;simp only[lN] at dZ;cases iv:i.zero with
  | none=>rw[iv] at dZ;cases dZ
  | some z =>
   rw[iv] at dZ;cases dZ;have hlen:z.cells.toList.length=sz:=gd hs;have AO:0<n*sz:=by simpa [lr] using aF
   have yb:n*sz≤16777216:=by simpa [Nat.ble_eq] using h2
   have Ff:r.length=n*sz:=gd ao;have qR:∀y∈r,y.aW=true:=b5.1 cq;have tB:(zeroValue e).run P W = .ok z W:=by simp[zeroValue,typeInfo,program,Sem.run_bind,Sem.run,hi,Result.andThen,iv]
   have hB:bQ U ad W (iS n sz z.cells.toList) ((List.range (n*sz)).map fun j=>z.cells[j % z.cells.size]!):=by
    refine⟨by simp[iS],fun j x v ab hv => ?_⟩;have af:j<n*sz:=by have:=(br.1 hv).1;simpa using this
    simp only[iS,dx,xe af,gU,iQ] at ab hv;subst ab;subst hv;have wP:z.cells.size=sz:=by simpa using hlen
    have JR:0<sz:=Nat.pos_of_mul_pos_left AO |> fun h=>by
     rcases xf sz with q|q
     ·rw[q] at AO;simp at AO
     ·exact q
    have bb:j % z.cells.size<z.cells.size:=Nat.mod_lt _ (by omega);have aN:z.cells.toList.toArray[j % z.cells.toList.length]! = z.cells[j % z.cells.size]! := by simp
    refine⟨aN.symm,?_⟩;rw[aN,getElem!_pos z.cells _ bb];exact b5.1 h1 _ (by simp)
   obtain⟨us,g1,g2⟩:=AK (U:=U) (ad:=ad) (W:=W) (ps:=yZ n sz) (place:=fun i=>some (i*sz,sz)) (fun i q aj=>by
     simp only[yZ,dx] at aj;cases ao:(List.range n)[i]? with
     | none=>rw[ao] at aj;cases aj
     | some m =>
      rw[ao] at aj;cases aj;have:=br.1 ao;obtain⟨ar,aK⟩:=this;simp at aK;rw[aK]) (look:=s.look) (env:=env) parts _ _ zs r hB aR (fun p hp a aX=>he p.2 (by simp only[Op.operands,List.mem_toArray,fO];exact⟨p,hp,rfl⟩) a aX) aa
   refine⟨.slice (some ⟨W.heap.size,0,none⟩) n n,W.alloc (.cells us.toArray e),?_,⟨⟨some ⟨W.heap.size,0,none⟩,n,rfl,cH _,Ff,fun aA=>⟨_,us,rfl,Yx g2 qR⟩⟩,?_⟩,(Below.refl _ _).alloc (cH _) _⟩
   ·have u1:(parts.toArray.map fun(i,x)=>(i,env x)).toList=parts.map fun p=>(p.1,env p.2):=by simp
    have cc:(Array.range (n*sz)).map (fun j=>z.cells[j % z.cells.size]!)=((List.range (n*sz)).map fun j=>z.cells[j % z.cells.size]!).toArray:=by simp[←List.toArray_range]
    simp only[execOp,Instr.buildSlice,Sem.run_bind,run_underlying hu,Result.andThen_ok,ia hi,bI];rw[if_neg (by omega),if_neg (by omega)];simp only[Sem.run_bind,Sem.run_pure,tB,Result.andThen_ok,cc,u1,g1,newRow,newObj,Sem.run];rfl
   ·rintro b ⟨c,a,e,aA,aa⟩;cases e;exact Yy g2 aa
end
def gx{α:Type}:List (Nat×α)→Nat→Option α
 | [],_=>none
 | (k,v)::r,t=>bif Nat.beq t k then some v else gx r t
def eg(n:Nat)(az:List (Nat×ag))(aU:List (Nat×List AC)):aB:=⟨n,gx az,gx aU⟩
def hT{α:Type}(f:Nat→Option α):List (Nat×α)→Prop
 | []=>True
 | (k,v)::r=>f k=some v∧hT f r
theorem Af{α:Type}{f:Nat→Option α}:∀(l:List (Nat×α)),hT f l→∀t v,gx l t=some v→f t=some v
 | [],_,t,v,h=>by cases h
 | (k,u)::r,aX,t,v,h=>by
  simp only[gx] at h;cases aa:Nat.beq t k with
  | true=>rw[aa] at h;cases h;rw[gd aa];exact aX.1
  | false=>rw[aa] at h;exact Af r aX.2 t v h
theorem qZ{s:aB}{n:Nat}{az:List (Nat×ag)}{aU:List (Nat×List AC)}(aA:n=s.n)(aD:hT s.tmps az)(hm:hT s.mem aU):s.aV (eg n az aU) :=
 ⟨aA,Af az aD,Af aU hm⟩
def FD{α:Type}(aU:List (Nat×α))(k:Nat):Bool:=aU.any fun p=>Nat.beq k p.1
def DC(aU:List (Nat×List AC)):AC→Bool
 | .own k _=>FD aU k
 | _=>true
def YG(aU:List (Nat×List AC)):ag→Bool
 | .w x=>x.cells.all (DC aU)
 | .cd xs=>xs.all fun x=>x.cells.all (DC aU)
def okB(az:List (Nat×ag))(aU:List (Nat×List AC)):Bool:=az.all (fun p=>YG aU p.2)&&aU.all fun p=>p.2.all (DC aU)
theorem Rg{α:Type}{k:Nat}:∀(aU:List (Nat×α)),FD aU k=true→∃v,gx aU k=some v
 | [],h=>by cases h
 | (j,u)::r,h=>by
  simp only[FD,List.any_cons,pk] at h;simp only[gx];cases aa:Nat.beq k j with
  | true=>exact⟨u,rfl⟩
  | false=>rw[aa] at h;exact Rg r (by simpa [FD] using h)
theorem BU{α:Type}{k:Nat}{v:α}:∀(aU:List (Nat×α)),gx aU k=some v→(k,v)∈aU
 | [],h=>by cases h
 | (j,u)::r,h=>by
  simp only[gx] at h;cases aa:Nat.beq k j with
  | true=>rw[aa] at h;cases h;rw[gd aa];simp
  | false=>rw[aa] at h;exact kU _ (BU r h)
theorem HD{aU:List (Nat×List AC)}{x:AC}{j:Nat}(h:DC aU x=true)(af:x.owns j):∃cs,gx aU j=some cs:=by
 cases x with
 | c v=>cases af
 | p R=>cases af
 | own k o=>cases af;exact Rg aU h
theorem q0{n:Nat}{az:List (Nat×ag)}{aU:List (Nat×List AC)}(h:okB az aU=true):(eg n az aU).bN:=by
 unfold okB at h;rw[eb] at h;refine⟨fun t av j aD af => ?_,fun k cs x j ae ab af => ?_⟩
 ·have h1:=b5.1 h.1 _ (BU az aD);cases av with
  | w x =>
   obtain⟨y,ai,nv⟩:=af;exact HD (b5.1 h1 y ai) nv
  | cd xs =>
   obtain⟨z,aR,y,ai,nv⟩:=af;exact HD (b5.1 (b5.1 h1 z aR) y ai) nv
 ·have h1:=b5.1 h.2 _ (BU aU ae);exact HD (b5.1 h1 x ab) af
section
variable{P:Program}{s:aB}{x:Code}
theorem qJ{Q:Exit→aB→Prop}(N:Nat)(I:Nat→List (Nat×ag)→List (Nat×List AC)→Prop)(k:Nat)(az:List (Nat×ag))(aU:List (Nat×List AC))(bg:I k az aU)(aA:N=s.n)(aD:hT s.tmps az)(hm:hT s.mem aU)(ok:okB az aU=true)
  (round:∀k az aU,I k az aU→okB az aU=true→ft P x (s0 (fun s'=>∃k' hr hh,k'<k∧I k' hr hh∧N=s'.n∧hT s'.tmps hr∧hT s'.mem hh∧okB hr hh=true) Q) (eg N az aU)):ft P (.loop x) Q s:=by
 refine NA (fun k s=>∃az aU,I k az aU∧okB az aU=true∧s=eg N az aU) k (eg N az aU) (qZ aA aD hm) (q0 ok) ⟨az,aU,bg,ok,rfl⟩ ?_;rintro k s ⟨az,aU,bg,ok,rfl⟩;intro bU B A ad a w an;refine rA (round k az aU bg ok bU B A ad a w an) ?_;rintro e a' w' ⟨s',aT,w9,bu,aj⟩;refine⟨s',aT,w9,bu,?_⟩;cases e with
 | normal =>
  obtain⟨k',hr,hh,h1,h2,ar,aK,bX,fh⟩:=aj;exact⟨k',h1,eg N hr hh,qZ ar aK bX,q0 fh,hr,hh,h2,fh,rfl⟩
 | _=>exact aj
def Cw(P:Program)(x:Code)(Q:Exit→aB→Prop):Nat→aB→Prop
 | 0,_=>False
 | n+1,s=>ft P x (s0 (Cw P x Q n) Q) s
theorem ajj{Q:Exit→aB→Prop}{n:Nat}(h:ft P x (s0 (Cw P x Q n) Q) s):Cw P x Q (n+1) s:=h
theorem YJ(n:Nat){Q:Exit→aB→Prop}(h:Cw P x Q n s):ft P (.loop x) Q s:=by
 intro ok;refine NA (fun k s=>s.bN∧Cw P x Q k s) n s ⟨rfl,fun _ _ h=>h,fun _ _ h=>h⟩ ok ⟨ok,h⟩ ?_ ok;rintro k s ⟨ok,h⟩;cases k with
 | zero=>cases h
 | succ k =>
  intro bU B A ad a w an;refine rA (h bU B A ad a w an) ?_;rintro e a' w' ⟨s',aT,w9,bu,aj⟩;refine⟨s',aT,w9,bu,?_⟩;cases e with
  | normal=>exact⟨k,Nat.lt_succ_self k,s',⟨rfl,fun _ _ h=>h,fun _ _ h=>h⟩,w9,w9,aj⟩
  | _=>exact aj
end
structure zN where
 v:Value
 n:Nat
 xs:List Value
section
variable{P:Program}{B eQ:cT}{A bZ:Nat→Prop}{s s':aB}{ad:Nat→Nat}{a:Act}{w w':World}
theorem Rel.pH(h:Rel B A s ad a w)(cV:∀b,A b→b<w.heap.size→bZ b∧w'.heap[b]?=w.heap[b]?)(c7:∀k cs,s.mem k=some cs→w'.heap[ad k]?=w.heap[ad k]?∧¬eQ.F (ad k))(o5:eO eQ w')(Bx:∀b,eQ.W.heap.size≤b→bZ b)(Jb:uk eQ s ad)(l9:eQ.marks=B.marks:=by rfl):Rel eQ bZ s ad a w':=by
 have Pu:∀b,s.free A ad b→b<w.heap.size→s.free bZ ad b∧w'.heap[b]?=w.heap[b]?:=fun b aa al=>⟨⟨(cV b aa.1 al).1,aa.2⟩,(cV b aa.1 al).2⟩;refine⟨h.kv.trans l9.symm,h.size,fun t av aD => ?_,fun k cs ae => ?_,h.inj,o5,Bx,Jb⟩
 ·obtain⟨v,h1,h2⟩:=h.dk t av aD;exact⟨v,h1,h2.map Pu fun _ _=>rfl⟩
 ·obtain⟨vs,ty,h1,h2,ar⟩:=h.c3 k cs ae;exact⟨vs,ty,by rw[(c7 k cs ae).1];exact h1,h2.map Pu fun _ _ _ _=>rfl,(c7 k cs ae).2⟩
theorem Rel.Lp{d:Nat}{av bv:ag}(h:Rel B A s ad a w)(hd:s.tmps d=some bv)(hv:∀v,a.tmps[d]?=some v→cR (s.free A ad) ad w bv v→cR (s.free A ad) ad w av v):Rel B A (s.put (some d) av) ad a w:=by
 refine⟨h.kv,h.size,fun t cv aD => ?_,h.c3,h.inj,h.below,h.up,h.fI⟩;simp only[aB.put] at aD
 by_cases e:t=d
 ·subst e;rw[bW] at aD;cases aD;obtain⟨v,h1,h2⟩:=h.dk t bv hd;exact⟨v,h1,hv v h1 h2⟩
 ·rw[bM _ _ e] at aD;exact h.dk t cv aD
def hV(B:cT)(s:aB)(ad:Nat→Nat)(w:World):cT:=⟨w,fun b=>b<w.heap.size∧∀k cs,s.mem k=some cs→ad k≠b,fun _ h=>h.1,fun k=>if s.n≤k then some (ad k) else none,B.marks⟩
theorem lI{B:cT}(s:aB)(ad:Nat→Nat)(w:World):uk (hV B s ad w) s ad:=fun k b ae=>by
 simp only[hV] at ae
 split at ae
 ·rename_i h;exact⟨h,lO ae⟩
 ·cases ae
theorem YA{aH:cT}{s s':aB}{ad aT:Nat→Nat}{w w':World}{A:Nat→Prop}{a':Act}(h:uk aH s ad)(bu:Rel (hV aH s ad w) A s' aT a' w'):uk aH s' aT:=fun k b ae=>by
 obtain⟨h1,h2⟩:=h k b ae;obtain⟨ar,aK⟩:=bu.fI k (ad k) (by simp[hV,h1]);exact⟨ar,aK.trans h2⟩
theorem Rel.hot(h:Rel B A s ad a w)(Bx:∀b,w.heap.size≤b→A b):Rel (hV B s ad w) A s ad a w :=
 h.pH (fun b h _=>⟨h,rfl⟩) (fun k cs ae=>⟨rfl,fun ay=>ay.2 k cs ae rfl⟩) (eO.refl _) Bx (lI _ _ _)
theorem SD{base:Nat}{e:TypeId}{sz:Nat}{v:Value}{n:Nat}{xs:List Value}(h:w.ownsRow base e sz v n xs)(au:∀g,v.ownBlock=some g→w'.heap[g]?=w.heap[g]?):w'.ownsRow base e sz v n xs:=by
 refine⟨h.1,?_⟩;rcases h.2 with aA|⟨g,cap,cur,rfl,aa,r6,rest⟩
 ·exact .inl aA
 ·exact .inr ⟨g,cap,cur,rfl,aa,(au g rfl).trans r6,rest⟩
end
def Hg(aH:cT)(aP:Nat→Prop)(e sz:Nat)(t:zN)(s:aB)(a:Act)(w:World):Prop :=
 ∃A ad,(∀b,A b→aP b)∧Rel (hV aH s ad w) A s ad a w∧(∀k cs,s.mem k=some cs→¬aH.F (ad k))∧eO aH w∧w.ownsRow aH.W.heap.size e sz t.v t.n t.xs∧(∀g,t.v.ownBlock=some g→¬A g∧∀k cs,s.mem k=some cs→ad k≠g)∧(∀u∈t.xs,u.oneCell'=true)∧uk aH s ad
def WE(P:Program)(e sz:Nat)(c:Code)(Q:Exit→zN→aB→Prop)(t:zN)(s:aB):Prop :=
 s.bN→∀(aH:cT) aP a w,(∀b,aH.W.heap.size≤b→aP b)→Hg aH aP e sz t s a w→k1 P c (fun x a' w'=>∃lS s',s'.bN∧Hg aH aP e sz lS s' a' w'∧Q x lS s') a w
section
variable{P:Program}{e sz:Nat}{t:zN}{s:aB}{Q:Exit→zN→aB→Prop}{x y c:Code}
theorem alW{Q:Exit→aB→Prop}(e sz:Nat)(h:WE P e sz c (fun x t s'=>∃d,s'.tmps d=some (aQ t.v)∧Q x (s'.put (some d) (cD sz t.n (t.xs.map .c)))) ⟨.slice none 0 0,0,[]⟩ s):ft P c Q s:=by
 intro ok B A ad a w an;have b8:Hg B A e sz ⟨.slice none 0 0,0,[]⟩ s a w:=⟨A,ad,fun _ h=>h,an.hot fun b h=>an.up b (eL an.below.size h),fun k cs ae=>(an.c3 k cs ae).choose_spec.choose_spec.2.2,an.below,World.ownsRow_nil w B.W.heap.size e sz,fun g au=>(by cases au),fun u hu=>(by cases hu),an.fI⟩;refine rA (h ok B A a w an.up b8) ?_;rintro x a' w' ⟨lS,s',bU,⟨dJ,eh,abe,tj,ac6,mH,Fe,wE,ac1,abK⟩,d,hd,aj⟩;refine⟨_,eh,bU.put fun j af=>absurd af (lq _ j),?_,aj⟩;have pS:Rel B A s' eh a' w':=tj.pH (fun b aa _=>⟨abe b aa,rfl⟩) (fun k cs ae=>⟨rfl,ac6 k cs ae⟩) mH an.up abK;refine pS.Lp hd fun v jt mN => ?_;obtain⟨rfl,ED⟩:=mN;obtain⟨al,aA|⟨g,cap,cur,jq,o6,r7,eK,jV,dv,n7⟩⟩:=Fe
 ·obtain⟨aI,aN⟩:=aA;rw[aI];exact⟨⟨none,0,by rw[aN],by omega,by simpa using al,fun h=>absurd h (by omega)⟩,fun b ⟨c',a',q,aA,aa⟩=>by cases q⟩
 ·have mJ:∀(j:Nat) u,lS.xs[j]?=some u→w'.cell? ((⟨g,0,none⟩:Addr).add j)=some u:=World.ownsRow.cells ⟨al,.inr ⟨g,cap,cur,jq,o6,r7,eK,jV,dv,n7⟩⟩ (by rw[jq];rfl);have r6:=(wE g (by rw[jq];rfl)).2;rw[jq];refine⟨⟨some ⟨g,0,none⟩,cap,rfl,eK,by simpa using al,fun aA=>⟨⟨g,0,none⟩,lS.xs,rfl,(iA.1 r7).1,⟨by simp,fun i y v ai hv => ?_⟩,mJ,fun y ai => ?_⟩⟩,?_⟩
  ·rw[dx,hv] at ai;cases ai;exact⟨rfl,ac1 v (cP hv)⟩
  ·obtain⟨v,_,rfl⟩:=fO.1 ai;rfl
  ·rintro b ⟨c',a',q,aA,ay⟩;cases q;rcases ay with rfl|⟨j,y,v,ai,hv,fB⟩
   ·exact⟨an.up _ o6,r6⟩
   ·rw[dx] at ai;cases lK:lS.xs[j]? with
    | none=>rw[lK] at ai;cases ai
    | some u=>rw[lK] at ai;cases ai;cases fB
theorem Us(w:World)(base:Nat)(t ty e:TypeId)(i:TypeInfo)(z:Value)(size bytes:Nat)(aD:P.underlying t=some (.slice e))(hi:P.info? e=some i)(aR:i.zero=some z)
  (iu:i.size=size) (l6:i.bytes=bytes) (p5:z.cells.size=size) (bI:0<size)
  (v:Value) (n:Nat) (xs:List Value) (c7:w.ownsRow base e size v n xs)
  (a:Addr) (m c:Nat) (news:List Value) (al:news.length=m*size) (ma:∀j u,news[j]?=some u→w.cell? (a.add j)=some u) (h1:∀u∈news,u.oneCell'=true)
  (IX:n+m≤maxLen) (Ji:(n+m)*bytes≤140737488355328) (hV:base≤w.heap.size) (hm:0<m) :
  ∃a8 w',(Builtin.append_ #[t,t] ty #[v,.slice (some a) m c]).run P w = .ok a8 w'∧w'.ownsRow base e size a8 (n+m) (xs++news)∧w.grownBy w' v.ownBlock∧(∀g,a8.ownBlock=some g→v.ownBlock=some g∨w.heap.size≤g)∧a8.oneCell'=true:=by
 obtain⟨a8,w',ao,h2,ar,aK⟩:=run_append_own (P:=P) w base t ty e i z size bytes aD hi aR iu l6 p5 bI v n xs c7 a m c news al ma h1 IX Ji hV;refine⟨a8,w',ao,h2,ar,?_,?_⟩
 ·have amQ:n+m≤9223372036854775807:=by simp only[maxLen] at IX;omega
  rcases c7.2 with ⟨rfl,rfl⟩|⟨g,cap,cur,rfl,o6,au,eK,jV,dv,n7⟩
  ·have ab:xs=[]:=mR (by simpa using c7.1);subst ab;have:=run_append_nil (P:=P) w t ty e i z aD hi aR a m c news (by rw[iu];exact al) ma hm (by omega) (by rw[l6];simp only[iR] at Ji;omega);rw[this] at ao;cases ao;intro g au;simp[Value.ownBlock] at au;exact .inr (by omega)
  ·by_cases j1:n+m≤cap
   ·have nm:n*i.size+news.length≤cur.size:=by rw[iu,al,dv,←lP];exact h8 _ j1
    have:=run_append_room (P:=P) w t ty e i aD hi g n cap cur au a m c news (by rw[iu];exact al) ma h1 j1 nm;rw[this] at ao;cases ao;intro cZ dp;exact .inl dp
   ·have holds:∀j u,xs[j]?=some u→w.cell? ((⟨g,0,none⟩:Addr).add j)=some u:=c7.cells (g:=g) rfl;have:=run_append_grow (P:=P) w t ty e i z aD hi aR ⟨g,0,none⟩ n cap xs (by rw[iu];exact c7.1) holds a m c news (by rw[iu];exact al) ma (by omega) (by omega) (growslice_fits (by omega) (by rw[l6];exact Ji));rw[this] at ao;cases ao;intro cZ dp;simp[Value.ownBlock] at dp;exact .inr (by omega)
 ·rcases h2.2 with ⟨rfl,_⟩|⟨g,cap,cur,rfl,_⟩ <;> rfl
theorem HB{ro:Option Nat}{B:cT}{A:Nat→Prop}{ops:Array Oper}{K:aB→Prop}{Q:Exit→Act→World→Prop}{r:List Nat}(ni:∀s' aT a' w',s'.bN→Rel B A s' aT a' w'→K s'→wpOpsIn (lY ro) 0 P ops Q r a' w'):∀(l:List Oper) (k:Nat) (s:aB) (ad:Nat→Nat) (a:Act) (w:World),(∀(j:Nat),j<l.length→l[j]?=ops[k+j]?)→s.bN→Rel B A s ad a w →
  bk P ops K l s→wpOpsIn (lY ro) 0 P ops Q ((List.range l.length).map (k + ·)++r) a w
 | [],_,_,_,_,_,_,ok,an,h=>ni _ _ _ _ ok an h
 | o::l,k,s,ad,a,w,al,ok,an,h=>by
  have aF:ops[k]?=some o:=by simpa using (al 0 (by simp)).symm
  have e:(List.range (o::l).length).map (k + ·)=k::(List.range l.length).map (k+1 + ·):=by
   rw[hJ,List.range_succ_eq_map,hK,List.map_map];congr 1;apply nE;intro j _;simp[oj,ol 1 j]
  rw[e,tS,wpOpsIn_cons];refine Dy aF ok an h fun s' aT a' w' bU bu ae=>HB ni l (k+1) s' aT a' w' (fun j af=>by have:=al (j+1) (by simp;omega);simpa [oj,ol 1 j] using this) bU bu ae
def xj(P:Program)(tt e sz bytes:Nat):Bool:=match P.underlying tt,P.info? e with
 | some (.slice e'),some i=>match i.zero with
  | some z=>Nat.beq e' e&&Nat.beq i.size sz&&Nat.beq i.bytes bytes&&Nat.beq z.cells.size sz&&Nat.blt 0 sz
  | none=>false
 | _,_=>false
class nb (P:Program) (tt:TypeId) (e sz bytes:outParam Nat):Prop where
 h:xj P tt e sz bytes=true
theorem sH{tt e sz bytes:Nat}(h:xj P tt e sz bytes=true):∃(i:TypeInfo) (z:Value),P.underlying tt=some (.slice e)∧P.info? e=some i∧i.zero=some z∧i.size=sz∧i.bytes=bytes∧z.cells.size=sz∧0<sz:=by
 unfold xj at h
 split at h
 ·rename_i e' i hu hi
  split at h
  ·rename_i z aR;simp only[eb] at h;obtain⟨⟨⟨⟨h1,h2⟩,ar⟩,aK⟩,bX⟩:=h;rw[gd h1] at hu;exact⟨i,z,hu,hi,aR,gd h2,gd ar,gd aK,by simpa [lr] using bX⟩
  ·cases h
 ·cases h
def As:Nat→List Oper→Option (List Oper×List Oper)
 | 0,l=>some ([],l)
 | k+1,o::l=>match As k l with
  | some (a,b)=>some (o::a,b)
  | none=>none
 | _+1,[]=>none
theorem H9:∀(k:Nat) (l a b:List Oper),As k l=some (a,b)→l=a++b
 | 0,l,a,b,h=>by cases h;rfl
 | k+1,[],a,b,h=>by cases h
 | k+1,o::l,a,b,h=>by
  simp only[As] at h
  split at h
  ·rename_i a' cE ak;cases h;have:=H9 k l _ _ ak;rw[this];rfl
  ·cases h
end
end Go.Proofs.YtklpfooafbjnpaaGreat
