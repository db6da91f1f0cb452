/-
  My own texts,without what this claim does not need. My own text.
-/
import Derived.Tactics
import Derived.IntWalk
import Derived.Laws.AppendOwn
import Derived.Test.YtklpfooafbjnpaaGreatSLClimbsK1
set_option maxRecDepth 100000
set_option maxHeartbeats 64000000
set_option linter.unusedVariables false
set_option linter.unusedSimpArgs false
set_option linter.unusedSectionVars false
namespace Go.Proofs.YtklpfooafbjnpaaGreat
open Go.RowKit
abbrev aR(v:Value):ag := .w (.one (.c v))
abbrev aL(n:Int):ag:=aR (.int .i64 n)
abbrev bl(b:Bool):ag:=aR (.bool b)
abbrev n1(k off:Nat):ag := .w (.one (.own k off))
def lL(P:Program)(ty:TypeId):Option (Bool×Nat) :=
 match P.underlying ty,P.info? ty with
 | some (.struct _),some i|some (.array _ _),some i=>some (true,i.size)
 | some _,some i=>some (false,i.size)
 | _,_=>none
class e6 (P:Program) (ty:TypeId) (agg:outParam Bool) (n:outParam Nat):Prop where
 h:lL P ty=some (agg,n)
def zeroOf(P:Program)(ty:TypeId):Option (List Value):=((P.info? ty).bind (·.zero)).map fun z=>z.cells.toList
class DR (P:Program) (ty:TypeId) (vs:outParam (List Value)):Prop where
 h:zeroOf P ty=some vs
def uX(P:Program)(ty:TypeId)(i:Nat):Option Nat :=
 match P.underlying ty with
 | some (.struct bo)=>(bo[i]?).bind fun f=>(P.info? f.type).bind fun t=>if t.size=0 then none else some f.offset
 | _=>none
class oK (P:Program) (ty:TypeId) (i:Nat) (off:outParam Nat):Prop where
 h:uX P ty i=some off
def D6(P:Program)(ty:TypeId):Option (Nat×Nat) :=
 match P.underlying ty with
 | some (.array n e)=>(P.info? e).map fun t=>(n,t.size)
 | _=>none
class MO (P:Program) (ty:TypeId) (n size:outParam Nat):Prop where
 h:D6 P ty=some (n,size)
def uo(P:Program)(ty:TypeId):Option Nat :=
 match P.underlying ty with
 | some (.slice e)=>(P.info? e).map fun t=>t.size
 | _=>none
class hM (P:Program) (ty:TypeId) (size:outParam Nat):Prop where
 h:uo P ty=some size
def GA(P:Program)(ty:TypeId):Option (List (Nat×Nat)) :=
 match P.underlying ty with
 | some (.struct bo)=>bo.toList.mapM fun f=>(P.info? f.type).map fun t=>(f.offset,t.size)
 | some (.array n e)=>bif Nat.ble n 32 then(P.info? e).map fun t=>(List.range n).map fun i=>(i*t.size,t.size) else none
 | _=>none
class Nc (P:Program) (ty:TypeId) (ps:outParam (List (Nat×Nat))):Prop where
 h:GA P ty=some ps
class HH (P:Program) (ty:TypeId) (k:outParam IntKind):Prop where
 h:P.underlying ty=some (.int k)
class Enters (P:Program) (f:FuncId):Prop where
 h:enters P f=true
def takeN:List AC→Nat→Nat→Option (List AC)
 | _,0,0=>some []
 | [],_,_=>none
 | c::cs,0,n+1=>match takeN cs 0 n with
  | some r=>some (c::r)
  | none=>none
 | _::cs,off+1,n=>takeN cs off n
def qB:List AC→Nat→List AC→Option (List AC)
 | cs,0,[]=>some cs
 | [],_,_=>none
 | _::cs,0,d::ds=>match qB cs 0 ds with
  | some r=>some (d::r)
  | none=>none
 | c::cs,off+1,ds=>match qB cs off ds with
  | some r=>some (c::r)
  | none=>none
theorem Hb:∀(cs:List AC) (off n:Nat) (r:List AC),takeN cs off n=some r→off+n≤cs.length∧(cs.drop off).take n=r
 | cs,0,0,r,h=>by
  cases cs <;> (simp only[takeN,jd] at h;subst h;simp)
 | [],0,n+1,r,h=>by simp[takeN] at h
 | [],off+1,n,r,h=>by cases n <;> simp[takeN] at h
 | c::cs,0,n+1,r,h=>by
  simp only[takeN] at h
  split at h
  ·rename_i bg ap;cases h;have:=Hb cs 0 n bg ap;simp at this ⊢;exact this
  ·cases h
 | c::cs,off+1,n,r,h=>by
  have aK:takeN cs off n=some r:=by cases n <;> simpa [takeN] using h
  have:=Hb cs off n r aK;exact⟨by have:=this.1;simp;omega,by simpa using this.2⟩
theorem CC:∀(cs:List AC) (off:Nat) (ds:List AC) (r:List AC),qB cs off ds=some r→off+ds.length≤cs.length∧eP cs off ds=r
 | cs,0,[],r,h=>by
  cases cs <;> (simp only[qB,jd] at h;subst h;simp[eP])
 | [],0,d::ds,r,h=>by simp[qB] at h
 | [],off+1,ds,r,h=>by cases ds <;> simp[qB] at h
 | c::cs,0,d::ds,r,h=>by
  simp only[qB] at h
  split at h
  ·rename_i bg ap;cases h;have:=CC cs 0 ds bg ap;simp[eP] at this ⊢;exact this
  ·cases h
 | c::cs,off+1,ds,r,h=>by
  simp only[qB] at h
  split at h
  ·rename_i bg ap;cases h;have:=CC cs off ds bg ap;simp[eP,Nat.add_right_comm] at this ⊢;exact this
  ·cases h
section
variable{P:Program}{s s':aB}{o:Oper}{ops:Array Oper}{rest:List Oper}{K:aB→Prop}
theorem dC(h:K s):bk P ops K [] s:=h
theorem NM{prs:List (Nat×Nat)}(hs:prs.all (nY s)=true)(h:K s):bk P ops (fun s=>prs.all (nY s)=true∧K s) [] s:=⟨hs,h⟩
theorem r0{e:cE}(hw:want ops o s=some true)(he:fa P s.n s.look s.mem o true e)(hd:∀d,o.dst=some d→d<s.n)(h:bk P ops K rest (e.on o.dst s)):bk P ops K (o::rest) s:=⟨true,hw,e,he,hd,h⟩
section
variable{d ty:Nat}{op:Op}{pos:String}{after:Array Edge}{guard:Option (Nat×Bool)}
theorem mh{d:Nat}(hd:Nat.blt d s.n=true):∀d',some d=some d'→d'<s.n:=fun d' e=>by cases e;simpa [k7] using hd
theorem NN{dst:Option Nat}(hw:want ops ⟨dst,op,ty,pos,after,guard⟩ s=some false)(hd:∀d,dst=some d→Nat.blt d s.n=true)(h:bk P ops K rest (s.put dst (.cj []))):bk P ops K (⟨dst,op,ty,pos,after,guard⟩::rest) s :=
 ⟨false,hw,_,.skip,fun d e=>by have:=hd d e;simpa [k7] using this,h⟩
theorem fJ{av:ag}(hw:want ops ⟨some d,op,ty,pos,after,guard⟩ s=some true)(aj:x3 P s.look ⟨some d,op,ty,pos,after,guard⟩ av)(hd:Nat.blt d s.n=true)(h:bk P ops K rest (s.put (some d) av)):bk P ops K (⟨some d,op,ty,pos,after,guard⟩::rest) s :=
 r0 hw (.quiet av aj) (mh hd) h
theorem YH{x:Operand}{av:ag}(hw:want ops ⟨some d,.move x,ty,pos,after,guard⟩ s=some true)(ab:s.look x=some av)(hd:Nat.blt d s.n=true)(h:bk P ops K rest (s.put (some d) av)):bk P ops K (⟨some d,.move x,ty,pos,after,guard⟩::rest) s:=by
 refine fJ hw ⟨fun _ _ h=>(by cases h),fun y ai => ?_,fun U ad W env he=>⟨env x,rfl,he x (by simp[Op.operands]) av ab⟩,fun j af=>⟨x,by simp[Op.operands],av,ab,af⟩⟩ hd h;simp[Op.operands] at ai;subst ai;exact⟨av,ab⟩
theorem Yi{x:Operand}{av:ag}(hw:want ops ⟨some d,.assign x,ty,pos,after,guard⟩ s=some true)(ab:s.look x=some av)(hd:Nat.blt d s.n=true)(h:bk P ops K rest (s.put (some d) av)):bk P ops K (⟨some d,.assign x,ty,pos,after,guard⟩::rest) s:=by
 refine fJ hw ⟨fun _ _ h=>(by cases h),fun y ai => ?_,fun U ad W env he=>⟨env x,rfl,he x (by simp[Op.operands]) av ab⟩,fun j af=>⟨x,by simp[Op.operands],av,ab,af⟩⟩ hd h;simp[Op.operands] at ai;subst ai;exact⟨av,ab⟩
theorem Yt{x:Operand}{i:Nat}{xs:List bH}{y:bH}(hw:want ops ⟨some d,.extract x i,ty,pos,after,guard⟩ s=some true)(ab:s.look x=some (.cj xs))(hi:xs[i]?=some y)(hd:Nat.blt d s.n=true)(h:bk P ops K rest (s.put (some d) (.w y))):bk P ops K (⟨some d,.extract x i,ty,pos,after,guard⟩::rest) s:=by
 refine fJ (av := .w y) hw ⟨fun _ _ h=>(by cases h),fun y ai => ?_,fun U ad W env he => ?_,fun j af=>⟨x,by simp[Op.operands],_,ab,⟨y,cP hi,af⟩⟩⟩ hd h
 ·simp[Op.operands] at ai;subst ai;exact⟨_,ab⟩
 ·obtain⟨vs,e,al,hv⟩:=he x (by simp[Op.operands]) _ ab;have bc:i<vs.length:=by rw[←al];exact(bt.1 hi).1
  refine⟨vs[i],?_,hv i y _ hi (bF bc)⟩;simp only[execOp,Instr.extract,e];simp[bc]
theorem Yv{x:Operand}{rJ i k off jr:Nat} [F:oK P rJ i jr](hw:want ops ⟨some d,.fieldAddr rJ x i,ty,pos,after,guard⟩ s=some true)(ab:s.look x=some (n1 k off))(hd:Nat.blt d s.n=true)(h:bk P ops K rest (s.put (some d) (n1 k (off+jr)))):bk P ops K (⟨some d,.fieldAddr rJ x i,ty,pos,after,guard⟩::rest) s:=by
 refine fJ hw ⟨fun _ _ h=>(by cases h),fun y ai => ?_,fun U ad W env he => ?_,fun j af=>⟨x,by simp[Op.operands],_,ab,?_⟩⟩ hd h
 ·simp[Op.operands] at ai;subst ai;exact⟨_,ab⟩
 ·have hp:env x = .pointer (some ⟨ad k,off,none⟩):=he x (by simp[Op.operands]) _ ab;have hF:=F.h;unfold uX at hF
  split at hF
  ·rename_i bo hu;cases ay:bo[i]? with
   | none=>rw[ay] at hF;cases hF
   | some f =>
    rw[ay] at hF;simp only[k6] at hF;cases hi:P.info? f.type with
    | none=>rw[hi] at hF;cases hF
    | some t =>
     rw[hi] at hF;simp only[k6] at hF
     split at hF
     ·cases hF
     ·rename_i cr;cases hF;refine⟨.pointer (some ⟨ad k,off+f.offset,none⟩),?_,rfl⟩;have lX:(⟨ad k,off,none⟩:Addr).add f.offset=⟨ad k,off+f.offset,none⟩:=by unfold Addr.add;split <;> simp_all
      simp only[execOp,Instr.fieldAt,hp,Instr.sureAddr,Sem.run_bind,Sem.run_pure,Result.andThen_ok,run_underlying hu,ay,fieldPlace,h5 hi,if_neg cr,lX]
  ·cases hF
 ·obtain⟨y,ai,nM⟩:=af;exact⟨.own k off,by simp[bH.cells],by simp[bH.cells] at ai;subst ai;exact nM⟩
theorem NK{x y:Operand}{Ie k off n size:Nat}{gO:IntKind}{i:Int} [A:MO P Ie n size](hw:want ops ⟨some d,.indexAddr Ie x y,ty,pos,after,guard⟩ s=some true)(ab:s.look x=some (n1 k off))(ai:s.look y=some (aR (.int gO i)))(aF:0≤i)(h1:i<n)(hd:Nat.blt d s.n=true)(h:bk P ops K rest (s.put (some d) (n1 k (off+i.toNat*size)))):bk P ops K (⟨some d,.indexAddr Ie x y,ty,pos,after,guard⟩::rest) s:=by
 refine fJ hw ⟨fun _ _ h=>(by cases h),fun z aT => ?_,fun U ad W env he => ?_,fun j af=>⟨x,by simp[Op.operands],_,ab,?_⟩⟩ hd h
 ·simp[Op.operands] at aT;rcases aT with rfl|rfl
  ·exact⟨_,ab⟩
  ·exact⟨_,ai⟩
 ·have hp:env x = .pointer (some ⟨ad k,off,none⟩):=he x (by simp[Op.operands]) _ ab;have hi:env y = .int gO i:=(he y (by simp[Op.operands]) _ ai).1;have cp:=A.h;unfold D6 at cp
  split at cp
  ·rename_i n' e hu;cases b7:P.info? e with
   | none=>rw[b7] at cp;cases cp
   | some t =>
    rw[b7] at cp;cases cp;refine⟨.pointer (some ⟨ad k,off+i.toNat*t.size,none⟩),?_,rfl⟩;have lX:(⟨ad k,off,none⟩:Addr).add (i.toNat*t.size)=⟨ad k,off+i.toNat*t.size,none⟩:=by unfold Addr.add;split <;> simp_all
    simp only[execOp,Instr.indexAt,hp,hi,asIntOf,Instr.sureAddr,Sem.run_bind,Sem.run_pure,Result.andThen_ok,run_underlying hu,h5 b7,if_pos (And.intro aF h1),lX]
  ·cases cp
 ·obtain⟨y,ai,nM⟩:=af;exact⟨.own k off,by simp[bH.cells],by simp[bH.cells] at ai;subst ai;exact nM⟩
theorem VU{ty n:Nat}(h:lL P ty=some (false,n)){cs:List AC}{off:Nat}{y:AC}(ak:cs[off]?=some y):pick P ty cs off=some (.one y):=by
 unfold lL at h;unfold pick;cases hu:P.underlying ty with
 | none=>rw[hu] at h;cases h
 | some D =>
  cases hi:P.info? ty with
  | none=>rw[hu,hi] at h;cases D <;> cases h
  | some i =>
   rw[hu,hi] at h;cases D <;> first|(simp only[ak,hk];done)|(exfalso;cases h)
theorem VT{ty n:Nat}(h:lL P ty=some (true,n)){cs ys:List AC}{off:Nat}(ak:takeN cs off n=some ys):pick P ty cs off=some (.agg ys):=by
 obtain⟨h1,h2⟩:=Hb _ _ _ _ ak;unfold lL at h;unfold pick
 split at h
 ·rename_i i hu hi;cases h;simp only[hu,hi,k6,if_pos h1,h2]
 ·rename_i i hu hi;cases h;simp only[hu,hi,k6,if_pos h1,h2]
 ·cases h
 ·cases h
theorem alR{ty n:Nat}{b:Bool}(h:lL P ty=some (b,n)):∃i,P.info? ty=some i∧i.size=n:=by
 unfold lL at h
 split at h
 ·rename_i i hu hi;cases h;exact⟨i,hi,rfl⟩
 ·rename_i i hu hi;cases h;exact⟨i,hi,rfl⟩
 ·rename_i i _ _ hu hi;cases h;exact⟨_,hi,rfl⟩
 ·cases h
theorem YB{x:Operand}{lt k off n:Nat}{cs:List AC}{y:AC} [T:e6 P lt false n](hw:want ops ⟨some d,.load lt x,ty,pos,after,guard⟩ s=some true)(ab:s.look x=some (n1 k off))(hm:s.mem k=some cs)(ak:cs[off]?=some y)(hd:Nat.blt d s.n=true)(h:bk P ops K rest (s.put (some d) (.w (.one y)))):bk P ops K (⟨some d,.load lt x,ty,pos,after,guard⟩::rest) s :=
 r0 hw (.load lt x k off cs _ rfl ab hm (VU T.h ak)) (mh hd) h
theorem YC{x:Operand}{lt k off n:Nat}{cs ys:List AC} [T:e6 P lt true n](hw:want ops ⟨some d,.load lt x,ty,pos,after,guard⟩ s=some true)(ab:s.look x=some (n1 k off))(hm:s.mem k=some cs)(ak:takeN cs off n=some ys)(hd:Nat.blt d s.n=true)(h:bk P ops K rest (s.put (some d) (.w (.agg ys)))):bk P ops K (⟨some d,.load lt x,ty,pos,after,guard⟩::rest) s :=
 r0 hw (.load lt x k off cs _ rfl ab hm (VT T.h ak)) (mh hd) h
theorem Y1{x y:Operand}{st k off n:Nat}{b:Bool}{cs ds:List AC}{z:bH} [T:e6 P st b n](hw:want ops ⟨none,.store st x y,ty,pos,after,guard⟩ s=some true)(ab:s.look x=some (n1 k off))(ai:s.look y=some (.w z))(hm:s.mem k=some cs)(aA:Nat.beq n z.cells.length=true)(hp:qB cs off z.cells=some ds)(h:bk P ops K rest (s.eb k ds)):bk P ops K (⟨none,.store st x y,ty,pos,after,guard⟩::rest) s:=by
 obtain⟨i,hi,hs⟩:=alR T.h;obtain⟨h1,h2⟩:=CC _ _ _ _ hp;refine r0 hw (.store st x y k off cs z i rfl ab ai hm hi (by rw[hs];exact gp aA) h1) (fun d e=>by cases e) ?_;simp only[cE.on,h2];exact h
theorem Yh{iU:Nat}{vs:List Value} [Z:DR P iU vs](hw:want ops ⟨some d,.alloc iU,ty,pos,after,guard⟩ s=some true)(hm:s.mem d=none)(h1:(vs.all fun v=>v.oneCell')=true)(hd:Nat.blt d s.n=true)(h:bk P ops K rest ((s.eb d (vs.map .c)).put (some d) (n1 d 0))):bk P ops K (⟨some d,.alloc iU,ty,pos,after,guard⟩::rest) s:=by
 have aT:=Z.h;unfold zeroOf at aT;cases hi:P.info? iU with
 | none=>rw[hi] at aT;cases aT
 | some i =>
  rw[hi] at aT;simp only[k6] at aT;cases iK:i.zero with
  | none=>rw[iK] at aT;cases aT
  | some z =>
   rw[iK] at aT;cases aT;exact r0 hw (.new _ d rfl hm (.alloc iU i z _ rfl hi iK rfl h1)) (mh hd) h
theorem Yj{Iq:Nat}{x:Operand}{z:bH}(hw:want ops ⟨some d,.box Iq x,ty,pos,after,guard⟩ s=some true)(ab:s.look x=some (.w z))(hm:s.mem d=none)(hd:Nat.blt d s.n=true)(h:bk P ops K rest ((s.eb d z.cells).put (some d) (n1 d 0))):bk P ops K (⟨some d,.box Iq x,ty,pos,after,guard⟩::rest) s :=
 r0 hw (.new _ d rfl hm (.box Iq x z rfl ab)) (mh hd) h
def uV:List AC→Option (List Value)
 | []=>some []
 | .c v::xs=>match uV xs with
  | some r=>some (v::r)
  | none=>none
 | _::_=>none
def nz:bH→Option Value
 | .one (.c v)=>some v
 | .one _=>none
 | .agg xs=>match uV xs with
  | some r=>some (.agg r.toArray)
  | none=>none
theorem Pd{U:Nat→Prop}{ad:Nat→Nat}{W:World}:∀(xs:List AC) (vs r:List Value),bS U ad W xs vs→uV xs=some r→vs=r
 | [],vs,r,h,he=>by cases he;have:=h.1;exact nj this.symm
 | .c v::xs,vs,r,h,he=>by
  simp only[uV] at he
  split at he
  ·rename_i bg ap;cases he;cases vs with
   | nil=>have:=h.1;cases this
   | cons u us =>
    have aF:u=v:=(h.2 0 _ _ rfl rfl).1;have:=Pd xs us bg ⟨by have:=h.1;simpa using this,fun i x w ab hw=>h.2 (i+1) x w (by simpa using ab) (by simpa using hw)⟩ ap;rw[aF,this]
  ·cases he
 | .own _ _::_,_,_,_,he=>by cases he
 | .p _::_,_,_,_,he=>by cases he
theorem AX{U:Nat→Prop}{ad:Nat→Nat}{W:World}{x:bH}{v u:Value}(h:gZ U ad W x v)(he:nz x=some u):v=u:=by
 cases x with
 | one y=>cases y with
  | c w=>cases he;exact h.1
  | own=>cases he
  | p=>cases he
 | agg xs =>
  simp only[nz] at he
  split at he
  ·rename_i r ap;cases he;obtain⟨vs,rfl,al⟩:=h;rw[Pd xs vs r al ap]
  ·cases he
theorem gS(v:Value)(j:Nat):¬(aR v).owns j:=fun⟨y,ai,h⟩=>by simp[bH.cells] at ai;subst ai;cases h
theorem yc{tf:BinOp}{dm dY:Nat}{x y:Operand}{a b:bH}{jX fN v:Value}(hw:want ops ⟨some d,.binOp tf dm x y dY,ty,pos,after,guard⟩ s=some true)(ab:s.look x=some (.w a))(ai:s.look y=some (.w b))(jH:nz a=some jX)(nx:nz b=some fN)
  (aw:∀W,(eqGuard tf dm x y jX fN).run P W = .ok () W) (ap:∀W,(binOp tf dm jX fN).run P W = .ok v W) (h1:v.oneCell'=true) (hd:Nat.blt d s.n=true) (h:bk P ops K rest (s.put (some d) (aR v))):bk P ops K (⟨some d,.binOp tf dm x y dY,ty,pos,after,guard⟩::rest) s:=by
 refine fJ (av:=aR v) hw ⟨fun _ _ h=>(by cases h),fun z aT => ?_,fun U ad W env he=>⟨v,?_,⟨rfl,h1⟩⟩,fun j af=>absurd af (gS v j)⟩ hd h
 ·simp[Op.operands] at aT;rcases aT with rfl|rfl
  ·exact⟨_,ab⟩
  ·exact⟨_,ai⟩
 ·have aI:env x=jX:=AX (he x (by simp[Op.operands]) _ ab) jH;have aO:env y=fN:=AX (he y (by simp[Op.operands]) _ ai) nx;simp only[execOp,aI,aO,Sem.run_bind,aw,Result.andThen_ok,ap,Sem.run_pure]
theorem qY{tf:BinOp}{dm dY:Nat}{x y:Operand}{k:IntKind}{a b:Int}{v:Value}(hw:want ops ⟨some d,.binOp tf dm x y dY,ty,pos,after,guard⟩ s=some true)(ab:s.look x=some (aR (.int k a)))(ai:s.look y=some (aR (.int k b)))
  (ap:∀W,(binOp tf dm (.int k a) (.int k b)).run P W = .ok v W) (h1:v.oneCell'=true) (hd:Nat.blt d s.n=true) (h:bk P ops K rest (s.put (some d) (aR v))):bk P ops K (⟨some d,.binOp tf dm x y dY,ty,pos,after,guard⟩::rest) s :=
 yc hw ab ai rfl rfl (fun W=>by unfold eqGuard;cases tf <;> rfl) ap h1 hd h
theorem YD{dm dY:Nat}{x y:Operand}{k:IntKind}{a b:Int}(hw:want ops ⟨some d,.binOp .lss dm x y dY,ty,pos,after,guard⟩ s=some true)(ab:s.look x=some (aR (.int k a)))(ai:s.look y=some (aR (.int k b)))(hd:Nat.blt d s.n=true)(h:bk P ops K rest (s.put (some d) (bl (decide (a<b))))):bk P ops K (⟨some d,.binOp .lss dm x y dY,ty,pos,after,guard⟩::rest) s :=
 qY hw ab ai (fun W=>by cases k <;> rfl) rfl hd h
theorem YA{dm dY:Nat}{x y:Operand}{k:IntKind}{a b:Int}(hw:want ops ⟨some d,.binOp .leq dm x y dY,ty,pos,after,guard⟩ s=some true)(ab:s.look x=some (aR (.int k a)))(ai:s.look y=some (aR (.int k b)))(hd:Nat.blt d s.n=true)(h:bk P ops K rest (s.put (some d) (bl (decide (a≤b))))):bk P ops K (⟨some d,.binOp .leq dm x y dY,ty,pos,after,guard⟩::rest) s :=
 qY hw ab ai (fun W=>by cases k <;> rfl) rfl hd h
theorem Yy{dm dY:Nat}{x y:Operand}{k:IntKind}{a b:Int}(hw:want ops ⟨some d,.binOp .gtr dm x y dY,ty,pos,after,guard⟩ s=some true)(ab:s.look x=some (aR (.int k a)))(ai:s.look y=some (aR (.int k b)))(hd:Nat.blt d s.n=true)(h:bk P ops K rest (s.put (some d) (bl (decide (b<a))))):bk P ops K (⟨some d,.binOp .gtr dm x y dY,ty,pos,after,guard⟩::rest) s :=
 qY hw ab ai (fun W=>by cases k <;> rfl) rfl hd h
theorem Yx{dm dY:Nat}{x y:Operand}{k:IntKind}{a b:Int}(hw:want ops ⟨some d,.binOp .geq dm x y dY,ty,pos,after,guard⟩ s=some true)(ab:s.look x=some (aR (.int k a)))(ai:s.look y=some (aR (.int k b)))(hd:Nat.blt d s.n=true)(h:bk P ops K rest (s.put (some d) (bl (decide (b≤a))))):bk P ops K (⟨some d,.binOp .geq dm x y dY,ty,pos,after,guard⟩::rest) s :=
 qY hw ab ai (fun W=>by cases k <;> rfl) rfl hd h
theorem Yq{dm dY:Nat}{x y:Operand}{k:IntKind}{a b:Int}(hw:want ops ⟨some d,.binOp .eql dm x y dY,ty,pos,after,guard⟩ s=some true)(ab:s.look x=some (aR (.int k a)))(ai:s.look y=some (aR (.int k b)))(hd:Nat.blt d s.n=true)(h:bk P ops K rest (s.put (some d) (bl (decide (a=b))))):bk P ops K (⟨some d,.binOp .eql dm x y dY,ty,pos,after,guard⟩::rest) s :=
 qY hw ab ai (fun W=>by cases k <;> rfl) rfl hd h
theorem YL{dm dY:Nat}{x y:Operand}{k:IntKind}{a b:Int}(hw:want ops ⟨some d,.binOp .neq dm x y dY,ty,pos,after,guard⟩ s=some true)(ab:s.look x=some (aR (.int k a)))(ai:s.look y=some (aR (.int k b)))(hd:Nat.blt d s.n=true)(h:bk P ops K rest (s.put (some d) (bl (!decide (a=b))))):bk P ops K (⟨some d,.binOp .neq dm x y dY,ty,pos,after,guard⟩::rest) s :=
 qY hw ab ai (fun W=>by cases k <;> rfl) rfl hd h
theorem wv{dm dY:Nat}{x y:Operand}{k:IntKind}{a b c:Int}(hw:want ops ⟨some d,.binOp .add dm x y dY,ty,pos,after,guard⟩ s=some true)(ab:s.look x=some (aR (.int k a)))(ai:s.look y=some (aR (.int k b)))(ak:k.wrap (a+b)=c)(hd:Nat.blt d s.n=true)(h:bk P ops K rest (s.put (some d) (aR (.int k c)))):bk P ops K (⟨some d,.binOp .add dm x y dY,ty,pos,after,guard⟩::rest) s :=
 qY hw ab ai (fun W=>by rw[←ak];cases k <;> rfl) rfl hd h
theorem Y2{dm dY:Nat}{x y:Operand}{k:IntKind}{a b c:Int}(hw:want ops ⟨some d,.binOp .sub dm x y dY,ty,pos,after,guard⟩ s=some true)(ab:s.look x=some (aR (.int k a)))(ai:s.look y=some (aR (.int k b)))(ak:k.wrap (a-b)=c)(hd:Nat.blt d s.n=true)(h:bk P ops K rest (s.put (some d) (aR (.int k c)))):bk P ops K (⟨some d,.binOp .sub dm x y dY,ty,pos,after,guard⟩::rest) s :=
 qY hw ab ai (fun W=>by rw[←ak];cases k <;> rfl) rfl hd h
theorem YI{dm dY:Nat}{x y:Operand}{k:IntKind}{a b c:Int}(hw:want ops ⟨some d,.binOp .mul dm x y dY,ty,pos,after,guard⟩ s=some true)(ab:s.look x=some (aR (.int k a)))(ai:s.look y=some (aR (.int k b)))(ak:k.wrap (a*b)=c)(hd:Nat.blt d s.n=true)(h:bk P ops K rest (s.put (some d) (aR (.int k c)))):bk P ops K (⟨some d,.binOp .mul dm x y dY,ty,pos,after,guard⟩::rest) s :=
 qY hw ab ai (fun W=>by rw[←ak];cases k <;> rfl) rfl hd h
theorem jx{n:Int}(h : -9223372036854775808≤n∧n<9223372036854775808):IntKind.i64.wrap n=n:=IntWalk.i64_in n (by omega)
theorem YR{dm:Nat}{x:Operand}{b:Bool}(hw:want ops ⟨some d,.unOp .not dm x,ty,pos,after,guard⟩ s=some true)(ab:s.look x=some (bl b))(hd:Nat.blt d s.n=true)(h:bk P ops K rest (s.put (some d) (bl (!b)))):bk P ops K (⟨some d,.unOp .not dm x,ty,pos,after,guard⟩::rest) s:=by
 refine fJ (av:=bl (!b)) hw ⟨fun _ _ h=>(by cases h),fun z aT => ?_,fun U ad W env he=>⟨.bool (!b),?_,⟨rfl,rfl⟩⟩,fun j af=>absurd af (gS _ j)⟩ hd h
 ·simp[Op.operands] at aT;subst aT;exact⟨_,ab⟩
 ·have aI:env x = .bool b:=(he x (by simp[Op.operands]) _ ab).1;simp only[execOp,aI,Sem.run_bind,Op.unary];rfl
theorem NP{Mw:UnOp}{dm:Nat}{x:Operand}{jX v:Value}(hw:want ops ⟨some d,.unOp Mw dm x,ty,pos,after,guard⟩ s=some true)(ab:s.look x=some (aR jX))(ap:∀W,(Op.unary Mw jX).run P W = .ok v W)(h1:v.oneCell'=true)(hd:Nat.blt d s.n=true)(h:bk P ops K rest (s.put (some d) (aR v))):bk P ops K (⟨some d,.unOp Mw dm x,ty,pos,after,guard⟩::rest) s:=by
 refine fJ (av:=aR v) hw ⟨fun _ _ h=>(by cases h),fun z aT => ?_,fun U ad W env he=>⟨v,?_,⟨rfl,h1⟩⟩,fun j af=>absurd af (gS v j)⟩ hd h
 ·simp[Op.operands] at aT;subst aT;exact⟨_,ab⟩
 ·have aI:env x=jX:=(he x (by simp[Op.operands]) _ ab).1;simp only[execOp,aI,Sem.run_bind,ap,Result.andThen_ok,Sem.run_pure]
theorem NI{src dst:Nat}{x:Operand}{jX v:Value}(hw:want ops ⟨some d,.convert src dst x,ty,pos,after,guard⟩ s=some true)(ab:s.look x=some (aR jX))(ap:∀W,(convert src dst jX).run P W = .ok v W)(h1:v.oneCell'=true)(hd:Nat.blt d s.n=true)(h:bk P ops K rest (s.put (some d) (aR v))):bk P ops K (⟨some d,.convert src dst x,ty,pos,after,guard⟩::rest) s:=by
 refine fJ (av:=aR v) hw ⟨fun _ _ h=>(by cases h),fun z aT => ?_,fun U ad W env he=>⟨v,?_,⟨rfl,h1⟩⟩,fun j af=>absurd af (gS v j)⟩ hd h
 ·simp[Op.operands] at aT;subst aT;exact⟨_,ab⟩
 ·have aI:env x=jX:=(he x (by simp[Op.operands]) _ ab).1;simp only[execOp,aI,Sem.run_bind,ap,Result.andThen_ok,Sem.run_pure]
theorem Ym{src dst n:Nat}{b:Bool}{k k':IntKind}{x:Operand}{a c:Int} [S:e6 P src b n] [I:HH P dst k'](hw:want ops ⟨some d,.convert src dst x,ty,pos,after,guard⟩ s=some true)(ab:s.look x=some (aR (.int k a)))(ak:k'.wrap a=c)(hd:Nat.blt d s.n=true)(h:bk P ops K rest (s.put (some d) (aR (.int k' c)))):bk P ops K (⟨some d,.convert src dst x,ty,pos,after,guard⟩::rest) s:=by
 refine NI hw ab (fun W => ?_) rfl hd h
 have hs:∃D,P.underlying src=some D:=by
  have:=S.h;unfold lL at this;cases hu:P.underlying src with
  | none=>rw[hu] at this;cases this
  | some D=>exact⟨D,rfl⟩
 obtain⟨D,hs⟩:=hs;unfold convert;simp only[Sem.run_bind,run_underlying hs,run_underlying I.h,Result.andThen_ok];rw[←ak];cases D <;> rfl
theorem YT{c x y:Operand}{av:ag}(hw:want ops ⟨some d,.pick c x y,ty,pos,after,guard⟩ s=some true)(ak:s.look c=some (bl true))(ab:s.look x=some av){bv:ag}(ai:s.look y=some bv)(hd:Nat.blt d s.n=true)(h:bk P ops K rest (s.put (some d) av)):bk P ops K (⟨some d,.pick c x y,ty,pos,after,guard⟩::rest) s:=by
 refine fJ hw ⟨fun _ _ h=>(by cases h),fun z aT => ?_,fun U ad W env he=>⟨env x,?_,he x (by simp[Op.operands]) av ab⟩,fun j af=>⟨x,by simp[Op.operands],av,ab,af⟩⟩ hd h
 ·simp[Op.operands] at aT;rcases aT with rfl|rfl|rfl
  ·exact⟨_,ak⟩
  ·exact⟨_,ab⟩
  ·exact⟨_,ai⟩
 ·have aI:env c = .bool true:=(he c (by simp[Op.operands]) _ ak).1;simp[execOp,aI,asBool]
theorem YS{c x y:Operand}{av:ag}(hw:want ops ⟨some d,.pick c x y,ty,pos,after,guard⟩ s=some true)(ak:s.look c=some (bl false))(ab:s.look y=some av){bv:ag}(ai:s.look x=some bv)(hd:Nat.blt d s.n=true)(h:bk P ops K rest (s.put (some d) av)):bk P ops K (⟨some d,.pick c x y,ty,pos,after,guard⟩::rest) s:=by
 refine fJ hw ⟨fun _ _ h=>(by cases h),fun z aT => ?_,fun U ad W env he=>⟨env y,?_,he y (by simp[Op.operands]) av ab⟩,fun j af=>⟨y,by simp[Op.operands],av,ab,af⟩⟩ hd h
 ·simp[Op.operands] at aT;rcases aT with rfl|rfl|rfl
  ·exact⟨_,ak⟩
  ·exact⟨_,ai⟩
  ·exact⟨_,ab⟩
 ·have aI:env c = .bool false:=(he c (by simp[Op.operands]) _ ak).1;simp[execOp,aI,asBool]
theorem yd{f:FuncId}{g:Operand}{az:Array TypeId}{l:List Operand}{args:List ag}{r:ag} [E:Enters P f](hw:want ops ⟨some d,.call ⟨.value g,l.toArray,az⟩,ty,pos,after,guard⟩ s=some true)(aw:s.look g=some (aR (.func (.func f) #[] #[])))(aX:l.map s.look=args.map some)(hp:aP P f args r)(hd:Nat.blt d s.n=true)(h:bk P ops K rest (s.put (some d) r)) :
  bk P ops K (⟨some d,.call ⟨.value g,l.toArray,az⟩,ty,pos,after,guard⟩::rest) s :=
 r0 hw (.call f args r ⟨⟨_,g,rfl,rfl,.inl ⟨[],aw,by simpa using aX,rfl⟩⟩,E.h⟩ hp) (mh hd) h
theorem uI{f:FuncId}{g:Operand}{az:Array TypeId}{l:List Operand}{bs:List Value}{args:List ag}{r:ag} [E:Enters P f](hw:want ops ⟨some d,.call ⟨.value g,l.toArray,az⟩,ty,pos,after,guard⟩ s=some true)(aw:s.look g=some (aR (.func (.func f) bs.toArray #[])))(aa:bs.all Ef=true)(aX:l.map s.look=args.map some)(hp:aP P f (bs.map zd++args) r)(hd:Nat.blt d s.n=true)(h:bk P ops K rest (s.put (some d) r)) :
  bk P ops K (⟨some d,.call ⟨.value g,l.toArray,az⟩,ty,pos,after,guard⟩::rest) s :=
 r0 hw (.call f _ r ⟨⟨_,g,rfl,rfl,.inl ⟨bs,aw,by rw[List.toList_toArray,aX,sL,List.map_map];rfl,aa⟩⟩,E.h⟩ hp) (mh hd) h
theorem uH{f:FuncId}{g:Operand}{az:Array TypeId}{l:List Operand}{cs:List AC}{args:List ag}{r:ag} [E:Enters P f](hw:want ops ⟨some d,.call ⟨.value g,l.toArray,az⟩,ty,pos,after,guard⟩ s=some true)(aw:s.look g=some (.w (.one (.p (l9 (.func f) cs)))))(aX:l.map s.look=args.map some)(hp:aP P f (args++cs.map fun x => .w (.one x)) r)(hd:Nat.blt d s.n=true)(h:bk P ops K rest (s.put (some d) r)) :
  bk P ops K (⟨some d,.call ⟨.value g,l.toArray,az⟩,ty,pos,after,guard⟩::rest) s :=
 r0 hw (.call f _ r ⟨⟨_,g,rfl,rfl,.inr ⟨cs,aw,by rw[List.toList_toArray,aX,sL,List.map_map];rfl⟩⟩,E.h⟩ hp) (mh hd) h
theorem YG{fn:Fn}{x:Operand}{a:bH}{jX:Value}(hw:want ops ⟨some d,.makeFunc fn #[x] #[],ty,pos,after,guard⟩ s=some true)(ab:s.look x=some (.w a))(jH:nz a=some jX)(hd:Nat.blt d s.n=true)(h:bk P ops K rest (s.put (some d) (aR (.func fn #[jX] #[])))):bk P ops K (⟨some d,.makeFunc fn #[x] #[],ty,pos,after,guard⟩::rest) s:=by
 refine fJ (av:=aR (.func fn #[jX] #[])) hw ⟨fun _ _ h=>(by cases h),fun z aT => ?_,fun U ad W env he=>⟨.func fn #[jX] #[],?_,⟨rfl,rfl⟩⟩,fun j af=>absurd af (gS _ j)⟩ hd h
 ·simp[Op.operands] at aT;subst aT;exact⟨_,ab⟩
 ·have aI:env x=jX:=AX (he x (by simp[Op.operands]) _ ab) jH;have em:(#[x]:Array Operand).map env = #[jX]:=by simp[aI]
  simp only[execOp,em,Array.map_empty,Instr.makeFunc,Sem.run_bind,Sem.run_pure,Result.andThen_ok]
theorem NF{f:FuncId}{g:Operand}{az:Array TypeId}{r:ag} [E:Enters P f](hw:want ops ⟨some d,.call ⟨.value g,#[],az⟩,ty,pos,after,guard⟩ s=some true)(aw:s.look g=some (aR (.func (.func f) #[] #[])))(hp:aP P f [] r)(hd:Nat.blt d s.n=true)(h:bk P ops K rest (s.put (some d) r)):bk P ops K (⟨some d,.call ⟨.value g,#[],az⟩,ty,pos,after,guard⟩::rest) s :=
 yd (l:=[]) hw aw rfl hp hd h
theorem H4{f:FuncId}{g:Operand}{az:Array TypeId}{db:Operand}{a1:ag}{r:ag} [E:Enters P f](hw:want ops ⟨some d,.call ⟨.value g,#[db],az⟩,ty,pos,after,guard⟩ s=some true)(aw:s.look g=some (aR (.func (.func f) #[] #[])))(h1:s.look db=some a1)(hp:aP P f [a1] r)(hd:Nat.blt d s.n=true)(h:bk P ops K rest (s.put (some d) r)):bk P ops K (⟨some d,.call ⟨.value g,#[db],az⟩,ty,pos,after,guard⟩::rest) s :=
 yd (l:=[db]) hw aw (by simp[h1]) hp hd h
theorem H5{f:FuncId}{g:Operand}{az:Array TypeId}{db di:Operand}{a1 a2:ag}{r:ag} [E:Enters P f](hw:want ops ⟨some d,.call ⟨.value g,#[db,di],az⟩,ty,pos,after,guard⟩ s=some true)(aw:s.look g=some (aR (.func (.func f) #[] #[])))(h1:s.look db=some a1)(h2:s.look di=some a2)(hp:aP P f [a1,a2] r)(hd:Nat.blt d s.n=true)(h:bk P ops K rest (s.put (some d) r)):bk P ops K (⟨some d,.call ⟨.value g,#[db,di],az⟩,ty,pos,after,guard⟩::rest) s :=
 yd (l:=[db,di]) hw aw (by simp[h1,h2]) hp hd h
theorem H6{f:FuncId}{g:Operand}{az:Array TypeId}{db di lj:Operand}{a1 a2 a3:ag}{r:ag} [E:Enters P f](hw:want ops ⟨some d,.call ⟨.value g,#[db,di,lj],az⟩,ty,pos,after,guard⟩ s=some true)(aw:s.look g=some (aR (.func (.func f) #[] #[])))(h1:s.look db=some a1)(h2:s.look di=some a2)(ar:s.look lj=some a3)(hp:aP P f [a1,a2,a3] r)(hd:Nat.blt d s.n=true)(h:bk P ops K rest (s.put (some d) r)):bk P ops K (⟨some d,.call ⟨.value g,#[db,di,lj],az⟩,ty,pos,after,guard⟩::rest) s :=
 yd (l:=[db,di,lj]) hw aw (by simp[h1,h2,ar]) hp hd h
theorem NG{f:FuncId}{g:Operand}{az:Array TypeId}{db di lj n3:Operand}{a1 a2 a3 a4:ag}{r:ag} [E:Enters P f](hw:want ops ⟨some d,.call ⟨.value g,#[db,di,lj,n3],az⟩,ty,pos,after,guard⟩ s=some true)(aw:s.look g=some (aR (.func (.func f) #[] #[])))(h1:s.look db=some a1)(h2:s.look di=some a2)(ar:s.look lj=some a3)(aJ:s.look n3=some a4)(hp:aP P f [a1,a2,a3,a4] r)(hd:Nat.blt d s.n=true)(h:bk P ops K rest (s.put (some d) r)):bk P ops K (⟨some d,.call ⟨.value g,#[db,di,lj,n3],az⟩,ty,pos,after,guard⟩::rest) s :=
 yd (l:=[db,di,lj,n3]) hw aw (by simp[h1,h2,ar,aJ]) hp hd h
theorem NH{f:FuncId}{g:Operand}{az:Array TypeId}{db di lj n3 vV:Operand}{a1 a2 a3 a4 a5:ag}{r:ag} [E:Enters P f](hw:want ops ⟨some d,.call ⟨.value g,#[db,di,lj,n3,vV],az⟩,ty,pos,after,guard⟩ s=some true)(aw:s.look g=some (aR (.func (.func f) #[] #[])))(h1:s.look db=some a1)(h2:s.look di=some a2)(ar:s.look lj=some a3)(aJ:s.look n3=some a4)(bO:s.look vV=some a5)(hp:aP P f [a1,a2,a3,a4,a5] r)(hd:Nat.blt d s.n=true)(h:bk P ops K rest (s.put (some d) r)):bk P ops K (⟨some d,.call ⟨.value g,#[db,di,lj,n3,vV],az⟩,ty,pos,after,guard⟩::rest) s :=
 yd (l:=[db,di,lj,n3,vV]) hw aw (by simp[h1,h2,ar,aJ,bO]) hp hd h
def r3(ps:List (Nat×Nat)):List AC→List (Nat×bH)→Option (List AC)
 | cs,[]=>some cs
 | cs,(i,z)::rest=>match ps[i]? with
  | some (off,size)=>bif Nat.beq size z.cells.length then match qB cs off z.cells with
    | some r=>r3 ps r rest
    | none=>none
   else none
  | none=>none
def oV(look:Operand→Option ag):List (Nat×Operand)→Option (List (Nat×bH))
 | []=>some []
 | (i,x)::rest=>match look x,oV look rest with
  | some (.w z),some r=>some ((i,z)::r)
  | _,_=>none
theorem Pm(off:Nat):∀(zs:List Value) (k:Nat) (oM:Array Value),off+k+zs.length≤oM.size→((zs.zipIdx k).foldl (fun cs (c,j)=>cs.setIfInBounds (off+j) c) oM).toList=oM.toList.take (off+k)++zs++oM.toList.drop (off+k+zs.length)
 | [],k,oM,_=>by simp
 | z::zs,k,oM,h=>by
  simp only[List.zipIdx_cons,uc];rw[Pm off zs (k+1) _ (by simp at h ⊢;omega)];have e:=list_seg_step oM.toList (off+k) z zs (by simp at h ⊢;omega);simpa [Array.toList_setIfInBounds,oF] using e
theorem A2{U:Nat→Prop}{ad:Nat→Nat}{W:World}{ps:List (Nat×Nat)}{place:Nat→Option (Nat×Nat)}(hp:∀i q,ps[i]?=some q→place i=some q){look:Operand→Option ag}{env:Operand→Value}:∀(parts:List (Nat×Operand)) (cs:List AC) (vs:List Value) (zs:List (Nat×bH)) (r:List AC),bS U ad W cs vs→oV look parts=some zs→(∀p∈parts,∀a,look p.2=some a→cS U ad W a (env p.2))→r3 ps cs zs=some r →
  ∃us:List Value,Instr.fill place vs.toArray (parts.map fun p=>(p.1,env p.2))=some us.toArray∧bS U ad W r us
 | [],cs,vs,zs,r,al,aT,_,aa=>by cases aT;cases aa;exact⟨vs,rfl,al⟩
 | (i,x)::parts,cs,vs,zs,r,al,aT,he,aa=>by
  simp only[oV] at aT
  split at aT
  ·rename_i z Dl ab ap;cases aT;simp only[r3] at aa
   split at aa
   ·rename_i off size vl;cases yz:Nat.beq size z.cells.length with
    | false=>rw[yz] at aa;cases aa
    | true =>
     rw[yz] at aa;simp only[cond_true] at aa
     split at aa
     ·rename_i au w6;have aT:gZ U ad W z (env x):=he (i,x) (by simp) _ ab;have ql:=aT.cells;obtain⟨q1,q2⟩:=CC _ _ _ _ w6;have hs:=gp yz;have Qq:(env x).cells.size=z.cells.length:=by have:=ql.1;simp at this;exact this.symm
      have Fu:=al.1;have nK:=al.eP ql off q1;rw[q2] at nK;obtain⟨us,g1,g2⟩:=A2 hp parts au _ Dl r nK ap (fun p mY=>he p (by simp[mY])) aa;refine⟨us,?_,g2⟩;simp only[hY,Instr.fill,hp i _ vl];rw[if_neg (by simp[Qq,hs];omega)];rw[←g1];congr 1;apply Array.ext';have:=Pm off (env x).cells.toList 0 vs.toArray (by simp[Qq];omega);rw[←Array.foldl_toList,Array.toList_zipIdx];simpa using this
     ·cases aa
   ·cases aa
  ·cases aT
theorem KW{look:Operand→Option ag}:∀(parts:List (Nat×Operand)) (zs:List (Nat×bH)),oV look parts=some zs→∀p∈parts,∃z,look p.2=some (.w z)∧(p.1,z)∈zs
 | [],_,_,p,hp=>by cases hp
 | (i,x)::parts,zs,h,p,hp=>by
  simp only[oV] at h
  split at h
  ·rename_i z Dl ab ap;cases h;rcases fg.1 hp with rfl|hp
   ·exact⟨z,ab,by simp⟩
   ·obtain⟨ame,h1,h2⟩:=KW parts Dl ap p hp;exact⟨ame,h1,by simp[h2]⟩
  ·cases h
theorem R5{look:Operand→Option ag}:∀(parts:List (Nat×Operand)) (zs:List (Nat×bH)),oV look parts=some zs→∀q∈zs,∃p∈parts,look p.2=some (.w q.2)
 | [],_,h,q,aj=>by cases h;cases aj
 | (i,x)::parts,zs,h,q,aj=>by
  simp only[oV] at h
  split at h
  ·rename_i z Dl ab ap;cases h;rcases fg.1 aj with rfl|aj
   ·exact⟨(i,x),by simp,ab⟩
   ·obtain⟨p,h1,h2⟩:=R5 parts Dl ap q aj;exact⟨p,by simp[h1],h2⟩
  ·cases h
theorem ajo{cs ds r:List AC}{off:Nat}(h:qB cs off ds=some r):∀x∈r,x∈cs∨x∈ds:=by
 obtain⟨_,rfl⟩:=CC _ _ _ _ h;intro x ab;unfold eP at ab;simp only[kh] at ab;rcases ab with (h1|h1)|h1
 ·exact .inl (o5 h1)
 ·exact .inr h1
 ·exact .inl (oE h1)
theorem Oe{ps:List (Nat×Nat)}:∀(zs:List (Nat×bH)) (cs r:List AC),r3 ps cs zs=some r→∀x∈r,x∈cs∨∃q∈zs,x∈q.2.cells
 | [],cs,r,h,x,ab=>by cases h;exact .inl ab
 | (i,z)::zs,cs,r,h,x,ab=>by
  simp only[r3] at h
  split at h
  ·rename_i off size vl;cases yz:Nat.beq size z.cells.length with
   | false=>rw[yz] at h;cases h
   | true =>
    rw[yz] at h;simp only[cond_true] at h
    split at h
    ·rename_i au w6;rcases Oe zs au r h x ab with h1|⟨q,h1,h2⟩
     ·rcases ajo w6 x h1 with h2|h2
      ·exact .inl h2
      ·exact .inr ⟨(i,z),by simp,h2⟩
     ·exact .inr ⟨q,by simp[h1],h2⟩
    ·cases h
  ·cases h
theorem U6{α β:Type}{f:α→Sem β}{W:World}:∀(l:List α) (vs:List β),l.length=vs.length→(∀(i:Nat) x v,l[i]?=some x→vs[i]?=some v→(f x).run P W = .ok v W)→(l.mapM f).run P W = .ok vs W
 | [],[],_,_=>rfl
 | [],_::_,h,_=>by cases h
 | _::_,[],h,_=>by cases h
 | x::l,v::vs,al,h=>by
  have aF:=h 0 x v rfl rfl;have cg:=U6 l vs (by simpa using al) (fun i x v ab hv=>h (i+1) x v (by simpa using ab) (by simpa using hv));rw[List.mapM_cons];simp only[Sem.run_bind,aF,Result.andThen_ok,cg];rfl
theorem Sa{α β:Type}{f:α→Option β}:∀(l:List α) (vs:List β),l.mapM f=some vs→l.length=vs.length∧∀(i:Nat) x v,l[i]?=some x→vs[i]?=some v→f x=some v
 | [],vs,h=>by cases h;exact⟨rfl,fun i x v ab=>by simp at ab⟩
 | a::l,vs,h=>by
  rw[List.mapM_cons] at h;cases aX:f a with
  | none=>rw[aX] at h;cases h
  | some b =>
   rw[aX] at h;cases al:l.mapM f with
   | none=>rw[al] at h;cases h
   | some bs =>
    rw[al] at h;cases h;obtain⟨h1,h2⟩:=Sa l bs al;refine⟨by simp[h1],fun i x v ab hv => ?_⟩;cases i with
    | zero=>simp at ab hv;subst ab;subst hv;exact aX
    | succ i=>exact h2 i x v (by simpa using ab) (by simpa using hv)
theorem Yk{t:Nat}{parts:List (Nat×Operand)}{vs:List Value}{ps:List (Nat×Nat)}{zs:List (Nat×bH)}{r:List AC} [Z:DR P t vs] [L:Nc P t ps](hw:want ops ⟨some d,.build t parts.toArray,ty,pos,after,guard⟩ s=some true)(aT:oV s.look parts=some zs)(aa:r3 ps (vs.map .c) zs=some r)(h1:(vs.all fun v=>v.oneCell')=true)(hd:Nat.blt d s.n=true)(h:bk P ops K rest (s.put (some d) (.w (.agg r)))):bk P ops K (⟨some d,.build t parts.toArray,ty,pos,after,guard⟩::rest) s:=by
 refine fJ (av := .w (.agg r)) hw ⟨fun _ _ h=>(by cases h),fun z BR => ?_,fun U ad W env he => ?_,fun j af => ?_⟩ hd h
 ·simp only[Op.operands,List.mem_toArray,fV] at BR;obtain⟨p,hp,rfl⟩:=BR;obtain⟨z,h1,_⟩:=KW parts zs aT p hp;exact⟨_,h1⟩
 ·have ec:=Z.h;have dn:=L.h;unfold zeroOf at ec;unfold GA at dn;cases hi:P.info? t with
  | none=>rw[hi] at ec;cases ec
  | some i =>
   rw[hi] at ec;simp only[k6] at ec;cases iK:i.zero with
   | none=>rw[iK] at ec;cases ec
   | some z =>
    rw[iK] at ec;cases ec
    split at dn
    ·rename_i bo hu;obtain⟨m1,m2⟩:=Sa _ _ dn;have tL:(zeroValue t).run P W = .ok z W:=by simp[zeroValue,typeInfo,program,Sem.run_bind,Sem.run,hi,Result.andThen,iK]
     have nI:(bo.mapM fun f=>(do pure (f.offset,←sizeOf f.type):Sem (Nat×Nat))).run P W = .ok ps.toArray W:=by
      rw[Array.mapM_eq_mapM_toList]
      have:=U6 (P:=P) (W:=W) (f:=fun f:Field=>(do pure (f.offset,←sizeOf f.type):Sem (Nat×Nat))) bo.toList ps m1 (fun j x v ab hv=>by
       have:=m2 j x v ab hv;cases JW:P.info? x.type with
       | none=>rw[JW] at this;cases this
       | some eJ =>
        rw[JW] at this;cases this;simp only[Sem.run_bind,h5 JW,Result.andThen_ok,Sem.run_pure])
      simp only[map_eq_pure_bind,Sem.run_bind,this,Result.andThen_ok,Sem.run_pure]
     have hP:bS U ad W (z.cells.toList.map .c) z.cells.toList:=⟨by simp,fun j x v ab hv=>by
      rw[dD,hv] at ab;cases ab;exact⟨rfl,b4.1 h1 v (cP hv)⟩⟩
     obtain⟨us,g1,g2⟩:=A2 (U:=U) (ad:=ad) (W:=W) (ps:=ps) (place:=fun i=>ps.toArray[i]?) (fun i q h=>by simpa using h) (look:=s.look) (env:=env) parts _ _ zs r hP aT (fun p hp a aX=>he p.2 (by simp only[Op.operands,List.mem_toArray,fV];exact⟨p,hp,rfl⟩) a aX) aa;refine⟨.agg us.toArray,?_,us,rfl,g2⟩;have vj:(parts.toArray.map fun(i,x)=>(i,env x)).toList=parts.map fun p=>(p.1,env p.2):=by simp
     have BS:z.cells.toList.toArray=z.cells:=by simp
     rw[BS] at g1;simp only[execOp,Instr.build,Sem.run_bind,tL,Result.andThen_ok,run_underlying hu,nI,vj,g1,Sem.run_pure]
    ·rename_i n el hu;have tL:(zeroValue t).run P W = .ok z W:=by simp[zeroValue,typeInfo,program,Sem.run_bind,Sem.run,hi,Result.andThen,iK]
     have hP:bS U ad W (z.cells.toList.map .c) z.cells.toList:=⟨by simp,fun j x v ab hv=>by
      rw[dD,hv] at ab;cases ab;exact⟨rfl,b4.1 h1 v (cP hv)⟩⟩
     cases aA:Nat.ble n 32 with
     | false=>rw[aA] at dn;cases dn
     | true =>
      rw[aA] at dn;simp only[cond_true] at dn;cases JV:P.info? el with
      | none=>rw[JV] at dn;cases dn
      | some eJ =>
       rw[JV] at dn;simp only[hk,jd] at dn
       obtain⟨us,g1,g2⟩:=A2 (U:=U) (ad:=ad) (W:=W) (ps:=ps) (place:=fun i=>some (i*eJ.size,eJ.size)) (fun i q h=>by
        rw[←dn,dD] at h;rcases iv i n with bc|iX
        ·rw[bF (by simpa using bc)] at h;simpa using h
        ·rw[qC (by simpa using iX)] at h;cases h) (look:=s.look) (env:=env) parts _ _ zs r hP aT (fun p hp a aX=>he p.2 (by simp only[Op.operands,List.mem_toArray,fV];exact⟨p,hp,rfl⟩) a aX) aa
       refine⟨.agg us.toArray,?_,us,rfl,g2⟩;have vj:(parts.toArray.map fun(i,x)=>(i,env x)).toList=parts.map fun p=>(p.1,env p.2):=by simp
       have BS:z.cells.toList.toArray=z.cells:=by simp
       rw[BS] at g1;simp only[execOp,Instr.build,Sem.run_bind,tL,Result.andThen_ok,run_underlying hu,h5 JV,vj,g1,Sem.run_pure]
    ·cases dn
 ·obtain⟨y,ai,nM⟩:=af;rcases Oe zs _ r aa y ai with h2|⟨q,h2,ar⟩
  ·obtain⟨v,_,rfl⟩:=fV.1 h2;cases nM
  ·obtain⟨p,hp,al⟩:=R5 parts zs aT q h2;exact⟨p.2,by simp only[Op.operands,List.mem_toArray,fV];exact⟨p,hp,rfl⟩,_,al,⟨y,ar,nM⟩⟩
theorem ND{Io:Builtin}{az:Array TypeId}{x y:Operand}{jX fN v:Value}(hw:want ops ⟨some d,.call ⟨.builtin Io,#[x,y],az⟩,ty,pos,after,guard⟩ s=some true)(ab:s.look x=some (aR jX))(ai:s.look y=some (aR fN))(ap:∀cs W,(builtin Io az ty cs #[jX,fN]).run P W = .ok (.value v) W)(h1:v.oneCell'=true)(hd:Nat.blt d s.n=true)(h:bk P ops K rest (s.put (some d) (aR v))):bk P ops K (⟨some d,.call ⟨.builtin Io,#[x,y],az⟩,ty,pos,after,guard⟩::rest) s:=by
 refine fJ (av:=aR v) hw ⟨fun _ _ h=>(by cases h),fun z aT => ?_,fun U ad W env he=>⟨v,?_,⟨rfl,h1⟩⟩,fun j af=>absurd af (gS v j)⟩ hd h
 ·simp[Op.operands,Call.operands] at aT;rcases aT with rfl|rfl
  ·exact⟨_,ab⟩
  ·exact⟨_,ai⟩
 ·have aI:env x=jX:=(he x (by simp[Op.operands,Call.operands]) _ ab).1;have aO:env y=fN:=(he y (by simp[Op.operands,Call.operands]) _ ai).1;have em:(#[x,y]:Array Operand).map env = #[jX,fN]:=by simp[aI,aO]
  simp only[execOp,resolve,em,Sem.run_bind,Sem.run_pure,Result.andThen_ok,invoke,ap]
theorem YF{az:Array TypeId}{x y:Operand}{k:IntKind}{a b:Int}(hw:want ops ⟨some d,.call ⟨.builtin .min,#[x,y],az⟩,ty,pos,after,guard⟩ s=some true)(ab:s.look x=some (aR (.int k a)))(ai:s.look y=some (aR (.int k b)))(hd:Nat.blt d s.n=true)(h:bk P ops K rest (s.put (some d) (aR (.int k (if b<a then b else a))))):bk P ops K (⟨some d,.call ⟨.builtin .min,#[x,y],az⟩,ty,pos,after,guard⟩::rest) s :=
 ND hw ab ai (fun cs W=>by go_simp;all_goals (first|rfl|(split <;> omega))) rfl hd h
theorem YE{az:Array TypeId}{x y:Operand}{k:IntKind}{a b:Int}(hw:want ops ⟨some d,.call ⟨.builtin .max,#[x,y],az⟩,ty,pos,after,guard⟩ s=some true)(ab:s.look x=some (aR (.int k a)))(ai:s.look y=some (aR (.int k b)))(hd:Nat.blt d s.n=true)(h:bk P ops K rest (s.put (some d) (aR (.int k (if b>a then b else a))))):bk P ops K (⟨some d,.call ⟨.builtin .max,#[x,y],az⟩,ty,pos,after,guard⟩::rest) s :=
 ND hw ab ai (fun cs W=>by go_simp;all_goals (first|rfl|(split <;> omega))) rfl hd h
theorem Yl{t:Nat}{b:Bool}{l:List Oper}(hs:s.tmps t=some (bl b))(h1:b=true→bk P ops K l (s.put (some t) (bl true)))(aF:b=false→bk P ops K l (s.put (some t) (bl false))):bk P ops K l s:=by
 have same:∀c,b=c→s.put (some t) (bl c)=s:=fun c e=>by
  subst e;simp only[aB.put];congr 1;funext j
  by_cases af:j=t
  ·subst af;rw[bZ,hs]
  ·rw[bP _ _ af]
 cases b with
 | true=>rw[←same true rfl];exact h1 rfl
 | false=>rw[←same false rfl];exact aF rfl
end
theorem aM:([]:List ResultVar).map (gV P s)=([]:List bH).map some:=rfl
theorem bb{t:Nat}{x:bH}{l:List ResultVar}{xs:List bH}(h:s.tmps t=some (.w x))(al:l.map (gV P s)=xs.map some):(ResultVar.tmp t::l).map (gV P s)=(x::xs).map some:=by
 simp only[hY,al];rw[show gV P s (.tmp t)=some x by simp only[gV,h]]
theorem GL{a ty k off n:Nat} [T:e6 P ty false n]{cs:List AC}{y:AC}{l:List ResultVar}{xs:List bH}(h:s.tmps a=some (n1 k off))(hm:s.mem k=some cs)(ak:cs[off]?=some y)(al:l.map (gV P s)=xs.map some):(ResultVar.cell a ty::l).map (gV P s)=(.one y::xs).map some:=by
 simp only[hY,al];rw[show gV P s (.cell a ty)=some (.one y) by simp only[gV,h,hm,k6,VU T.h ak]]
theorem da{a ty k off n:Nat} [T:e6 P ty true n]{cs ys:List AC}{l:List ResultVar}{xs:List bH}(h:s.tmps a=some (n1 k off))(hm:s.mem k=some cs)(ak:takeN cs off n=some ys)(al:l.map (gV P s)=xs.map some):(ResultVar.cell a ty::l).map (gV P s)=(.agg ys::xs).map some:=by
 simp only[hY,al];rw[show gV P s (.cell a ty)=some (.agg ys) by simp only[gV,h,hm,k6,VT T.h ak]]
theorem bn{fn:Func}{l:List ResultVar}{xs:List bH}{r:ag}(ap:fn.results=l.toArray)(h:l.map (gV P s)=xs.map some)(hle:(packed xs).aW r):wx P fn r .ret s:=⟨xs,by rw[ap];exact h,hle⟩
theorem ai3{f:FuncId}{args:List ag}{r:ag}{km:List Value}(he:args.map (fun x=>match x with | .w y=>nz y|_=>none)=km.map some)(gE:∀x∈args,x.closed)(cm:r.closed)
  (h:∀W,Calls P f km.toArray W fun e W'=>∃v,e = .returned v∧(∀U,(∀b,W.heap.size≤b→U b)→cS U id W' r v)∧Below W.heap.size W W'):aP P f args r:=by
 refine⟨gE,cm,fun U W vs cJ => ?_⟩
 have e:vs=km:=by
  apply List.ext_getElem?;intro i;have al:=cJ.1;have iI:args.length=km.length:=by have:=congrArg List.length he;simpa using this
  rcases iv i args.length with hi|hi
  ·have h1:(args.map (fun x=>match x with | .w y=>nz y|_=>none))[i]?=(km.map some)[i]?:=by rw[he]
   rw[dD,dD,bF hi,bF (by omega:i<km.length)] at h1;simp only[hk,jd] at h1;rw[bF (by omega:i<vs.length),bF (by omega:i<km.length)];have h2:=cJ.2 i args[i] vs[i] (bF hi) (bF (by omega));cases ab:args[i] with
   | w y =>
    rw[ab] at h1 h2;rw[AX h2 h1]
   | cj xs=>rw[ab] at h1;cases h1
  ·rw[qC (by omega),qC (by omega)]
 subst e;refine(h W).mono ?_;rintro e W' ⟨v,h1,h2,ar⟩;exact⟨v,h1,h2 _ fun b aa => .inr aa,ar⟩
def AC.aV:AC→Bool
 | .own _ _=>false
 | _=>true
def bH.aV:bH→Bool
 | .one x=>x.aV
 | .agg xs=>xs.all AC.aV
def ag.aV:ag→Bool
 | .w x=>x.aV
 | .cj xs=>xs.all bH.aV
theorem AC.cU{x:AC}(h:x.aV=true)(j:Nat):¬x.owns j:=by cases x <;> simp_all [AC.aV,AC.owns]
theorem bH.cU{x:bH}(h:x.aV=true)(j:Nat):¬x.owns j:=by
 rintro⟨y,ai,af⟩;cases x with
 | one z=>simp[bH.cells] at ai;subst ai;exact AC.cU h j af
 | agg xs=>exact AC.cU (b4.1 h y ai) j af
theorem ag.cU{x:ag}(h:x.aV=true):x.closed:=fun j=>by
 cases x with
 | w y=>exact bH.cU h j
 | cj xs=>rintro⟨y,ai,af⟩;exact bH.cU (b4.1 h y ai) j af
theorem bq{f:FuncId}{fn:Func}{c:Code}{args:List ag}{r:ag}(ay:P.funcs[f]?=some fn)(aa:fn.body=some c)(aA:Nat.ble args.length fn.ntmps=true)(gE:args.all ag.aV=true)(cm:r.aV=true)
  (h:fF P c (wx P fn r) (start fn.ntmps args)):aP P f args r :=
 ai5 ay aa (by simpa [Nat.ble_eq] using aA) (fun x ab=>ag.cU (b4.1 gE x ab)) (ag.cU cm) h
theorem LB{f:FuncId}{fn:Func}{c:Code}{args:List ag}{r:ag}(ay:P.funcs[f]?=some fn)(aa:fn.body=some c)(aA:Nat.ble args.length fn.ntmps=true)(gE:args.all ag.aV=true)(cm:r.aV=true)
  (h:ux P c (wx P fn r) (start fn.ntmps args)):aP P f args r :=
 TN ay aa (by simpa [Nat.ble_eq] using aA) (fun x ab=>ag.cU (b4.1 gE x ab)) (ag.cU cm) h
theorem ai8{f:FuncId}{args:List ag}{r:ag}(km:List Value)(he:args.map (fun x=>match x with | .w y=>nz y|_=>none)=km.map some)(gE:args.all ag.aV=true)(cm:r.aV=true)
  (h:∀W,Calls P f km.toArray W fun e W'=>∃v,e = .returned v∧(∀U,(∀b,W.heap.size≤b→U b)→cS U id W' r v)∧Below W.heap.size W W'):aP P f args r :=
 ai3 he (fun x ab=>ag.cU (b4.1 gE x ab)) (ag.cU cm) h
theorem NW{next:aB→Prop}{Q:Exit→aB→Prop}(h:next s):td next Q .normal s:=h
theorem Ze{next:aB→Prop}{Q:Exit→aB→Prop}{id:Nat}(h:Q (.exit id) s):td next Q (.exit id) s:=h
theorem Zf{next:aB→Prop}{Q:Exit→aB→Prop}(h:Q .ret s):td next Q .ret s:=h
theorem X6{Q:Exit→aB→Prop}{id:Nat}(h:Q .normal s):yb id Q .normal s:=h
theorem X7{Q:Exit→aB→Prop}{id:Nat}(h:Q .ret s):yb id Q .ret s:=h
theorem X8{Q:Exit→aB→Prop}{id:Nat}(h:Q .normal s):yb id Q (.exit id) s:=by simp only[yb,qD,cond_true];exact h
theorem bU{dst:Option Nat}{op:Op}{ty:Nat}{pos:String}{after:Array Edge}{g t:Nat}{b N8 c:Bool}(hd:(ops[g]?).bind (·.dst)=some t)(hs:s.tmps t=some (bl N8))(aa:N8=c)
  (h1:bk P ops K (⟨dst,op,ty,pos,after,some (g,b)⟩::rest) (s.put (some t) (bl c))):bk P ops K (⟨dst,op,ty,pos,after,some (g,b)⟩::rest) s:=by
 subst aa;exact Yl hs (fun e=>by subst e;exact h1) (fun e=>by subst e;exact h1)
theorem NZ{c:Operand}{t u:Bool}{x y:Code}{Q:Exit→aB→Prop}(ak:s.look c=some (bl t))(aE:t=u)(h:fF P (bif u then x else y) Q s):fF P (.cond c x y) Q s:=by
 subst aE;cases t with
 | true=>exact N1 ak h
 | false=>exact N0 ak h
theorem Zi{c:Operand}{t:Bool}{x y:Code}{Q:Exit→aB→Prop}(ak:s.look c=some (bl t))(aE:t=true)(h:fF P x Q s):fF P (.cond c x y) Q s:=NZ ak aE h
theorem NY{c:Operand}{t:Bool}{x y:Code}{Q:Exit→aB→Prop}(ak:s.look c=some (bl t))(aE:t=false)(h:fF P y Q s):fF P (.cond c x y) Q s:=NZ ak aE h
end
abbrev bm(x y:Int):ag := .w (.agg [.c (.int .i64 x),.c (.int .i64 y)])
def I4(w:World):AC→Value→Nat→Prop
 | .p R,x,b=>R.lv w x b
 | _,_,_=>False
theorem Aq(a:Addr)(m j:Nat):(a.add m).add j=a.add (m+j):=by
 unfold Addr.add
 by_cases h1:m=0 <;> by_cases h2:j=0 <;> simp[h1,h2,oF]
theorem block_add(a:Addr)(m:Nat):(a.add m).block=a.block:=by unfold Addr.add;split <;> rfl
structure ln (w:World) (a:Addr) (xs:List AC) (vs:List Value):Prop where
 lt:a.block<w.heap.size
 pM:bS (fun _=>True) id w xs vs
 at_:∀(j:Nat) v,vs[j]?=some v→w.cell? (a.add j)=some v
 hb:∀y∈xs,y.aV=true
def nB(w:World)(a:Addr)(xs:List AC)(b:Nat):Prop:=a.block=b∨∃(j:Nat) (y:AC) (v:Value),xs[j]?=some y∧w.cell? (a.add j)=some v∧I4 w y v b
theorem ln.frame{w w':World}{a:Addr}{xs:List AC}{vs:List Value}(h:ln w a xs vs)(ay:∀b,nB w a xs b→w'.heap[b]?=w.heap[b]?):ln w' a xs vs∧∀b,nB w' a xs b→nB w a xs b:=by
 have aa:w'.heap[a.block]?=w.heap[a.block]?:=ay _ (.inl rfl);have ak:∀j,w'.cell? (a.add j)=w.cell? (a.add j):=fun j=>World.cell?_of_block (w:=w) (by rw[block_add];exact aa)
 have key:∀(j:Nat) (y:AC) (v:Value),xs[j]?=some y→w.cell? (a.add j)=some v→gb (fun _=>True) id w y v→gb (fun _=>True) id w' y v∧∀b,I4 w' y v b→I4 w y v b:=by
  intro j y v ai hv ap;cases y with
  | c u=>exact⟨ap,fun b h=>h⟩
  | own k o=>exact⟨ap,fun b h=>h⟩
  | p R =>
   have:=R.frame w w' v ap.1 fun b aa=>ay b (.inr ⟨j,_,v,ai,hv,aa⟩);exact⟨⟨this.1,fun _ _=>trivial⟩,this.2⟩
 refine⟨⟨?_,⟨h.pM.1,fun i y v ai hv=>(key i y v ai (h.at_ i v hv) (h.pM.2 i y v ai hv)).1⟩,fun j v hv=>by rw[ak];exact h.at_ j v hv,h.hb⟩,?_⟩
 ·have bO:=Array.getElem?_eq_getElem h.lt;exact(iN.1 (aa.trans bO)).1
 ·rintro b (h1|⟨j,y,v,ai,hv,fK⟩)
  ·exact .inl h1
  ·rw[ak] at hv;have bc:j<vs.length:=by rw[←h.pM.1];exact(bt.1 ai).1
   have h2:=h.at_ j _ (bF bc);rw[hv] at h2;cases h2;exact .inr ⟨j,y,_,ai,hv,(key j y _ ai hv (h.pM.2 j y _ ai (bF bc))).2 b fK⟩
theorem ln.iZ{w:World}{a:Addr}{xs:List AC}{vs:List Value}{b:Nat}(h:ln w a xs vs)(ay:nB w a xs b):b<w.heap.size:=by
 rcases ay with rfl|⟨j,y,v,ai,hv,fK⟩
 ·exact h.lt
 ·have bc:j<vs.length:=by rw[←h.pM.1];exact(bt.1 ai).1
  have h2:=h.at_ j _ (bF bc);rw[hv] at h2;cases h2;have:=h.pM.2 j y _ ai (bF bc);cases y with
  | c u=>cases fK
  | own k o=>cases fK
  | p R=>exact R.iZ _ _ _ this.1 fK
theorem ln.sub{w:World}{a:Addr}{xs:List AC}{vs:List Value}(h:ln w a xs vs)(off n:Nat):ln w (a.add off) ((xs.drop off).take n) ((vs.drop off).take n):=by
 refine⟨by rw[block_add];exact h.lt,h.pM.sub off n,fun j v hv => ?_,fun y ai=>h.hb y (oE (o5 ai))⟩;rw[Aq]
 have af:j<n:=by
  have:=(bt.1 hv).1;simp at this;omega
 rw[gq af,gU] at hv;exact h.at_ _ v hv
theorem nB.sub{w:World}{a:Addr}{xs:List AC}{off n b:Nat}(h:nB w (a.add off) ((xs.drop off).take n) b):nB w a xs b:=by
 rcases h with h|⟨j,y,v,ai,hv,fK⟩
 ·rw[block_add] at h;exact .inl h
 ·rw[Aq] at hv
  have af:j<n:=by
   have:=(bt.1 ai).1;simp at this;omega
  rw[gq af,gU] at ai;exact .inr ⟨_,y,v,ai,hv,fK⟩
theorem ln.xB{w:World}{a:Addr}{xs:List AC}{vs:List Value}{U:Nat→Prop}{ad:Nat→Nat}(h:ln w a xs vs)(cQ:∀b,nB w a xs b→U b):bS U ad w xs vs:=by
 refine⟨h.pM.1,fun i y v ai hv => ?_⟩;have h1:=h.pM.2 i y v ai hv;have h2:=h.hb y (cP ai);cases y with
 | c u=>exact h1
 | own k o=>cases h2
 | p R=>exact⟨h1.1,fun b aa=>cQ b (.inr ⟨i,_,v,ai,h.at_ i v hv,aa⟩)⟩
def n5(xs:List AC):dS where
 holds w v:=∃a vs,v = .pointer (some a)∧ln w a xs vs
 lv w v b:=∃a,v = .pointer (some a)∧nB w a xs b
 frame w w' v:=by
  rintro⟨a,vs,rfl,h⟩ ay;obtain⟨h1,h2⟩:=h.frame fun b aa=>ay b ⟨a,rfl,aa⟩;exact⟨⟨a,vs,rfl,h1⟩,fun b ⟨a',e,aa⟩=>by cases e;exact⟨a,rfl,h2 b aa⟩⟩
 iZ w v b:=by
  rintro⟨a,vs,rfl,h⟩ ⟨a',e,aa⟩;cases e;exact h.iZ aa
 cell w v:=by rintro⟨a,vs,rfl,h⟩;rfl
def b6(sz n:Nat)(xs:List AC):dS where
 holds w v:=∃A c,v = .slice A n c∧n≤c∧xs.length=n*sz∧(0<n→∃a vs,A=some a∧ln w a xs vs)
 lv w v b:=∃c a,v = .slice (some a) n c∧0<n∧nB w a xs b
 frame w w' v:=by
  rintro⟨A,c,rfl,ak,al,h⟩ ay;refine⟨⟨A,c,rfl,ak,al,fun aA => ?_⟩,?_⟩
  ·obtain⟨a,vs,rfl,aK⟩:=h aA;exact⟨a,vs,rfl,(aK.frame fun b aa=>ay b ⟨c,a,rfl,aA,aa⟩).1⟩
  ·rintro b ⟨c',a',e,aA,aa⟩;cases e;obtain⟨a,vs,e,aK⟩:=h aA;cases e;exact⟨c,a',rfl,aA,(aK.frame fun b aa=>ay b ⟨c,a',rfl,aA,aa⟩).2 b aa⟩
 iZ w v b:=by
  rintro⟨A,c,rfl,ak,al,h⟩ ⟨c',a',e,aA,aa⟩;cases e;obtain⟨a,vs,e,aK⟩:=h aA;cases e;exact aK.iZ aa
 cell w v:=by rintro⟨A,c,rfl,_⟩;rfl
abbrev cG(sz n:Nat)(xs:List AC):ag := .w (.one (.p (b6 sz n xs)))
abbrev xR(xs:List AC):ag := .w (.one (.p (n5 xs)))
theorem kH(R:dS)(j:Nat):¬(ag.w (.one (.p R))).owns j:=fun⟨y,ai,h⟩=>by simp[bH.cells] at ai;subst ai;cases h
section
variable{P:Program}{s:aB}{o:Oper}{ops:Array Oper}{K:aB→Prop}{rest:List Oper}{op:Op}{ty:Nat}{pos:String}{after:Array Edge}{guard:Option (Nat×Bool)}{d:Nat}
theorem H7{av:ag}(hw:want ops ⟨some d,op,ty,pos,after,guard⟩ s=some true)(aj:xX P s.look ⟨some d,op,ty,pos,after,guard⟩ av)(hd:Nat.blt d s.n=true)(h:bk P ops K rest (s.put (some d) av)):bk P ops K (⟨some d,op,ty,pos,after,guard⟩::rest) s :=
 r0 (e:=⟨av,none⟩) hw (.fresh av aj) (mh hd) h
theorem nm{t sz:Nat}(h:uo P t=some sz):∃e i,P.underlying t=some (.slice e)∧P.info? e=some i∧i.size=sz:=by
 unfold uo at h
 split at h
 ·rename_i e hu;cases hi:P.info? e with
  | none=>rw[hi] at h;cases h
  | some i=>rw[hi] at h;cases h;exact⟨e,i,hu,hi,rfl⟩
 ·cases h
theorem j3{t e:Nat}(h:P.underlying t=some (.slice e)):P.elem t=e:=by simp[Program.elem,h]
theorem rZ{t sz alz n:Nat}{xs:List AC}{x:Operand} [S:hM P t alz](hw:want ops ⟨some d,.call ⟨.builtin .len,#[x],#[t]⟩,ty,pos,after,guard⟩ s=some true)(ab:s.look x=some (cG sz n xs))(hd:Nat.blt d s.n=true)
  (h:bk P ops K rest (s.put (some d) (aL n))):bk P ops K (⟨some d,.call ⟨.builtin .len,#[x],#[t]⟩,ty,pos,after,guard⟩::rest) s:=by
 refine fJ (av:=aL n) hw ⟨fun _ _ h=>(by cases h),fun y ai => ?_,fun U ad W env he=>⟨.int .i64 n,?_,rfl,rfl⟩,fun j af=>absurd af (gS _ j)⟩ hd h
 ·simp[Op.operands,Call.operands] at ai;subst ai;exact⟨_,ab⟩
 ·obtain⟨⟨A,c,aI,_⟩,_⟩:=he x (by simp[Op.operands,Call.operands]) _ ab;obtain⟨e,i,hu,hi,_⟩:=nm S.h;have eZ:P.underlying t=some (.slice (P.elem t)):=by rw[j3 hu];exact hu
  have em:(#[x]:Array Operand).map env = #[.slice A n c]:=by simp[aI]
  simp only[execOp,resolve,em,Sem.run_bind,Sem.run_pure,Result.andThen_ok,invoke,builtin];rw[run_len_slice W t ty A n c eZ];rfl
theorem Au{x y:Operand}{t sz n:Nat}{gO:IntKind}{i:Int}{xs ys:List AC} [S:hM P t sz](hw:want ops ⟨some d,.indexAddr t x y,ty,pos,after,guard⟩ s=some true)(ab:s.look x=some (cG sz n xs))(ai:s.look y=some (aR (.int gO i)))(aF:0≤i)(h1:i<n)
  (he:(xs.drop (i.toNat*sz)).take sz=ys) (hd:Nat.blt d s.n=true) (h:bk P ops K rest (s.put (some d) (xR ys))):bk P ops K (⟨some d,.indexAddr t x y,ty,pos,after,guard⟩::rest) s:=by
 subst he;refine fJ hw ⟨fun _ _ h=>(by cases h),fun z aT => ?_,fun U ad W env he => ?_,fun j af=>absurd af (kH _ j)⟩ hd h
 ·simp[Op.operands] at aT;rcases aT with rfl|rfl
  ·exact⟨_,ab⟩
  ·exact⟨_,ai⟩
 ·obtain⟨⟨A,c,aI,ak,al,cp⟩,cQ⟩:=he x (by simp[Op.operands]) _ ab;have hi:env y = .int gO i:=(he y (by simp[Op.operands]) _ ai).1;obtain⟨e,eJ,hu,b7,hs⟩:=nm S.h;obtain⟨a,vs,rfl,dp⟩:=cp (by omega);refine⟨.pointer (some (a.add (i.toNat*sz))),?_,⟨_,_,rfl,dp.sub _ _⟩,?_⟩
  ·simp only[execOp,Instr.indexAt,aI,hi,asIntOf,Sem.run_bind,Sem.run_pure,Result.andThen_ok,run_underlying hu,h5 b7,if_pos (And.intro aF h1),hs]
  ·rintro b ⟨a',e,aa⟩;cases e;exact cQ b ⟨c,a,aI,by omega,aa.sub⟩
theorem NJ{x:Operand}{rJ i jr:Nat}{xs:List AC} [F:oK P rJ i jr](hw:want ops ⟨some d,.fieldAddr rJ x i,ty,pos,after,guard⟩ s=some true)(ab:s.look x=some (xR xs))(hd:Nat.blt d s.n=true)(h:bk P ops K rest (s.put (some d) (xR (xs.drop jr)))):bk P ops K (⟨some d,.fieldAddr rJ x i,ty,pos,after,guard⟩::rest) s:=by
 refine fJ hw ⟨fun _ _ h=>(by cases h),fun y ai => ?_,fun U ad W env he => ?_,fun j af=>absurd af (kH _ j)⟩ hd h
 ·simp[Op.operands] at ai;subst ai;exact⟨_,ab⟩
 ·obtain⟨⟨a,vs,aI,dp⟩,cQ⟩:=he x (by simp[Op.operands]) _ ab;have hF:=F.h;unfold uX at hF
  split at hF
  ·rename_i bo hu;cases ay:bo[i]? with
   | none=>rw[ay] at hF;cases hF
   | some f =>
    rw[ay] at hF;simp only[k6] at hF;cases hi:P.info? f.type with
    | none=>rw[hi] at hF;cases hF
    | some t =>
     rw[hi] at hF;simp only[k6] at hF
     split at hF
     ·cases hF
     ·rename_i cr;cases hF;have yS:=dp.sub f.offset xs.length;rw[gB (by simp),gB (by have:=dp.pM.1;simp;omega)] at yS;refine⟨.pointer (some (a.add f.offset)),?_,⟨_,_,rfl,yS⟩,?_⟩
      ·simp only[execOp,Instr.fieldAt,aI,Instr.sureAddr,Sem.run_bind,Sem.run_pure,Result.andThen_ok,run_underlying hu,ay,fieldPlace,h5 hi,if_neg cr]
      ·rintro b ⟨a',e,aa⟩;cases e;refine cQ b ⟨a,aI,nB.sub (off:=f.offset) (n:=xs.length) ?_⟩;rw[gB (by simp)];exact aa
  ·cases hF
theorem ye{x:Operand}{lt n:Nat}{xs:List AC}{y:AC} [T:e6 P lt false n](hw:want ops ⟨some d,.load lt x,ty,pos,after,guard⟩ s=some true)(ab:s.look x=some (xR xs))(ak:xs[0]?=some y)(cq:y.aV=true)(hd:Nat.blt d s.n=true)(h:bk P ops K rest (s.put (some d) (.w (.one y)))):bk P ops K (⟨some d,.load lt x,ty,pos,after,guard⟩::rest) s:=by
 refine fJ hw ⟨fun _ _ h=>(by cases h),fun y ai => ?_,fun U ad W env he => ?_,fun j af => ?_⟩ hd h
 ·simp[Op.operands] at ai;subst ai;exact⟨_,ab⟩
 ·obtain⟨⟨a,vs,aI,dp⟩,cQ⟩:=he x (by simp[Op.operands]) _ ab;have ap:=dp.xB (U:=U) (ad:=ad) fun b aa=>cQ b ⟨a,aI,aa⟩;have bc:0<vs.length:=by rw[←ap.1];exact(bt.1 ak).1
  have hv:=bF bc;refine⟨_,?_,ap.2 0 y _ ak hv⟩;have eS:=T.h;have pr:W.cell? a=some vs[0]:=dp.at_ 0 _ hv;unfold lL at eS;cases hu:P.underlying lt with
  | none=>rw[hu] at eS;cases eS
  | some D =>
   have key:(loadVar lt a).run P W = .ok vs[0] W:=by
    refine L1 hu (fun bo e => ?_) (fun m e' e => ?_) pr
    ·subst e;cases hi:P.info? lt with
     | none=>simp[hu,hi] at eS
     | some eJ=>simp[hu,hi] at eS
    ·subst e;cases hi:P.info? lt with
     | none=>simp[hu,hi] at eS
     | some eJ=>simp[hu,hi] at eS
   simp only[execOp,Instr.loadAt,aI,Instr.sureAddr,Sem.run_bind,Sem.run_pure,Result.andThen_ok,key]
 ·exact absurd af (ag.cU (x := .w (.one y)) cq j)
theorem H8{x:Operand}{lt n:Nat}{xs ys:List AC} [T:e6 P lt true n](hw:want ops ⟨some d,.load lt x,ty,pos,after,guard⟩ s=some true)(ab:s.look x=some (xR xs))(ak:takeN xs 0 n=some ys)(cq:(bH.agg ys).aV=true)(hd:Nat.blt d s.n=true)(h:bk P ops K rest (s.put (some d) (.w (.agg ys)))):bk P ops K (⟨some d,.load lt x,ty,pos,after,guard⟩::rest) s:=by
 refine fJ hw ⟨fun _ _ h=>(by cases h),fun y ai => ?_,fun U ad W env he => ?_,fun j af => ?_⟩ hd h
 ·simp[Op.operands] at ai;subst ai;exact⟨_,ab⟩
 ·obtain⟨⟨a,vs,aI,dp⟩,cQ⟩:=he x (by simp[Op.operands]) _ ab;obtain⟨q1,q2⟩:=Hb _ _ _ _ ak;have yS:=dp.sub 0 n;have ap:=yS.xB (U:=U) (ad:=ad) fun b aa=>cQ b ⟨a,aI,nB.sub aa⟩;rw[q2] at ap;have aX:a.add 0=a:=rfl;refine⟨.agg ((vs.drop 0).take n).toArray,?_,_,rfl,ap⟩;have eS:=T.h;unfold lL at eS;have hlen:((vs.drop 0).take n).length=n:=by have:=dp.pM.1;simp;omega
  have pr:=yS.at_;rw[aX] at pr;cases hu:P.underlying lt with
  | none=>rw[hu] at eS;cases eS
  | some D =>
   cases hi:P.info? lt with
   | none=>rw[hu,hi] at eS;cases D <;> cases eS
   | some eJ =>
    rw[hu,hi] at eS;have key:((∃bo,D = .struct bo)∨∃n e,D = .array n e)∧eJ.size=n:=by cases D <;> simp at eS <;> simp[eS]
    have:=L0 (P:=P) (w:=W) (A:=a) hu key.1 hi (by rw[hlen,key.2]) pr;simp only[execOp,Instr.loadAt,aI,Instr.sureAddr,Sem.run_bind,Sem.run_pure,Result.andThen_ok,this]
 ·exact absurd af (ag.cU (x := .w (.agg ys)) cq j)
def zB(P:Program)(t:TypeId):Option (List Value) :=
 match P.underlying t with
 | some (.slice e)=>zeroOf P e
 | _=>none
class n7 (P:Program) (t:TypeId) (vs:outParam (List Value)):Prop where
 h:zB P t=some vs
def jf(n sz:Nat)(vs:List Value):List AC:=(List.range (n*sz)).map fun j => .c (vs.toArray[j % vs.length]!)
def zh(n sz:Nat):List (Nat×Nat):=(List.range n).map fun i=>(i*sz,sz)
theorem Y7{w:World}{rH:List AC}{us:List Value}{ty:TypeId}{U:Nat→Prop}{ad:Nat→Nat}(h:bS U ad w rH us)(cq:∀y∈rH,y.aV=true):ln (w.alloc (.cells us.toArray ty)) ⟨w.heap.size,0,none⟩ rH us:=by
 refine⟨by show w.heap.size<(w.heap.push _).size;simp,⟨h.1,fun i y v ai hv => ?_⟩,fun j v hv => ?_,cq⟩
 ·refine(h.2 i y v ai hv).map (fun b aa al=>⟨trivial,Below.heap_alloc _ _ _ al⟩) fun j af => ?_;exact absurd af (AC.cU (cq y (cP ai)) j)
 ·have lX:(⟨w.heap.size,0,none⟩:Addr).add j=⟨w.heap.size,j,none⟩:=by unfold Addr.add;split <;> simp_all
  rw[lX];have:(w.alloc (.cells us.toArray ty)).heap[w.heap.size]?=some (.cells us.toArray ty (0,0)):=by show (w.heap.push _)[w.heap.size]?=_;simp
  simp only[World.cell?,this];simpa using hv
theorem Y8{w:World}{rH:List AC}{us:List Value}{ty:TypeId}{U:Nat→Prop}{ad:Nat→Nat}{b:Nat}(h:bS U ad w rH us)(ay:nB (w.alloc (.cells us.toArray ty)) ⟨w.heap.size,0,none⟩ rH b):U b∨w.heap.size≤b:=by
 rcases ay with rfl|⟨j,y,v,ai,hv,fK⟩
 ·exact .inr (cF _)
 ·have lX:(⟨w.heap.size,0,none⟩:Addr).add j=⟨w.heap.size,j,none⟩:=by unfold Addr.add;split <;> simp_all
  rw[lX] at hv;have:(w.alloc (.cells us.toArray ty)).heap[w.heap.size]?=some (.cells us.toArray ty (0,0)):=by show (w.heap.push _)[w.heap.size]?=_;simp
  simp only[World.cell?,this] at hv;have bT:us[j]?=some v:=by simpa using hv
  have ap:=h.2 j y v ai bT;cases y with
  | c u=>cases fK
  | own k o=>cases fK
  | p R =>
   refine .inl (ap.2 b ?_);exact(R.frame w _ v ap.1 fun cx cL=>Below.heap_alloc _ _ _ (R.iZ _ _ _ ap.1 cL)).2 b fK
theorem NE{t n sz:Nat}{parts:List (Nat×Operand)}{vs:List Value}{zs:List (Nat×bH)}{r:List AC} [S:hM P t sz] [Z:n7 P t vs](hw:want ops ⟨some d,.buildSlice t n parts.toArray,ty,pos,after,guard⟩ s=some true)(aT:oV s.look parts=some zs)(aa:r3 (zh n sz) (jf n sz vs) zs=some r)
  (h1:(vs.all fun v=>v.oneCell')=true) (hs:Nat.beq vs.length sz=true) (aF:Nat.blt 0 (n*sz)=true) (h2:Nat.ble (n*sz) 16777216=true) (ap:Nat.beq r.length (n*sz)=true) (cq:r.all AC.aV=true) (hd:Nat.blt d s.n=true) (h:bk P ops K rest (s.put (some d) (cG sz n r))):bk P ops K (⟨some d,.buildSlice t n parts.toArray,ty,pos,after,guard⟩::rest) s:=by
 refine H7 (av:=cG sz n r) hw ⟨fun z BR => ?_,fun j af=>kH _ j af,fun U ad W env he => ?_⟩ hd h
 ·simp only[Op.operands,List.mem_toArray,fV] at BR;obtain⟨p,hp,rfl⟩:=BR;obtain⟨z,h1,_⟩:=KW parts zs aT p hp;exact⟨_,h1⟩
 ·obtain⟨e,i,hu,hi,bL⟩:=nm S.h;have ec:=Z.h;unfold zB at ec;rw[hu] at ec;simp only at ec;unfold zeroOf at ec;rw[hi] at ec;simp only[k6] at ec;cases iK:i.zero with
  | none=>rw[iK] at ec;cases ec
  | some z =>
   rw[iK] at ec;cases ec;have hlen:z.cells.toList.length=sz:=gp hs;have A5:0<n*sz:=by simpa [k7] using aF
   have yu:n*sz≤16777216:=by simpa [Nat.ble_eq] using h2
   have FA:r.length=n*sz:=gp ap;have ra:∀y∈r,y.aV=true:=b4.1 cq;have tL:(zeroValue e).run P W = .ok z W:=by simp[zeroValue,typeInfo,program,Sem.run_bind,Sem.run,hi,Result.andThen,iK]
   have hP:bS U ad W (jf n sz z.cells.toList) ((List.range (n*sz)).map fun j=>z.cells[j % z.cells.size]!):=by
    refine⟨by simp[jf],fun j x v ab hv => ?_⟩;have af:j<n*sz:=by have:=(bt.1 hv).1;simpa using this
    simp only[jf,dD,xw af,hk,jd] at ab hv;subst ab;subst hv;have w8:z.cells.size=sz:=by simpa using hlen
    have Kh:0<sz:=Nat.pos_of_mul_pos_left A5 |> fun h=>by
     rcases xx sz with q|q
     ·rw[q] at A5;simp at A5
     ·exact q
    have bc:j % z.cells.size<z.cells.size:=Nat.mod_lt _ (by omega);have aO:z.cells.toList.toArray[j % z.cells.toList.length]! = z.cells[j % z.cells.size]! := by simp
    refine⟨aO.symm,?_⟩;rw[aO,getElem!_pos z.cells _ bc];exact b4.1 h1 _ (by simp)
   obtain⟨us,g1,g2⟩:=A2 (U:=U) (ad:=ad) (W:=W) (ps:=zh n sz) (place:=fun i=>some (i*sz,sz)) (fun i q aj=>by
     simp only[zh,dD] at aj;cases ap:(List.range n)[i]? with
     | none=>rw[ap] at aj;cases aj
     | some m =>
      rw[ap] at aj;cases aj;have:=bt.1 ap;obtain⟨ar,aJ⟩:=this;simp at aJ;rw[aJ]) (look:=s.look) (env:=env) parts _ _ zs r hP aT (fun p hp a aX=>he p.2 (by simp only[Op.operands,List.mem_toArray,fV];exact⟨p,hp,rfl⟩) a aX) aa
   refine⟨.slice (some ⟨W.heap.size,0,none⟩) n n,W.alloc (.cells us.toArray e),?_,⟨⟨some ⟨W.heap.size,0,none⟩,n,rfl,cF _,FA,fun aA=>⟨_,us,rfl,Y7 g2 ra⟩⟩,?_⟩,(Below.refl _ _).alloc (cF _) _⟩
   ·have vj:(parts.toArray.map fun(i,x)=>(i,env x)).toList=parts.map fun p=>(p.1,env p.2):=by simp
    have cf:(Array.range (n*sz)).map (fun j=>z.cells[j % z.cells.size]!)=((List.range (n*sz)).map fun j=>z.cells[j % z.cells.size]!).toArray:=by simp[←List.toArray_range]
    simp only[execOp,Instr.buildSlice,Sem.run_bind,run_underlying hu,Result.andThen_ok,h5 hi,bL];rw[if_neg (by omega),if_neg (by omega)];simp only[Sem.run_bind,Sem.run_pure,tL,Result.andThen_ok,cf,vj,g1,newRow,newObj,Sem.run];rfl
   ·rintro b ⟨c,a,e,aA,aa⟩;cases e;exact Y8 g2 aa
end
def gH{α:Type}:List (Nat×α)→Nat→Option α
 | [],_=>none
 | (k,v)::r,t=>bif Nat.beq t k then some v else gH r t
def en(n:Nat)(az:List (Nat×ag))(aS:List (Nat×List AC)):aB:=⟨n,gH az,gH aS⟩
def ia{α:Type}(f:Nat→Option α):List (Nat×α)→Prop
 | []=>True
 | (k,v)::r=>f k=some v∧ia f r
theorem Av{α:Type}{f:Nat→Option α}:∀(l:List (Nat×α)),ia f l→∀t v,gH l t=some v→f t=some v
 | [],_,t,v,h=>by cases h
 | (k,u)::r,aX,t,v,h=>by
  simp only[gH] at h;cases aa:Nat.beq t k with
  | true=>rw[aa] at h;cases h;rw[gp aa];exact aX.1
  | false=>rw[aa] at h;exact Av r aX.2 t v h
theorem rl{s:aB}{n:Nat}{az:List (Nat×ag)}{aS:List (Nat×List AC)}(aA:n=s.n)(aE:ia s.tmps az)(hm:ia s.mem aS):s.aW (en n az aS) :=
 ⟨aA,Av az aE,Av aS hm⟩
def FY{α:Type}(aS:List (Nat×α))(k:Nat):Bool:=aS.any fun p=>Nat.beq k p.1
def DW(aS:List (Nat×List AC)):AC→Bool
 | .own k _=>FY aS k
 | _=>true
def Zg(aS:List (Nat×List AC)):ag→Bool
 | .w x=>x.cells.all (DW aS)
 | .cj xs=>xs.all fun x=>x.cells.all (DW aS)
def okB(az:List (Nat×ag))(aS:List (Nat×List AC)):Bool:=az.all (fun p=>Zg aS p.2)&&aS.all fun p=>p.2.all (DW aS)
theorem RO{α:Type}{k:Nat}:∀(aS:List (Nat×α)),FY aS k=true→∃v,gH aS k=some v
 | [],h=>by cases h
 | (j,u)::r,h=>by
  simp only[FY,List.any_cons,pF] at h;simp only[gH];cases aa:Nat.beq k j with
  | true=>exact⟨u,rfl⟩
  | false=>rw[aa] at h;exact RO r (by simpa [FY] using h)
theorem Cb{α:Type}{k:Nat}{v:α}:∀(aS:List (Nat×α)),gH aS k=some v→(k,v)∈aS
 | [],h=>by cases h
 | (j,u)::r,h=>by
  simp only[gH] at h;cases aa:Nat.beq k j with
  | true=>rw[aa] at h;cases h;rw[gp aa];simp
  | false=>rw[aa] at h;exact k8 _ (Cb r h)
theorem H2{aS:List (Nat×List AC)}{x:AC}{j:Nat}(h:DW aS x=true)(af:x.owns j):∃cs,gH aS j=some cs:=by
 cases x with
 | c v=>cases af
 | p R=>cases af
 | own k o=>cases af;exact RO aS h
theorem rp{n:Nat}{az:List (Nat×ag)}{aS:List (Nat×List AC)}(h:okB az aS=true):(en n az aS).bR:=by
 unfold okB at h;rw[ef] at h;refine⟨fun t av j aE af => ?_,fun k cs x j ae ab af => ?_⟩
 ·have h1:=b4.1 h.1 _ (Cb az aE);cases av with
  | w x =>
   obtain⟨y,ai,nM⟩:=af;exact H2 (b4.1 h1 y ai) nM
  | cj xs =>
   obtain⟨z,aT,y,ai,nM⟩:=af;exact H2 (b4.1 (b4.1 h1 z aT) y ai) nM
 ·have h1:=b4.1 h.2 _ (Cb aS ae);exact H2 (b4.1 h1 x ab) af
section
variable{P:Program}{s:aB}{x:Code}
theorem qZ{Q:Exit→aB→Prop}(N:Nat)(I:Nat→List (Nat×ag)→List (Nat×List AC)→Prop)(k:Nat)(az:List (Nat×ag))(aS:List (Nat×List AC))(a7:I k az aS)(aA:N=s.n)(aE:ia s.tmps az)(hm:ia s.mem aS)(ok:okB az aS=true)
  (round:∀k az aS,I k az aS→okB az aS=true→fF P x (td (fun s'=>∃k' hI hz,k'<k∧I k' hI hz∧N=s'.n∧ia s'.tmps hI∧ia s'.mem hz∧okB hI hz=true) Q) (en N az aS)):fF P (.loop x) Q s:=by
 refine N3 (fun k s=>∃az aS,I k az aS∧okB az aS=true∧s=en N az aS) k (en N az aS) (rl aA aE hm) (rp ok) ⟨az,aS,a7,ok,rfl⟩ ?_;rintro k s ⟨az,aS,a7,ok,rfl⟩;intro bX B A ad a w an;refine rO (round k az aS a7 ok bX B A ad a w an) ?_;rintro e a' w' ⟨s',aU,xp,bw,aj⟩;refine⟨s',aU,xp,bw,?_⟩;cases e with
 | normal =>
  obtain⟨k',hI,hz,h1,h2,ar,aJ,bO,fl⟩:=aj;exact⟨k',h1,en N hI hz,rl ar aJ bO,rp fl,hI,hz,h2,fl,rfl⟩
 | _=>exact aj
def CO(P:Program)(x:Code)(Q:Exit→aB→Prop):Nat→aB→Prop
 | 0,_=>False
 | n+1,s=>fF P x (td (CO P x Q n) Q) s
theorem ajY{Q:Exit→aB→Prop}{n:Nat}(h:fF P x (td (CO P x Q n) Q) s):CO P x Q (n+1) s:=h
theorem Zj(n:Nat){Q:Exit→aB→Prop}(h:CO P x Q n s):fF P (.loop x) Q s:=by
 intro ok;refine N3 (fun k s=>s.bR∧CO P x Q k s) n s ⟨rfl,fun _ _ h=>h,fun _ _ h=>h⟩ ok ⟨ok,h⟩ ?_ ok;rintro k s ⟨ok,h⟩;cases k with
 | zero=>cases h
 | succ k =>
  intro bX B A ad a w an;refine rO (h bX B A ad a w an) ?_;rintro e a' w' ⟨s',aU,xp,bw,aj⟩;refine⟨s',aU,xp,bw,?_⟩;cases e with
  | normal=>exact⟨k,Nat.lt_succ_self k,s',⟨rfl,fun _ _ h=>h,fun _ _ h=>h⟩,xp,xp,aj⟩
  | _=>exact aj
end
structure Aa where
 v:Value
 n:Nat
 xs:List Value
section
variable{P:Program}{B eU:cW}{A b5:Nat→Prop}{s s':aB}{ad:Nat→Nat}{a:Act}{w w':World}
theorem Rel.pY(h:Rel B A s ad a w)(cQ:∀b,A b→b<w.heap.size→b5 b∧w'.heap[b]?=w.heap[b]?)(c9:∀k cs,s.mem k=some cs→w'.heap[ad k]?=w.heap[ad k]?∧¬eU.F (ad k))(po:eR eU w')(BO:∀b,eU.W.heap.size≤b→b5 b)(JA:uy eU s ad)(mm:eU.marks=B.marks:=by rfl):Rel eU b5 s ad a w':=by
 have PY:∀b,s.free A ad b→b<w.heap.size→s.free b5 ad b∧w'.heap[b]?=w.heap[b]?:=fun b aa al=>⟨⟨(cQ b aa.1 al).1,aa.2⟩,(cQ b aa.1 al).2⟩;refine⟨h.kG.trans mm.symm,h.size,fun t av aE => ?_,fun k cs ae => ?_,h.inj,po,BO,JA⟩
 ·obtain⟨v,h1,h2⟩:=h.dw t av aE;exact⟨v,h1,h2.map PY fun _ _=>rfl⟩
 ·obtain⟨vs,ty,h1,h2,ar⟩:=h.c5 k cs ae;exact⟨vs,ty,by rw[(c9 k cs ae).1];exact h1,h2.map PY fun _ _ _ _=>rfl,(c9 k cs ae).2⟩
theorem Rel.LR{d:Nat}{av bv:ag}(h:Rel B A s ad a w)(hd:s.tmps d=some bv)(hv:∀v,a.tmps[d]?=some v→cS (s.free A ad) ad w bv v→cS (s.free A ad) ad w av v):Rel B A (s.put (some d) av) ad a w:=by
 refine⟨h.kG,h.size,fun t cv aE => ?_,h.c5,h.inj,h.below,h.up,h.fQ⟩;simp only[aB.put] at aE
 by_cases e:t=d
 ·subst e;rw[bZ] at aE;cases aE;obtain⟨v,h1,h2⟩:=h.dw t bv hd;exact⟨v,h1,hv v h1 h2⟩
 ·rw[bP _ _ e] at aE;exact h.dw t cv aE
def ic(B:cW)(s:aB)(ad:Nat→Nat)(w:World):cW:=⟨w,fun b=>b<w.heap.size∧∀k cs,s.mem k=some cs→ad k≠b,fun _ h=>h.1,fun k=>if s.n≤k then some (ad k) else none,B.marks⟩
theorem lY{B:cW}(s:aB)(ad:Nat→Nat)(w:World):uy (ic B s ad w) s ad:=fun k b ae=>by
 simp only[ic] at ae
 split at ae
 ·rename_i h;exact⟨h,l3 ae⟩
 ·cases ae
theorem Za{aH:cW}{s s':aB}{ad aU:Nat→Nat}{w w':World}{A:Nat→Prop}{a':Act}(h:uy aH s ad)(bw:Rel (ic aH s ad w) A s' aU a' w'):uy aH s' aU:=fun k b ae=>by
 obtain⟨h1,h2⟩:=h k b ae;obtain⟨ar,aJ⟩:=bw.fQ k (ad k) (by simp[ic,h1]);exact⟨ar,aJ.trans h2⟩
theorem Rel.hot(h:Rel B A s ad a w)(BO:∀b,w.heap.size≤b→A b):Rel (ic B s ad w) A s ad a w :=
 h.pY (fun b h _=>⟨h,rfl⟩) (fun k cs ae=>⟨rfl,fun ay=>ay.2 k cs ae rfl⟩) (eR.refl _) BO (lY _ _ _)
theorem Tb{base:Nat}{e:TypeId}{sz:Nat}{v:Value}{n:Nat}{xs:List Value}(h:w.ownsRow base e sz v n xs)(aw:∀g,v.ownBlock=some g→w'.heap[g]?=w.heap[g]?):w'.ownsRow base e sz v n xs:=by
 refine⟨h.1,?_⟩;rcases h.2 with aA|⟨g,cap,cur,rfl,aa,sn,rest⟩
 ·exact .inl aA
 ·exact .inr ⟨g,cap,cur,rfl,aa,(aw g rfl).trans sn,rest⟩
end
def HE(aH:cW)(aN:Nat→Prop)(e sz:Nat)(t:Aa)(s:aB)(a:Act)(w:World):Prop :=
 ∃A ad,(∀b,A b→aN b)∧Rel (ic aH s ad w) A s ad a w∧(∀k cs,s.mem k=some cs→¬aH.F (ad k))∧eR aH w∧w.ownsRow aH.W.heap.size e sz t.v t.n t.xs∧(∀g,t.v.ownBlock=some g→¬A g∧∀k cs,s.mem k=some cs→ad k≠g)∧(∀u∈t.xs,u.oneCell'=true)∧uy aH s ad
def Xe(P:Program)(e sz:Nat)(c:Code)(Q:Exit→Aa→aB→Prop)(t:Aa)(s:aB):Prop :=
 s.bR→∀(aH:cW) aN a w,(∀b,aH.W.heap.size≤b→aN b)→HE aH aN e sz t s a w→lh P c (fun x a' w'=>∃l6 s',s'.bR∧HE aH aN e sz l6 s' a' w'∧Q x l6 s') a w
section
variable{P:Program}{e sz:Nat}{t:Aa}{s:aB}{Q:Exit→Aa→aB→Prop}{x y c:Code}
theorem amz{Q:Exit→aB→Prop}(e sz:Nat)(h:Xe P e sz c (fun x t s'=>∃d,s'.tmps d=some (aR t.v)∧Q x (s'.put (some d) (cG sz t.n (t.xs.map .c)))) ⟨.slice none 0 0,0,[]⟩ s):fF P c Q s:=by
 intro ok B A ad a w an;have ca:HE B A e sz ⟨.slice none 0 0,0,[]⟩ s a w:=⟨A,ad,fun _ h=>h,an.hot fun b h=>an.up b (eI an.below.size h),fun k cs ae=>(an.c5 k cs ae).choose_spec.choose_spec.2.2,an.below,World.ownsRow_nil w B.W.heap.size e sz,fun g aw=>(by cases aw),fun u hu=>(by cases hu),an.fQ⟩;refine rO (h ok B A a w an.up ca) ?_;rintro x a' w' ⟨l6,s',bX,⟨dj,eo,abK,tw,adF,mV,Fz,wT,adA,acg⟩,d,hd,aj⟩;refine⟨_,eo,bX.put fun j af=>absurd af (kH _ j),?_,aj⟩;have qe:Rel B A s' eo a' w':=tw.pY (fun b aa _=>⟨abK b aa,rfl⟩) (fun k cs ae=>⟨rfl,adF k cs ae⟩) mV an.up acg;refine qe.LR hd fun v jL nf => ?_;obtain⟨rfl,EY⟩:=nf;obtain⟨al,aA|⟨g,cap,cur,jI,pp,so,eN,j8,dp,ov⟩⟩:=Fz
 ·obtain⟨aI,aO⟩:=aA;rw[aI];exact⟨⟨none,0,by rw[aO],by omega,by simpa using al,fun h=>absurd h (by omega)⟩,fun b ⟨c',a',q,aA,aa⟩=>by cases q⟩
 ·have lC:∀(j:Nat) u,l6.xs[j]?=some u→w'.cell? ((⟨g,0,none⟩:Addr).add j)=some u:=World.ownsRow.cells ⟨al,.inr ⟨g,cap,cur,jI,pp,so,eN,j8,dp,ov⟩⟩ (by rw[jI];rfl);have sn:=(wT g (by rw[jI];rfl)).2;rw[jI];refine⟨⟨some ⟨g,0,none⟩,cap,rfl,eN,by simpa using al,fun aA=>⟨⟨g,0,none⟩,l6.xs,rfl,(iN.1 so).1,⟨by simp,fun i y v ai hv => ?_⟩,lC,fun y ai => ?_⟩⟩,?_⟩
  ·rw[dD,hv] at ai;cases ai;exact⟨rfl,adA v (cP hv)⟩
  ·obtain⟨v,_,rfl⟩:=fV.1 ai;rfl
  ·rintro b ⟨c',a',q,aA,ay⟩;cases q;rcases ay with rfl|⟨j,y,v,ai,hv,fK⟩
   ·exact⟨an.up _ pp,sn⟩
   ·rw[dD] at ai;cases l0:l6.xs[j]? with
    | none=>rw[l0] at ai;cases ai
    | some u=>rw[l0] at ai;cases ai;cases fK
theorem U2(w:World)(base:Nat)(t ty e:TypeId)(i:TypeInfo)(z:Value)(size bytes:Nat)(aE:P.underlying t=some (.slice e))(hi:P.info? e=some i)(aT:i.zero=some z)
  (iJ:i.size=size) (mj:i.bytes=bytes) (qm:z.cells.size=size) (bL:0<size)
  (v:Value) (n:Nat) (xs:List Value) (c9:w.ownsRow base e size v n xs)
  (a:Addr) (m c:Nat) (news:List Value) (al:news.length=m*size) (mn:∀j u,news[j]?=some u→w.cell? (a.add j)=some u) (h1:∀u∈news,u.oneCell'=true)
  (Jm:n+m≤maxLen) (JH:(n+m)*bytes≤140737488355328) (ic:base≤w.heap.size) (hm:0<m) :
  ∃bf w',(Builtin.append_ #[t,t] ty #[v,.slice (some a) m c]).run P w = .ok bf w'∧w'.ownsRow base e size bf (n+m) (xs++news)∧w.grownBy w' v.ownBlock∧(∀g,bf.ownBlock=some g→v.ownBlock=some g∨w.heap.size≤g)∧bf.oneCell'=true:=by
 obtain⟨bf,w',ap,h2,ar,aJ⟩:=run_append_own (P:=P) w base t ty e i z size bytes aE hi aT iJ mj qm bL v n xs c9 a m c news al mn h1 Jm JH ic;refine⟨bf,w',ap,h2,ar,?_,?_⟩
 ·have anA:n+m≤9223372036854775807:=by simp only[maxLen] at Jm;omega
  rcases c9.2 with ⟨rfl,rfl⟩|⟨g,cap,cur,rfl,pp,aw,eN,j8,dp,ov⟩
  ·have ab:xs=[]:=nj (by simpa using c9.1);subst ab;have:=run_append_nil (P:=P) w t ty e i z aE hi aT a m c news (by rw[iJ];exact al) mn hm (by omega) (by rw[mj];simp only[hZ] at JH;omega);rw[this] at ap;cases ap;intro g aw;simp[Value.ownBlock] at aw;exact .inr (by omega)
  ·by_cases ju:n+m≤cap
   ·have ky:n*i.size+news.length≤cur.size:=by rw[iJ,al,dp,←l4];exact iw _ ju
    have:=run_append_room (P:=P) w t ty e i aE hi g n cap cur aw a m c news (by rw[iJ];exact al) mn h1 ju ky;rw[this] at ap;cases ap;intro c4 dB;exact .inl dB
   ·have holds:∀j u,xs[j]?=some u→w.cell? ((⟨g,0,none⟩:Addr).add j)=some u:=c9.cells (g:=g) rfl;have:=run_append_grow (P:=P) w t ty e i z aE hi aT ⟨g,0,none⟩ n cap xs (by rw[iJ];exact c9.1) holds a m c news (by rw[iJ];exact al) mn (by omega) (by omega) (growslice_fits (by omega) (by rw[mj];exact JH));rw[this] at ap;cases ap;intro c4 dB;simp[Value.ownBlock] at dB;exact .inr (by omega)
 ·rcases h2.2 with ⟨rfl,_⟩|⟨g,cap,cur,rfl,_⟩ <;> rfl
theorem HZ{ro:Option Nat}{B:cW}{A:Nat→Prop}{ops:Array Oper}{K:aB→Prop}{Q:Exit→Act→World→Prop}{r:List Nat}(nC:∀s' aU a' w',s'.bR→Rel B A s' aU a' w'→K s'→wpOpsIn (me ro) 0 P ops Q r a' w'):∀(l:List Oper) (k:Nat) (s:aB) (ad:Nat→Nat) (a:Act) (w:World),(∀(j:Nat),j<l.length→l[j]?=ops[k+j]?)→s.bR→Rel B A s ad a w →
  bk P ops K l s→wpOpsIn (me ro) 0 P ops Q ((List.range l.length).map (k + ·)++r) a w
 | [],_,_,_,_,_,_,ok,an,h=>nC _ _ _ _ ok an h
 | o::l,k,s,ad,a,w,al,ok,an,h=>by
  have aF:ops[k]?=some o:=by simpa using (al 0 (by simp)).symm
  have e:(List.range (o::l).length).map (k + ·)=k::(List.range l.length).map (k+1 + ·):=by
   rw[hX,List.range_succ_eq_map,hY,List.map_map];congr 1;apply nV;intro j _;simp[oF,oG 1 j]
  rw[e,ud,wpOpsIn_cons];refine DU aF ok an h fun s' aU a' w' bX bw ae=>HZ nC l (k+1) s' aU a' w' (fun j af=>by have:=al (j+1) (by simp;omega);simpa [oF,oG 1 j] using this) bX bw ae
def xA(P:Program)(tt e sz bytes:Nat):Bool:=match P.underlying tt,P.info? e with
 | some (.slice e'),some i=>match i.zero with
  | some z=>Nat.beq e' e&&Nat.beq i.size sz&&Nat.beq i.bytes bytes&&Nat.beq z.cells.size sz&&Nat.blt 0 sz
  | none=>false
 | _,_=>false
class nw (P:Program) (tt:TypeId) (e sz bytes:outParam Nat):Prop where
 h:xA P tt e sz bytes=true
theorem sU{tt e sz bytes:Nat}(h:xA P tt e sz bytes=true):∃(i:TypeInfo) (z:Value),P.underlying tt=some (.slice e)∧P.info? e=some i∧i.zero=some z∧i.size=sz∧i.bytes=bytes∧z.cells.size=sz∧0<sz:=by
 unfold xA at h
 split at h
 ·rename_i e' i hu hi
  split at h
  ·rename_i z aT;simp only[ef] at h;obtain⟨⟨⟨⟨h1,h2⟩,ar⟩,aJ⟩,bO⟩:=h;rw[gp h1] at hu;exact⟨i,z,hu,hi,aT,gp h2,gp ar,gp aJ,by simpa [k7] using bO⟩
  ·cases h
 ·cases h
def AL:Nat→List Oper→Option (List Oper×List Oper)
 | 0,l=>some ([],l)
 | k+1,o::l=>match AL k l with
  | some (a,b)=>some (o::a,b)
  | none=>none
 | _+1,[]=>none
theorem Iz:∀(k:Nat) (l a b:List Oper),AL k l=some (a,b)→l=a++b
 | 0,l,a,b,h=>by cases h;rfl
 | k+1,[],a,b,h=>by cases h
 | k+1,o::l,a,b,h=>by
  simp only[AL] at h
  split at h
  ·rename_i a' cx ak;cases h;have:=Iz k l _ _ ak;rw[this];rfl
  ·cases h
end
end Go.Proofs.YtklpfooafbjnpaaGreat
