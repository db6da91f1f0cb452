/-
  My own texts,without what this claim does not need. My own text.
-/
import Derived.Deep.DrawnRows
import Derived.RegionTactic
import Derived.Deep.LoopGhost
import Derived.Deep.DeepCutAuto
import Derived.Test.YtklpfooafbjnpaaGreatProg
import Derived.ProofKit
import Derived.OpenShut
import Derived.Deep.DeepHandedRow
import Derived.Lib.LaidTab
import Derived.Lib.SmallJoins
import Derived.Test.YtklpfooafbjnpaaGreatSLPartsK8
set_option maxRecDepth 100000
set_option maxHeartbeats 64000000
set_option linter.unusedVariables false
set_option linter.unusedSimpArgs false
set_option linter.unusedSectionVars false
open Go.Proofs.Tryz renaming prog → ah
namespace Go.Proofs.YtklpfooafbjnpaaGreat
open Go.RowKit
def ih(w:World)(b:Nat)(u v x y:Value):Prop:=(w.cell? ⟨b,0,none⟩=some u∧w.cell? ⟨b,1,none⟩=some v∧w.cell? ⟨b,2,none⟩=some x∧w.cell? ⟨b,3,none⟩=some y)∧(w.frozen? ⟨b,0,none⟩=false∧w.frozen? ⟨b,1,none⟩=false∧w.frozen? ⟨b,2,none⟩=false∧w.frozen? ⟨b,3,none⟩=false)
section
variable{w W w1:World}{b g:Nat}{u v x y q:Value}
theorem ih.lt(h:ih w b u v x y):b<w.heap.size:=World.block_lt_of_cell? w _ h.1.1
theorem ih.call(h:ih W b u v x y)(aa:Below W.heap.size W w1):ih w1 b u v x y:=by
 have al:=h.lt;obtain⟨⟨h1,h2,ar,aK⟩,bD,cm,jB,lv⟩:=h;exact⟨⟨(aa.cell (p:=⟨b,0,none⟩) al).trans h1,(aa.cell (p:=⟨b,1,none⟩) al).trans h2,(aa.cell (p:=⟨b,2,none⟩) al).trans ar,(aa.cell (p:=⟨b,3,none⟩) al).trans aK⟩,(aa.frozen (p:=⟨b,0,none⟩) al).trans bD,(aa.frozen (p:=⟨b,1,none⟩) al).trans cm,(aa.frozen (p:=⟨b,2,none⟩) al).trans jB,(aa.frozen (p:=⟨b,3,none⟩) al).trans lv⟩
theorem ih.alloc(h:ih W b u v x y)(o:Obj):ih (W.alloc o) b u v x y:=h.call ((Below.refl _ _).alloc (cE _) o)
theorem ih.drew(h:ih W b u v x y):ih W.drew b u v x y:=h.call ((Below.refl _ _).drew)
theorem ih.new{t:TypeId}(e:b=W.heap.size):ih (W.alloc (.cells #[u,v,x,y] t)) b u v x y:=by
 subst e;unfold ih
 go_simp
theorem ih.set(h:ih W b u v x y)(o:Nat)(ne:g≠b):ih (W.setCell ⟨g,o,none⟩ q) b u v x y:=by
 obtain⟨⟨h1,h2,ar,aK⟩,bD,cm,jB,lv⟩:=h;have gJ:∀i,(⟨g,o,none⟩:Addr)≠⟨b,i,none⟩:=fun i e=>ne (congrArg Addr.block e);refine⟨⟨?_,?_,?_,?_⟩,?_,?_,?_,?_⟩
 ·rw[World.cell?_setCell_other _ _ _ _ (gJ 0)];exact h1
 ·rw[World.cell?_setCell_other _ _ _ _ (gJ 1)];exact h2
 ·rw[World.cell?_setCell_other _ _ _ _ (gJ 2)];exact ar
 ·rw[World.cell?_setCell_other _ _ _ _ (gJ 3)];exact aK
 ·go_simp
 ·go_simp
 ·go_simp
 ·go_simp
end
section
variable{W:World}{b:Nat}{u v x y rH ba:Value}
end
theorem aer(d:Int):decide (0<fm d 0)=decide (0<d):=by
 unfold fm;rw[o3];simp only[cT]
 repeat' split
 all_goals omega
end Go.Proofs.YtklpfooafbjnpaaGreat
namespace Go.Proofs.YtklpfooafbjnpaaGreat
open Go.RowKit
attribute [local go_sem ↓] Go.wp_at_zero Go.wp_at_succ
def oU(n d:Int):Int:=if n % d<d-n % d then n/d else n/d+1
theorem Sq{n d:Int}(aA:fits n=true)(hd:0<d)(Bn:fits d=true):fits (d-n % d)=true∧(d-n % d≤n % d→fits (n/d+1)=true):=by
 unfold fits at *;rw[cT] at aA Bn;have aE:=pC n (show d≠0 by omega);have h1:=o4 n hd;have h2:=rv n d;rw[cT,cT];refine⟨by omega,fun hle => ?_⟩;have yx:2≤d:=by omega
 have q1:n/d*2≤170141183460469231731687303715884105727 ∧ -170141183460469231731687303715884105728≤n/d:=by
  refine⟨?_,?_⟩
  ·rcases qy (n/d) 0 with q|q
   ·omega
   ·have:n/d*2≤n/d*d:=sM yx q;rw[k3 (n/d) d] at this;omega
  ·rcases qy (n/d) 0 with q|q
   ·have:d*(n/d+1)≤1*(n/d+1):=Int.mul_le_mul_of_nonpos_right (by omega) (by omega);rw[Int.mul_add] at this;omega
   ·omega
 omega
end Go.Proofs.YtklpfooafbjnpaaGreat
namespace Go.Proofs.YtklpfooafbjnpaaGreat
open Go.RowKit
attribute [local go_sem ↓] Go.wp_at_zero Go.wp_at_succ
end Go.Proofs.YtklpfooafbjnpaaGreat
namespace Go.Proofs.YtklpfooafbjnpaaGreat
open Go.RowKit
attribute [local go_sem ↓] Go.wp_at_zero Go.wp_at_succ
theorem ih.cs{w:World}{b:Nat}{u v x y:Value}(h:ih w b u v x y):w.cell? ⟨b,0,none⟩=some u∧w.cell? ⟨b,1,none⟩=some v∧w.cell? ⟨b,2,none⟩=some x∧w.cell? ⟨b,3,none⟩=some y:=h.1
def ng(n d:Int)(k:Nat):Int:=if k=0 then oU n d else oU (n/d) (2^k)
theorem TL{k:Nat}(h:k≤100):fits ((2:Int)^k)=true:=by
 have h1:=Nat.pow_le_pow_right (show 0<2 by decide) h;rw[show (2:Nat)^100=1267650600228229401496703205376 by decide] at h1;have h2:=(ajk k).1;have e:((2:Int)^k)=((2^k:Nat):Int):=by simp
 unfold fits;rw[e,cT];generalize (2:Nat)^k=P at *;omega
end Go.Proofs.YtklpfooafbjnpaaGreat
namespace Go.Proofs.YtklpfooafbjnpaaGreat
open Go.RowKit
attribute [local go_sem ↓] Go.wp_at_zero Go.wp_at_succ
end Go.Proofs.YtklpfooafbjnpaaGreat
namespace Go.Proofs.YtklpfooafbjnpaaGreat
open Go.RowKit
attribute [local go_sem ↓] Go.wp_at_zero Go.wp_at_succ
end Go.Proofs.YtklpfooafbjnpaaGreat
namespace Go.Proofs.YtklpfooafbjnpaaGreat
open Go.RowKit
attribute [local go_sem ↓] Go.wp_at_zero Go.wp_at_succ
section
variable{w W w1:World}{g cZ:Nat}{a b c d s t:Int}
end
end Go.Proofs.YtklpfooafbjnpaaGreat
namespace Go.Proofs.YtklpfooafbjnpaaGreat
open Go.RowKit
theorem xQ{z:Int}(h:fits z=true):wf z = .ck [om z,Mu]:=by
 show ag.ck [om (if fits z then z else 0),.one (.c (.bool (fits z)))]=_;rw[h];rfl
theorem Wb{z:Int}(h:fits z=false):wf z = .ck [om 0,.one (.c (.bool false))]:=by
 show ag.ck [om (if fits z then z else 0),.one (.c (.bool (fits z)))]=_;rw[h];rfl
theorem Q5(a b:Int):fm a b<0↔a<b:=by unfold fm;split <;> (try split) <;> omega
theorem Tr{n d:Int}(f:fits n=true)(g:fits d=true)(hd:0<d):aO ah 304 [gF n,gF d] (gF (oU n d)):=by
 obtain⟨fI,gD⟩:=Sq f hd g;have pf:=kR.1 f;have lM:=kR.1 g;have hy:=pC n (show d≠0 by omega);have cp:=o4 n hd;have uW:fits (n % d)=true:=kR.2 (by omega);have a7:=S8 f g hd;have bK:=TB g uW;have dZ:=aiZ uW fI;rw[xQ fI] at bK;unfold oU
 by_cases h:n % d<d-n % d
 ·have ar:fm (n % d) (d-n % d)<0:=(Q5 ..).2 h;have nr:oU n d=n/d:=by unfold oU;first|rw[if_pos h]|(split <;> omega)
  unfold oU at nr;rw[nr];generalize fm (n % d) (d-n % d)=c at *;generalize n/d=q at *;generalize n % d=r at *;clear nr fI gD pf lM hy cp uW f g;refine bo (f:=304) Tryz.func304 rfl rfl rfl rfl ?_;(refine cK ?_)
  ((refine bk rfl (c6 rfl rfl rfl aM) ?_))
  exact ag.aU.refl _
 ·have ar:¬fm (n % d) (d-n % d)<0:=fun aZ=>h ((Q5 ..).1 aZ);have nr:oU n d=n/d+1:=by unfold oU;first|rw[if_neg h]|(split <;> omega)
  unfold oU at nr;rw[nr];have f5:=gD (by omega)
  have Pk:fits (n/d)=true:=by
   have q1:=rv n d;have bX:=kR.1 f5;refine kR.2 ?_
   by_cases aA:0≤n
   ·have:=o5 aA (show 0≤d by omega);omega
   ·have fb:n*d≤n*1:=Int.mul_le_mul_of_nonpos_left (show n≤0 by omega) (show 1≤d by omega);have:=(pE (a:=n) (b:=n) hd).2 (by omega);omega
  have js:=vx (n:=1) (by decide) (by decide);have o9:=aiY Pk (show fits 1=true by decide);rw[xQ f5] at o9;generalize fm (n % d) (d-n % d)=c at *;generalize n/d=q at *;generalize n % d=r at *;clear nr fI gD pf lM hy cp uW f g Pk f5;refine bo (f:=304) Tryz.func304 rfl rfl rfl rfl ?_;(refine cK ?_)
  ((refine bk rfl (c6 rfl rfl rfl aM) ?_))
  exact ag.aU.refl _
abbrev EG(n d:Int):bF := .agg [.c (.int .i64 (cy n)),.c (.int .u64 (dT n)),.c (.int .i64 (cy d)),.c (.int .u64 (dT d))]
abbrev fv(n d:Int):ag := .w (EG n d)
abbrev fx(n d:Int):Value := .agg #[.int .i64 (cy n),.int .u64 (dT n),.int .i64 (cy d),.int .u64 (dT d)]
abbrev uu(n:Int):Value := .agg #[.int .i64 (cy n),.int .u64 (dT n)]
theorem Q4(d:Int):(d<0→fm d 0 = -1)∧(d=0→fm d 0=0)∧(0<d→fm d 0=1):=by unfold fm;refine⟨fun h => ?_,fun h => ?_,fun h => ?_⟩ <;> split <;> (try split) <;> omega
section
set_option maxRecDepth 100000
set_option maxHeartbeats 4000000
theorem Tf{k:Int}(aE : -9223372036854775808≤k)(h1:k<9223372036854775808):aO ah 244 [aL k] (fv k 1):=by
 have a7:=vx aE h1;have bK:=vx (n:=1) (by decide) (by decide);clear aE h1;refine bo (f:=244) Tryz.func244 rfl rfl rfl rfl ?_;(refine cK ?_)
 ((refine bk rfl (c6 rfl rfl rfl aM) ?_))
 exact ag.aU.refl _
theorem ahO{n d:Int}(f:fits n=true)(g:fits d=true)(hd:0<d):aO ah 247 [gF n,gF d] (.ck [EG n d,.one (.c (.bool true))]):=by
 have a7:=Gv g;rw[(Q4 d).2.2 hd] at a7;clear f g hd;refine bo (f:=247) Tryz.func247 rfl rfl rfl rfl ?_;(refine cK ?_)
 ((refine bk rfl (c6 rfl rfl rfl (aY rfl aM)) ?_))
 exact ag.aU.refl _
theorem ahN{n d:Int}(f:fits n=true)(g:fits d=true)(hd:d<0){s:Bool}{x y:Int}(hs:(fits (-n)&&fits (-d))=s)(ab:x=if s then -n else 0)(ai:y=if s then -d else 0):aO ah 247 [gF n,gF d] (.ck [EG x y,.one (.c (.bool s))]):=by
 have a7:=Gv g;rw[(Q4 d).1 hd] at a7;have bK:=TA f;have dZ:=TA g;subst hs;clear f g hd;cases h1:fits (-n) with
 | true =>
  rw[h1] at ab ai;cases h2:fits (-d) with
  | true =>
   rw[h2] at ab ai;rw[xQ h1] at bK;rw[xQ h2] at dZ;obtain rfl:x = -n:=ab;obtain rfl:y = -d:=ai;clear h1 h2;refine bo (f:=247) Tryz.func247 rfl rfl rfl rfl ?_;(refine cK ?_)
   ((refine bk rfl (c6 rfl rfl rfl (aY rfl aM)) ?_))
   exact ag.aU.refl _
  | false =>
   rw[h2] at ab ai;rw[xQ h1] at bK;rw[Wb h2] at dZ;obtain rfl:x=0:=ab;obtain rfl:y=0:=ai;clear h1 h2;refine bo (f:=247) Tryz.func247 rfl rfl rfl rfl ?_;(refine cK ?_)
   ((refine bk rfl (c6 rfl rfl rfl (aY rfl aM)) ?_))
   exact ag.aU.refl _
 | false =>
  rw[h1] at ab ai;rw[Wb h1] at bK;obtain rfl:x=0:=ab;obtain rfl:y=0:=ai;obtain⟨z,b,e⟩:∃z b,wf (-d) = .ck [om z,.one (.c (.bool b))]:=⟨_,_,rfl⟩;rw[e] at dZ;clear h1 e;refine bo (f:=247) Tryz.func247 rfl rfl rfl rfl ?_;(refine cK ?_)
  ((refine bk rfl (c6 rfl rfl rfl (aY rfl aM)) ?_))
  exact ag.aU.refl _
theorem Tb{n d:Int}(g:fits d=true):aO ah 303 [fv n d] (bl (decide (0<d))):=by
 have a7:=Gv g;rw[←aer d];generalize fm d 0=c at *;clear g;refine bo (f:=303) Tryz.func303 rfl rfl rfl rfl ?_;(refine cK ?_)
 ((refine bk rfl (aY rfl aM) ?_))
 exact ag.aU.refl _
theorem ahH{n d:Int}(f:fits n=true)(g:fits d=true)(hd:0<d):aO ah 306 [fv n d] (gF (n/d)):=by
 have a7:=S8 f g hd;clear f g hd;refine bo (f:=306) Tryz.func306 rfl rfl rfl rfl ?_;(refine cK ?_)
 ((refine bk rfl (c6 rfl rfl rfl aM) ?_))
 exact ag.aU.refl _
theorem I2{n d:Int}(f:fits n=true)(hd:0<d):fits (n/d)=true:=by
 have pf:=kR.1 f;refine kR.2 ?_
 by_cases aA:0≤n
 ·have:=o5 aA (show 0≤d by omega);have:=Int.ediv_le_self d aA;omega
 ·have fb:n*d≤n*1:=Int.mul_le_mul_of_nonpos_left (show n≤0 by omega) (show 1≤d by omega);have:=(pE (a:=n) (b:=n) hd).2 (by omega);have:=Int.ediv_lt_of_lt_mul (a:=n) (b:=0) hd (by omega);omega
theorem Pf{n d:Int}(aA:fits n=true)(hd:0<d)(Bn:fits d=true):fits (oU n d)=true:=by
 unfold oU
 split
 ·exact I2 aA hd
 ·exact(Sq aA hd Bn).2 (by omega)
theorem aaX{n d:Int}{k:Nat}(aA:fits n=true)(hd:0<d)(Bn:fits d=true)(ae:k≤100):fits (ng n d k)=true:=by
 unfold ng
 split
 ·exact Pf aA hd Bn
 ·exact Pf (I2 aA hd) (jo (by decide)) (TL ae)
theorem ait{n d:Int}{k:Nat}(f:fits n=true)(g:fits d=true)(hd:0<d)(ae:k≤100):aO ah 274 [fv n d,aL k] (.ck [om (ng n d k),.one (.c (.bool true))]):=by
 have a7:=Tb (n:=n) g;rw[b5 hd] at a7;unfold ng
 by_cases aE:k=0
 ·subst aE;have bK:=Tr f g hd;rw[if_pos rfl];clear f g hd;refine bo (f:=274) Tryz.func274 rfl rfl rfl rfl ?_;(refine cK ?_)
  ((refine bk rfl (c6 rfl rfl rfl (aY rfl aM)) ?_))
  exact ag.aU.refl _
 ·rw[if_neg aE];have hp:=TL ae;have bK:=vx (n:=1) (by decide) (by decide);have dZ:=ai0 (n:=1) (k:=(k:Int)) (by decide) (by omega) (by omega);rw[Int.one_mul,kI,xQ hp] at dZ;have js:=ahH f g hd;have o9:=Tr (I2 f hd) hp (jo (by decide));have h1:¬(k:Int)=0:=by omega
  have h2:¬(k:Int)<0:=by omega
  have ar:¬(k:Int)>100:=by omega
  clear f g hd hp;refine bo (f:=274) Tryz.func274 rfl rfl rfl rfl ?_;(refine cK ?_)
  ((refine bk rfl (c6 rfl rfl rfl (aY rfl aM)) ?_))
  exact ag.aU.refl _
theorem aiu{n d k:Int}(f:fits n=true)(g:fits d=true)(lr:¬(0<d)∨(k<0∨100<k)):aO ah 274 [fv n d,aL k] (.ck [.agg [.c (.int .i64 0),.c (.int .u64 0)],.one (.c (.bool false))]):=by
 have a7:=Tb (n:=n) g
 by_cases hd:0<d
 ·rw[b5 hd] at a7;have h1:k<0∨(¬k<0∧k>100):=by omega
  clear f g lr hd;rcases h1 with h1|⟨h1,h2⟩
  ·refine bo (f:=274) Tryz.func274 rfl rfl rfl rfl ?_;(repeat first|refine dc ?_|refine fw ?_|(with_reducible apply bR (c:=true));rfl;rfl;(exact b5 (by omega)))
   ((refine bk rfl (c6 rfl rfl rfl (aY rfl aM)) ?_))
   exact ag.aU.refl _
  ·refine bo (f:=274) Tryz.func274 rfl rfl rfl rfl ?_;(repeat first|refine dc ?_|refine fw ?_|(with_reducible apply bR (c:=false));rfl;rfl;(exact cc (by omega)))
   ((refine bk rfl (c6 rfl rfl rfl (aY rfl aM)) ?_))
   exact ag.aU.refl _
 ·rw[cc hd] at a7;clear f g lr hd;refine bo (f:=274) Tryz.func274 rfl rfl rfl rfl ?_;(refine cK ?_)
  ((refine bk rfl (c6 rfl rfl rfl (aY rfl aM)) ?_))
  exact ag.aU.refl _
end
theorem Sp{n d:Int}(hd:0<d):oU n d=(n+n+d)/(d*2):=by
 have h1:=rv n d;have h2:=pC n (show d≠0 by omega);have ar:=o4 n hd;unfold oU;generalize n/d=q at *;generalize n % d=r at *;have e:n+n+d=(r+r+d)+q*(d*2):=by rw[←h1,k3 q (d*2),k4,Int.mul_left_comm d 2 q];omega
 rw[e,Int.add_mul_ediv_right _ _ (by omega)]
 split
 ·rw[Int.ediv_eq_zero_of_lt (by omega) (by omega)];omega
 ·have:(r+r+d)/(d*2)=1:=by
   rw[show r+r+d=(r+r-d)+1*(d*2) by omega,Int.add_mul_ediv_right _ _ (by omega),Int.ediv_eq_zero_of_lt (by omega) (by omega)];omega
  rw[this];omega
theorem ald{n d:Int}(k:Nat)(hd:0<d):(n+n+d*2^k)/(d*2^(k+1))=ng n d k:=by
 unfold ng;rcases k with _|k
 ·rw[if_pos rfl,Sp hd];simp
 ·rw[if_neg (by omega),Sp (jo (by decide))];have hp:(0:Int)<2^k:=jo (by decide);rw[Int.pow_succ 2 (k+1),Int.pow_succ 2 k];generalize (2:Int)^k=Q at *
  have aH:(n+n+d*(Q*2))/(d*(Q*2*2))=(n+d*Q)/(d*(Q*2)):=by
   rw[show n+n+d*(Q*2)=2*(n+d*Q) by rw[k3 Q 2,Int.mul_left_comm];omega,show d*(Q*2*2)=2*(d*(Q*2)) by rw[k3 (Q*2) 2,Int.mul_left_comm],Int.mul_ediv_mul_of_pos _ _ (by decide)]
  have aN:(n/d+n/d+Q*2)/(Q*2*2)=(n/d+Q)/(Q*2):=by
   rw[show n/d+n/d+Q*2=2*(n/d+Q) by omega,k3 (Q*2) 2,Int.mul_ediv_mul_of_pos _ _ (by decide)]
  rw[aH,aN,←zk (by omega),k3 d Q,Int.add_mul_ediv_right _ _ (by omega)]
def hj(k:Int)(r:Nat):Prop:=r≤28∧((k<0∧r=0)∨(28<k∧r=28)∨(r:Int)=k)
theorem aeG(k:Int):∃r,hj k r:=by
 by_cases h:k<0
 ·exact⟨0,by omega,.inl ⟨h,rfl⟩⟩
 ·by_cases aJ:28<k
  ·exact⟨28,by omega,.inr (.inl ⟨aJ,rfl⟩)⟩
  ·exact⟨k.toNat,by omega,.inr (.inr (by omega))⟩
theorem xB{a b:Int}{w w':World}(e:a=b)(h:Below w.heap.size w w'):mF (.int .i64 b) w (.returned (.int .i64 a)) w':=⟨by rw[e],h⟩
theorem zu{a b:Bool}{w w':World}(e:a=b)(h:Below w.heap.size w w'):mF (.bool b) w (.returned (.bool a)) w':=⟨by rw[e],h⟩
theorem Cn(k:Int)(r:Nat)(w:World)(h:hj k r):Calls ah 165 #[.int .i64 k] w (mF (.int .i64 r) w):=by
 have qG:=Lib.hid h;clear h
 go_enter Tryz.func165,Tryz.ntmps165
 go_wp2
 all_goals
  go_ret
  refine xB ?_ (Below.refl _ _);have h1:=qG.out;unfold hj at h1;omega
theorem Wh(n:Int)(h : -9223372036854775808≤n∧n≤9223372036854775807):wrap64 n=n:=by unfold wrap64;omega
theorem LF{r:Nat}(h:r≤28):(1:Int)≤2^r∧(2:Int)^r≤268435456:=by
 have h1:=Nat.pow_le_pow_right (show 0<2 by decide) h;have h2:=Nat.pow_pos (show 0<2 by decide) (n:=r);have e:((2:Int)^r)=((2^r:Nat):Int):=by simp
 rw[show (2:Nat)^28=268435456 by decide] at h1;rw[e];omega
def ca(v:Int)(r:Nat):Int:=(2*v+2^r)/(2*2^r)
theorem abH(v:Int):ca v 0=v:=by unfold ca;omega
theorem abG(v:Int)(r:Nat):ca v (r+1)=v/2^(r+1)+v/2^r % 2:=by
 unfold ca;have hp:(0:Int)<2^r:=jo (by decide);rw[Int.pow_succ];generalize (2:Int)^r=P at *
 have aH:(2*v+P*2)/(2*(P*2))=(v+P)/(P*2):=by
  rw[show 2*v+P*2=2*(v+P) by omega,Int.mul_ediv_mul_of_pos _ _ (by decide)]
 rw[aH,←zk (by omega),←zk (by omega),show v+P=v+1*P by omega,Int.add_mul_ediv_right _ _ (by omega)];omega
theorem Zb(x:Int):bits BinOp.and IntKind.i64 x 1=x % 2:=by
 unfold bits
 have h:(BitVec.ofInt 64 x &&& BitVec.ofInt 64 1).toNat=(x % 2).toNat:=by
  rw[BitVec.toNat_and,BitVec.toNat_ofInt,BitVec.toNat_ofInt,show ((1:Int) % ((2^64:Nat):Int)).toNat=1 by decide,Nat.and_one_is_mod];omega
 show IntKind.i64.wrap ((BitVec.ofInt 64 x &&& BitVec.ofInt 64 1).toNat:Int)=x % 2;rw[h];have h2:((x % 2).toNat:Int)=x % 2:=by omega
 rw[h2];rcases (show x % 2=0∨x % 2=1 by omega) with e|e <;> rw[e] <;> decide
theorem ale{v:Int}(r:Nat)(v0 : -9223372036854775808≤v)(v1:v<9223372036854775808):wrap64 (v/2^(r+1)+v/2^r % 2)=ca v (r+1):=by
 rw[abG];refine Wh _ ?_;have hp:(0:Int)<2^r:=jo (by decide);rw[Int.pow_succ,←zk (by omega)]
 have h1 : -9223372036854775808≤v/2^r:=by
  rw[pE hp];have:=sM (show (1:Int)≤2^r by omega) (show (0:Int)≤9223372036854775808 by omega);omega
 have h2:v/2^r≤9223372036854775807:=by
  by_cases h:0≤v
  ·have:=Int.ediv_le_self (2^r) h;omega
  ·have:=Int.ediv_neg_of_neg_of_pos (show v<0 by omega) hp;omega
 generalize v/2^r=q at *;omega
theorem abj(v k:Int)(w:World)(h:hj k 0):Calls ah 106 #[.int .i64 v,.int .i64 k] w (mF (.int .i64 v) w):=by
 have qG:=Lib.hid (fun w=>Cn k 0 w h);clear h
 go_enter Tryz.func106,Tryz.ntmps106
 go_wp2_with (go_at_call 165;((with_reducible refine(qG.out _).mono ?_);rintro e w1 ⟨rfl,aa⟩))
 go_ret
 exact xB rfl (by(repeat first|with_reducible assumption))
theorem abi(v k:Int)(r:Nat)(w:World)(h:hj k (r+1))(v0 : -9223372036854775808≤v)(v1:v<9223372036854775808):Calls ah 106 #[.int .i64 v,.int .i64 k] w (mF (.int .i64 (ca v (r+1))) w):=by
 have qG:=Lib.hid (fun w=>Cn k (r+1) w h);have Dv:=Lib.hid (ale r v0 v1);have ao:r<28:=by unfold hj at h;omega
 clear h v0 v1
 go_enter Tryz.func106,Tryz.ntmps106
 go_wp2_with (go_at_call 165;((with_reducible refine(qG.out _).mono ?_);rintro e w1 ⟨rfl,aa⟩))
 go_region
 go_wp2
 go_ret
 exact xB (by rw[Zb];exact Dv.out) (by(repeat first|with_reducible assumption|with_reducible refine Below.drew ?_))
theorem abh(v k:Int)(r:Nat)(w:World)(h:hj k r)(v0 : -9223372036854775808≤v)(v1:v<9223372036854775808):Calls ah 106 #[.int .i64 v,.int .i64 k] w (mF (.int .i64 (ca v r)) w):=by
 rcases r with _|r
 ·rw[abH];exact abj v k w h
 ·exact abi v k r w h v0 v1
theorem amd{r:Nat}(h:r≤28):wrap64 (2^r)=2^r:=Wh _ (by have:=LF h;omega)
theorem ak0(k:Int)(r:Nat)(w:World)(h:hj k r):Calls ah 252 #[.int .i64 k] w (mF (.int .i64 (2^r)) w):=by
 have qG:=Lib.hid (fun w=>Cn k r w h);have ao:r≤28:=h.1;clear h
 go_enter Tryz.func252,Tryz.ntmps252
 go_wp2_with (go_at_call 165;((with_reducible refine(qG.out _).mono ?_);rintro e w1 ⟨rfl,aa⟩))
 go_ret
 exact xB (amd ao) (by(repeat first|with_reducible assumption))
def XB(m:Int)(w:World)(e:Ending)(w':World):Prop:=∃b,e = .returned (.func (Fn.func 253) #[] #[.pointer (some ⟨b,0,none⟩)])∧w'.cell? ⟨b,0,none⟩=some (.int .i64 m)∧Below w.heap.size w w'
theorem SB(k:Int)(r:Nat)(w:World)(h:hj k r):Calls ah 202 #[.int .i64 k] w (XB (134217728/2^r) w):=by
 have qG:=Lib.hid (fun w=>Cn k r w h);have ao:r≤28:=h.1;clear h
 go_enter Tryz.func202,Tryz.ntmps202
 go_wp2_with (go_at_call 165;((with_reducible refine(qG.out _).mono ?_);rintro e w1 ⟨rfl,aa⟩))
 go_ret
 exact⟨_,rfl,by go_simp,by(repeat first|with_reducible assumption|with_reducible refine e8 ?_ _)⟩
def wi(m n:Int):Bool:=decide (-m≤n)&&decide (n≤m)
theorem Gb(b:Nat)(m n:Int)(w:World)(ak:w.cell? ⟨b,0,none⟩=some (.int .i64 m))(m0:0≤m)(m1:m≤134217728):Calls ah 253 #[.int .i64 n,.pointer (some ⟨b,0,none⟩)] w (mF (.bool (wi m n)) w):=by
 go_enter Tryz.func253,Tryz.ntmps253
 go_wp2
 ·go_ret
  exact zu (by unfold wi;rw[b5 (show -m≤n by assumption)];rfl) (Below.refl _ _)
 ·go_ret
  exact zu (by unfold wi;rw[cc (show ¬(-m≤n) by omega)];rfl) (Below.refl _ _)
def dX(r:Nat)(x y:Int):Bool:=wi (134217728/2^r) x&&wi (134217728/2^r) y
theorem EF(r:Nat):(0:Int)≤134217728/2^r∧(134217728:Int)/2^r≤134217728:=by
 have hp:(0:Int)<2^r:=jo (by decide);exact⟨o5 (by decide) (by omega),Int.ediv_le_self _ (by decide)⟩
theorem Wc(r:Nat)(n:Int):wi (134217728/2^r) n=decide (-134217728≤2^r*n∧2^r*n≤134217728):=by
 have hp:(0:Int)<2^r:=jo (by decide);unfold wi;rw[o3,eg,cT,cT,cT,k3];generalize (2:Int)^r=P at *;have h1:=pE (a:=n) (b:=134217728) hp;have h2:=pE (a := -n) (b:=134217728) hp;rw[Int.neg_mul] at h2
 constructor
 ·intro ⟨q1,q2⟩;exact⟨by have:=h2.1 (by omega);omega,h1.1 q2⟩
 ·intro ⟨q1,q2⟩;exact⟨by have:=h2.2 (by omega);omega,h1.2 q2⟩
theorem FL(r:Nat)(x y:Int):dX r x y=true↔(-134217728≤2^r*x∧2^r*x≤134217728)∧(-134217728≤2^r*y∧2^r*y≤134217728):=by
 unfold dX;rw[Wc,Wc,eg,cT,cT]
theorem Xf(x y k:Int)(r:Nat)(w:World)(h:hj k r):Calls ah 145 #[.agg #[.int .i64 x,.int .i64 y],.int .i64 k] w (mF (.bool (dX r x y)) w):=by
 have qG:=Lib.hid (fun w=>SB k r w h);obtain⟨m0,m1⟩:=EF r;have M3:=Lib.hid (show dX r x y=(wi (134217728/2^r) x&&wi (134217728/2^r) y) from rfl);clear h;generalize (134217728:Int)/2^r=M at *;have zZ:=Lib.hid m0;have z1:=Lib.hid m1;clear m0 m1
 go_enter Tryz.func145,Tryz.ntmps145
 go_wp2_with (first
  | (go_at_call 202;((with_reducible refine(qG.out _).mono ?_);rintro e w1 ⟨b,rfl,ak,aa⟩;have Wv:e2 w1 (w.heap.size) (.int .i64 x) (.int .i64 y):=(by(repeat first|focus ((with_reducible refine e2.new ?_);simp;done)|with_reducible refine e2.call ?_ aa));obtain⟨⟨amG,amQ⟩,am4,am8⟩:=id Wv))
  | (go_at_call 253;((with_reducible refine(Gb b M x _ ak zZ.out z1.out).mono ?_);rintro e w2 ⟨rfl,lO⟩;have gA:=(lO.cell (p:=⟨b,0,none⟩) (World.block_lt_of_cell? _ _ ak)).trans ak;clear ak;have Ww:e2 w2 (w.heap.size) (.int .i64 x) (.int .i64 y):=(by(repeat first|with_reducible assumption|with_reducible refine e2.call ?_ lO));obtain⟨⟨amH,amR⟩,am5,am9⟩:=id Ww))
  | (go_at_call 253;((with_reducible refine(Gb b M y _ gA zZ.out z1.out).mono ?_);rintro e w3 ⟨rfl,JD⟩)))
 ·go_ret
  exact zu (by rw[M3.out];simp_all) (by(repeat first|with_reducible exact Below.refl _ _|with_reducible refine e8 ?_ _|with_reducible refine hk ?_ JD|with_reducible refine hk ?_ lO|with_reducible refine hk ?_ aa))
 ·go_ret
  exact zu (by rw[M3.out];simp_all) (by(repeat first|with_reducible exact Below.refl _ _|with_reducible refine e8 ?_ _|with_reducible refine hk ?_ lO|with_reducible refine hk ?_ aa))
theorem abg(k:Int)(w:World):Calls ah 80 #[.int .i64 k] w (mF (.bool (decide (0≤k)&&decide (k≤28))) w):=by
 go_enter Tryz.func80,Tryz.ntmps80
 go_wp2
 ·go_ret
  exact zu (by rw[b5 (show 0≤k by assumption)];rfl) (Below.refl _ _)
 ·go_ret
  exact zu (by rw[cc (show ¬(0≤k) by omega)];rfl) (Below.refl _ _)
theorem Hw(n m:Int)(w:World):Calls ah 319 #[.int .i64 n,.int .i64 m] w (mF (.int .i64 (fm n m)) w):=by
 go_enter Tryz.func319,Tryz.ntmps319
 go_wp2
 all_goals
  go_ret
  refine xB ?_ (Below.refl _ _);unfold fm
  repeat' split
  all_goals omega
def nK(x y x' y':Int):Int:=if x=x' then fm y y' else fm x x'
theorem aa6(x y x' y':Int)(w:World):Calls ah 295 #[.agg #[.int .i64 x,.int .i64 y],.agg #[.int .i64 x',.int .i64 y']] w (mF (.int .i64 (nK x y x' y')) w):=by
 have a7:=Lib.hid (fun w=>Hw x x' w);have bK:=Lib.hid (fun w=>Hw y y' w);have kP:Hid (x=x'→fm y y'=nK x y x' y'):=fun h=>by unfold nK;rw[if_pos h]
 have jV:Hid (¬(x=x')→fm x x'=nK x y x' y'):=fun h=>by unfold nK;rw[if_neg h]
 go_enter Tryz.func295,Tryz.ntmps295
 go_wp2_with (first
  | (go_at_call 319;((with_reducible refine(a7.out _).mono ?_);rintro e w1 ⟨rfl,aa⟩))
  | (go_at_call 319;((with_reducible refine(bK.out _).mono ?_);rintro e w1 ⟨rfl,aa⟩)))
 ·go_ret
  exact xB (jV.out (by simpa using ‹(x != x')=true›)) (by(repeat first|with_reducible exact Below.refl _ _|with_reducible refine e8 ?_ _|with_reducible refine hk ?_ aa))
 ·go_ret
  exact xB (kP.out (by simpa using ‹(x != x')=false›)) (by(repeat first|with_reducible exact Below.refl _ _|with_reducible refine e8 ?_ _|with_reducible refine hk ?_ aa))
end Go.Proofs.YtklpfooafbjnpaaGreat
namespace Go.Proofs.YtklpfooafbjnpaaGreat
open Go.RowKit
attribute [local go_sem ↓] Go.wp_at_zero Go.wp_at_succ
end Go.Proofs.YtklpfooafbjnpaaGreat
namespace Go.Proofs.YtklpfooafbjnpaaGreat
open Go.RowKit
attribute [local go_sem ↓] Go.wp_at_zero Go.wp_at_succ
def Ni(s:Bool)(z:Int)(w:World)(e:Ending)(w':World):Prop:=∃H L,e = .returned (.tuple #[.agg #[.int .i64 H,.int .u64 L],.bool s])∧c7 H L z∧Below w.heap.size w w'
def DJ(v:Int)(b:Bool)(w:World)(e:Ending)(w':World):Prop:=e = .returned (.tuple #[.int .i64 v,.bool b])∧Below w.heap.size w w'
def XQ(w:World)(s:Bool)(z:Int)(u v:Value)(W:World):Prop:=∃g tq lM,u = .pointer (some ⟨g,0,none⟩)∧v = .bool s∧c7 tq lM z∧e2 W g (.int .i64 tq) (.int .u64 lM)∧Below w.heap.size w W
theorem Mi(aX sr aJ ho k:Int)(r:Nat)(s:Bool)(z v:Int)(b:Bool)(w:World)(h:hj k r)
  (M2:∀w,Calls ah 274 #[.agg #[.int .i64 aX,.int .u64 sr,.int .i64 aJ,.int .u64 ho],.int .i64 r] w (Ni s z w))
  (hv:(s=false∧v=0∧b=false)∨(s=true∧small z=false∧v=0∧b=false)∨(s=true∧small z=true∧wi (134217728/2^r) z=false∧v=0∧b=false)∨(s=true∧small z=true∧wi (134217728/2^r) z=true∧v=z∧b=true)) :
  Calls ah 239 #[.agg #[.int .i64 aX,.int .u64 sr,.int .i64 aJ,.int .u64 ho],.int .i64 k] w (DJ v b w):=by
 have M1:=Lib.hid (fun w=>Cn k r w h);have HB:=Lib.hid (fun w=>SB k r w h);have Dv:=Lib.hid M2;obtain⟨m0,m1⟩:=EF r;clear h M2;generalize (134217728:Int)/2^r=M at *;have zZ:=Lib.hid m0;have z1:=Lib.hid m1;have s4:=Lib.hid hv;clear m0 m1 hv
 go_enter Tryz.func239,Tryz.ntmps239
 go_upto_region 1 with fail
 have fO:ih (w.alloc (.cells #[.int .i64 aX,.int .u64 sr,.int .i64 aJ,.int .u64 ho] 182)) w.heap.size (.int .i64 aX) (.int .u64 sr) (.int .i64 aJ) (.int .u64 ho):=(by(repeat first|focus ((with_reducible refine ih.new ?_);simp;done)));have Iq:Below w.heap.size w (w.alloc (.cells #[.int .i64 aX,.int .u64 sr,.int .i64 aJ,.int .u64 ho] 182)):=(by(repeat first|with_reducible exact Below.refl _ _|with_reducible refine e8 ?_ _))
 go_cut [6,7] (fun u v uu=>XQ w s z u v uu)
 case first =>
  clear s4 HB
  go_region_held3 (fun w'=>w'.cell? ⟨w.heap.size,0,none⟩=some (.int .i64 aX)∧w'.cell? ⟨w.heap.size,1,none⟩=some (.int .u64 sr)∧w'.cell? ⟨w.heap.size,2,none⟩=some (.int .i64 aJ)∧w'.cell? ⟨w.heap.size,3,none⟩=some (.int .u64 ho))
   (((refine ih.cs ?_);((repeat first|with_reducible assumption|with_reducible refine ih.alloc ?_ _|with_reducible refine ih.drew ?_|focus ((with_reducible refine ih.set ?_ _ ?_);rotate_left;omega)|with_reducible refine ih.call ?_ lO|with_reducible refine ih.call ?_ mQ);done)))
   (first
    | (go_at_call 165;((with_reducible refine(M1.out _).mono ?_);rintro e w1 ⟨rfl,mQ⟩;have aek:=Below.size mQ;(try simp at aek)))
    | (go_at_call 274;((with_reducible refine(Dv.out _).mono ?_);rintro e w2 ⟨alY,alZ,rfl,hu,lO⟩;have Kz:=Below.size lO;(try simp at Kz);(try ((refine OG (p:=e2 w2 (w.heap.size+1) (.int .i64 0) (.int .u64 0)) ?_ ?_);(repeat first|focus ((with_reducible refine e2.new ?_);simp;done)|with_reducible refine e2.alloc ?_ _|with_reducible refine e2.drew ?_|with_reducible refine e2.call ?_ lO|with_reducible refine e2.call ?_ mQ);intro Dl;obtain⟨⟨amI,amS⟩,am6,ana⟩:=id Dl;have an6:=e2.lt Dl;have aoe:=Nat.ne_of_gt (e2.lt Dl);have aoc:=Nat.ne_of_lt (e2.lt Dl)));(try ((refine OG (p:=e2 w2 (w1.heap.size) (.int .i64 0) (.int .u64 0)) ?_ ?_);(repeat first|focus ((with_reducible refine e2.new ?_);simp;done)|with_reducible refine e2.alloc ?_ _|with_reducible refine e2.drew ?_|with_reducible refine e2.call ?_ lO|with_reducible refine e2.call ?_ mQ);intro Dm;obtain⟨⟨amJ,amT⟩,am7,anb⟩:=id Dm;have an7:=e2.lt Dm;have aof:=Nat.ne_of_gt (e2.lt Dm);have aod:=Nat.ne_of_lt (e2.lt Dm))))))
  all_goals
   go_wp2_with fail
   go_meet
   refine⟨_,alY,alZ,rfl,rfl,hu,?_,?_⟩
   ·(repeat first|focus ((with_reducible refine e2.new ?_);simp;done)|with_reducible refine e2.put ?_|focus ((with_reducible apply xW.of);with_reducible assumption))
   ·(repeat first|with_reducible assumption|with_reducible refine e8 ?_ _|focus ((with_reducible refine pR ?_ _ _ _ ?_);rotate_left;omega)|with_reducible refine Below.drew ?_|with_reducible refine hk ?_ lO|with_reducible refine hk ?_ mQ)
 case rest =>
  obtain⟨g,tq,lM,rfl,rfl,au,ew,dp⟩:=hcut;clear fO Iq Dv M1;obtain⟨⟨qB,dd⟩,dj,k9⟩:=id ew;rcases s4.out with ⟨rfl,rfl,rfl⟩|⟨rfl,q,rfl,rfl⟩|⟨rfl,q,cI,rfl,rfl⟩|⟨rfl,q,cI,rfl,rfl⟩
  ·clear s4
   go_wp2
   go_ret2
   exact⟨rfl,by(repeat first|with_reducible assumption)⟩
  ·have zW:Hid (∀w,Calls ah 275 #[.agg #[.int .i64 tq,.int .u64 lM]] w (DJ 0 false w)):=fun w=>(HX tq lM z w au).mono fun e w' k=>by unfold x3 at k;rw[q] at k;exact k
   clear s4 q
   go_wp2_with (first
    | (go_at_call 275;((with_reducible refine(zW.out _).mono ?_);rintro e zH ⟨rfl,wM⟩)))
   go_ret2
   exact⟨rfl,by(repeat first|with_reducible assumption|with_reducible refine hk ?_ wM)⟩
  ·have zW:Hid (∀w,Calls ah 275 #[.agg #[.int .i64 tq,.int .u64 lM]] w (DJ z true w)):=fun w=>(HX tq lM z w au).mono fun e w' k=>by unfold x3 at k;rw[q] at k;exact k
   have HA:Hid (∀b w,w.cell? ⟨b,0,none⟩=some (.int .i64 M)→Calls ah 253 #[.int .i64 z,.pointer (some ⟨b,0,none⟩)] w (mF (.bool false) w)):=fun b w ak=>by have:=Gb b M z w ak zZ.out z1.out;rw[cI] at this;exact this
   clear s4 q cI
   go_wp2_with (first
    | (go_at_call 275;((with_reducible refine(zW.out _).mono ?_);rintro e zH ⟨rfl,wM⟩))
    | (go_at_call 202;((with_reducible refine(HB.out _).mono ?_);rintro e MH ⟨b,rfl,ak,JE⟩))
    | (go_at_call 253;((with_reducible refine(HA.out _ _ ak).mono ?_);rintro e MI ⟨rfl,JF⟩)))
   go_ret2
   exact⟨rfl,by(repeat first|with_reducible assumption|with_reducible refine hk ?_ JF|with_reducible refine hk ?_ JE|with_reducible refine hk ?_ wM)⟩
  ·have zW:Hid (∀w,Calls ah 275 #[.agg #[.int .i64 tq,.int .u64 lM]] w (DJ v true w)):=fun w=>(HX tq lM v w au).mono fun e w' k=>by unfold x3 at k;rw[q] at k;exact k
   have HA:Hid (∀b w,w.cell? ⟨b,0,none⟩=some (.int .i64 M)→Calls ah 253 #[.int .i64 v,.pointer (some ⟨b,0,none⟩)] w (mF (.bool true) w)):=fun b w ak=>by have:=Gb b M v w ak zZ.out z1.out;rw[cI] at this;exact this
   clear s4 q cI
   go_wp2_with (first
    | (go_at_call 275;((with_reducible refine(zW.out _).mono ?_);rintro e zH ⟨rfl,wM⟩))
    | (go_at_call 202;((with_reducible refine(HB.out _).mono ?_);rintro e MH ⟨b,rfl,ak,JE⟩))
    | (go_at_call 253;((with_reducible refine(HA.out _ _ ak).mono ?_);rintro e MI ⟨rfl,JF⟩)))
   go_ret2
   exact⟨rfl,by(repeat first|with_reducible assumption|with_reducible refine hk ?_ JF|with_reducible refine hk ?_ JE|with_reducible refine hk ?_ wM)⟩
theorem amc{r:Nat}{z:Int}(h:wi (134217728/2^r) z=true):small z=true:=by
 obtain⟨m0,m1⟩:=EF r;unfold wi at h;rw[eg,cT,cT] at h;unfold small;rw[cT];omega
end Go.Proofs.YtklpfooafbjnpaaGreat
namespace Go.Proofs.YtklpfooafbjnpaaGreat
open Go.RowKit
section
variable{U:Nat→Prop}{ad:Nat→Nat}{W:World}
theorem UC:∀(xs:List AC) (r vs:List Value),uU xs=some r→bO U ad W xs vs→vs=r
 | [],r,vs,h,hv=>by cases h;exact mZ hv.1.symm
 | .c v::xs,r,vs,h,hv=>by
  simp only[uU] at h
  split at h
  ·rename_i bb ao;cases h
   match vs,hv with
   | [],hv=>exact absurd hv.1 (by simp)
   | u::vs,hv =>
    have aE:=(hv.2 0 _ u rfl rfl).1;have cf:=UC xs bb vs ao ⟨by have:=hv.1;simp at this;exact this,fun i x w ab hw=>hv.2 (i+1) x w (by simpa using ab) (by simpa using hw)⟩;rw[aE,cf]
  ·cases h
 | .own _ _::_,_,_,h,_=>by cases h
 | .p _::_,_,_,h,_=>by cases h
theorem UH{x:bF}{u v:Value}(h:nt x=some u)(hv:gT U ad W x v):v=u:=by
 cases x with
 | one y=>cases y with
  | c w=>cases h;exact hv.1
  | own=>cases h
  | p=>cases h
 | agg xs =>
  simp only[nt] at h
  split at h
  ·rename_i r ao;cases h;obtain⟨vs,rfl,al⟩:=hv;rw[UC xs r vs ao al]
  ·cases h
theorem UE:∀(xs:List bF) (r vs:List Value),ym xs=some r→xs.length=vs.length→(∀(i:Nat) (x:bF) (v:Value),xs[i]?=some x→vs[i]?=some v→gT U ad W x v)→vs=r
 | [],r,vs,h,al,_=>by cases h;exact mZ al.symm
 | x::xs,r,vs,h,al,hv=>by
  simp only[ym] at h
  split at h
  ·rename_i v bb h1 ao;cases h
   match vs,al,hv with
   | u::vs,al,hv =>
    rw[UH h1 (hv 0 x u rfl rfl),UE xs bb vs ao (by simpa using al) fun i y w ai hw=>hv (i+1) y w (by simpa using ai) (by simpa using hw)]
  ·cases h
theorem aj7{x:ag}{u v:Value}(h:r8 x=some u)(hv:cS U ad W x v):v=u:=by
 cases x with
 | w y=>exact UH h hv
 | ck xs =>
  simp only[r8] at h
  split at h
  ·rename_i r ao;cases h;obtain⟨vs,rfl,al,ab⟩:=hv;rw[UE xs r vs ao al ab]
  ·cases h
end
theorem Oi{P:Program}{f:FuncId}{args:List ag}{r:ag}(h:aO P f args r)(kl:List Value)(bx:Value)(he:args.map r8=kl.map some)(ok:args.all Lm=true)(ao:r8 r=some bx)(W:World):Calls P f kl.toArray W fun e W'=>e = .returned bx∧Below W.heap.size W W' :=
 (h.call (fun _=>True) W kl ⟨by have:=congrArg List.length he;simpa using this,fun i x v ab hv=>by
  have h1:(args.map r8)[i]?=some (r8 x):=by rw[dt,ab];rfl
  rw[he,dt,hv] at h1;have h2:some v=r8 x:=lA h1;exact UF h2.symm (bZ.1 ok x (cM ab))⟩).mono fun e W' ⟨v,qb,hv,aa⟩=>by
  rw[aj7 ao hv] at qb;exact⟨qb,aa⟩
theorem Tj{v k:Int}{r:Nat}(h:hj k r)(v0 : -9223372036854775808≤v)(v1:v<9223372036854775808):aO ah 106 [aL v,aL k] (aL (ca v r)) :=
 iB [.int .i64 v,.int .i64 k] (.int .i64 (ca v r)) rfl rfl rfl rfl rfl fun W=>abh v k r W h v0 v1
theorem Tx{k:Int}{r:Nat}(h:hj k r):aO ah 252 [aL k] (aL (2^r)) :=
 iB [.int .i64 k] (.int .i64 (2^r)) rfl rfl rfl rfl rfl fun W=>ak0 k r W h
theorem Gr{k:Int}:aO ah 80 [aL k] (bl (decide (0≤k)&&decide (k≤28))) :=
 iB [.int .i64 k] (.bool (decide (0≤k)&&decide (k≤28))) rfl rfl rfl rfl rfl fun W=>abg k W
theorem tW{x y k:Int}{r:Nat}{b:Bool}(h:hj k r)(aa:dX r x y=b):aO ah 145 [bn x y,aL k] (bl b):=by
 subst aa;exact iB [.agg #[.int .i64 x,.int .i64 y],.int .i64 k] (.bool (dX r x y)) rfl rfl rfl rfl rfl fun W=>Xf x y k r W h
theorem aiv{x y x' y':Int}:aO ah 295 [bn x y,bn x' y'] (aL (nK x y x' y')) :=
 iB [.agg #[.int .i64 x,.int .i64 y],.agg #[.int .i64 x',.int .i64 y']] (.int .i64 (nK x y x' y')) rfl rfl rfl rfl rfl fun W=>aa6 x y x' y' W
theorem Gq{x y k:Int}{r:Nat}(h:hj k r)(qB : -9223372036854775808≤x)(dd:x<9223372036854775808)(lb : -9223372036854775808≤y)(jP:y<9223372036854775808):aO ah 58 [bn x y,aL k] (bn (ca x r) (ca y r)):=by
 refine bo (f:=58) Tryz.func58 rfl rfl rfl rfl ?_;(repeat first|refine dc ?_|refine ur (Tj h qB dd) ?_|refine ur (Tj h lb jP) ?_)
 ((refine bk rfl (c6 rfl rfl rfl aM) ?_))
 exact ag.aU.refl _
theorem tV{x y k:Int}{r:Nat}(h:hj k r)(aa:dX r x y=true):aO ah 200 [bn x y,aL k] (bn (2^r*x) (2^r*y)):=by
 obtain⟨⟨q1,q2⟩,q3,q4⟩:=(FL r x y).1 aa;have a7:=tW h aa;have bK:=Tx h;clear h aa;generalize (2:Int)^r=P at *;refine bo (f:=200) Tryz.func200 rfl rfl rfl rfl ?_;(refine cK ?_)
 ((refine bk rfl (c6 rfl rfl rfl aM) ?_))
 exact ag.aU.refl _
theorem ah0{x y k:Int}{r:Nat}(h:hj k r)(aa:dX r x y=true):aO ah 249 [bn x y,aL k] (.ck [.agg [.c (.int .i64 (2*(2^r*x)-2^r)),.c (.int .i64 (2*(2^r*y)-2^r))],.agg [.c (.int .i64 (2*(2^r*x)+2^r)),.c (.int .i64 (2*(2^r*y)+2^r))]]):=by
 obtain⟨⟨q1,q2⟩,q3,q4⟩:=(FL r x y).1 aa;obtain⟨lV,LM⟩:=LF h.1;have a7:=tW h aa;have bK:=Tx h;have dZ:=tV h aa;clear h aa;generalize (2:Int)^r=P at *;generalize P*x=X at *;generalize P*y=Y at *;refine bo (f:=249) Tryz.func249 rfl rfl rfl rfl ?_;(refine cK ?_)
 ((refine bk rfl (c6 rfl rfl rfl (c6 rfl rfl rfl aM)) ?_))
 exact ag.aU.refl _
def uo(n d:Int)(r:Nat):Bool:=decide (0<d)&&wi (134217728/2^r) (ng n d r)
def G1(n d:Int)(r:Nat):Int:=if uo n d r then ng n d r else 0
theorem Ty{n d k:Int}{r:Nat}(h:hj k r)(f:fits n=true)(g:fits d=true):aO ah 239 [fv n d,aL k] (.ck [.one (.c (.int .i64 (G1 n d r))),.one (.c (.bool (uo n d r)))]):=by
 refine iB [fx n d,.int .i64 k] (.tuple #[.int .i64 (G1 n d r),.bool (uo n d r)]) rfl rfl rfl rfl rfl fun W => ?_;unfold G1 uo
 by_cases hd:0<d
 ·have Nq:∀w,Calls ah 274 #[fx n d,.int .i64 r] w (Ni true (ng n d r) w):=fun w=>(Oi (ait f g hd (by have:=h.1;omega)) [fx n d,.int .i64 r] (.tuple #[uu (ng n d r),.bool true]) rfl rfl rfl w).mono fun e w' k=>⟨_,_,k.1,mW (aaX f hd g (by have:=h.1;omega)),k.2⟩;rw[b5 hd,pF];cases hw:wi (134217728/2^r) (ng n d r) with
  | true=>exact Mi _ _ _ _ k r true _ _ true W h Nq (.inr (.inr (.inr ⟨rfl,amc hw,hw,rfl,rfl⟩)))
  | false =>
   refine Mi _ _ _ _ k r true _ 0 false W h Nq ?_;cases hs:small (ng n d r)
   ·exact .inr (.inl ⟨rfl,rfl,rfl,rfl⟩)
   ·exact .inr (.inr (.inl ⟨rfl,rfl,hw,rfl,rfl⟩))
 ·rw[cc hd,Bool.false_and];exact Mi _ _ _ _ k r false 0 0 false W h (fun w=>(Oi (aiu (k:=r) f g (.inl hd)) [fx n d,.int .i64 r] (.tuple #[uu 0,.bool false]) rfl rfl rfl w).mono fun e w' k=>⟨_,_,k.1,yU,k.2⟩) (.inl ⟨rfl,rfl,rfl⟩)
theorem ahz{n d n' d' k:Int}{r:Nat}{b:Bool}(h:hj k r)(f:fits n=true)(g:fits d=true)(mf:fits n'=true)(cZ:fits d'=true)(aa:(uo n d r&&uo n' d' r)=b) :
  aO ah 184 [fv n d,fv n' d',aL k] (.ck [.agg [.c (.int .i64 (if b then ng n d r else 0)),.c (.int .i64 (if b then ng n' d' r else 0))],.one (.c (.bool b))]):=by
 have a7:=Ty h f g;have bK:=Ty h mf cZ;clear h f g mf cZ;unfold G1 at a7 bK;cases q1:uo n d r <;> cases q2:uo n' d' r <;> rw[q1] at a7 <;> rw[q2] at bK <;> rw[q1,q2] at aa <;> subst aa <;> clear q1 q2
 all_goals
  generalize ng n d r=X at *;generalize ng n' d' r=Y at *;refine bo (f:=184) Tryz.func184 rfl rfl rfl rfl ?_;(refine cK ?_)
  ((refine bk rfl (c6 rfl rfl rfl (aY rfl aM)) ?_))
  exact ag.aU.refl _
end Go.Proofs.YtklpfooafbjnpaaGreat
namespace Go.Proofs.YtklpfooafbjnpaaGreat
abbrev dH:=Int×Int×Int
def nJ(x y z w:Int):Bool:=decide (x<z)||(decide (x=z)&&decide (y<w))
theorem qn{x y z w:Int}:nJ x y z w=true↔x<z∨(x=z∧y<w):=by
 unfold nJ;simp
def vy(l:List dH)(x y:Int):List dH:=l.filter fun e=>nJ e.1 e.2.1 x y
def Gy(l:List dH)(x y:Int):List dH:=l.filter fun e=>nJ x y e.1 e.2.1
def tY(l:List dH)(x y v:Int):List dH:=vy l x y++(x,y,v)::Gy l x y
def u0(l:List dH)(x y:Int):Int:=match l.findIdx? fun e=>decide (e.1=x)&&decide (e.2.1=y) with
 | some k=>k
 | none => -1
def lh(l:List dH):Prop:=l.Pairwise fun a b=>nJ a.1 a.2.1 b.1 b.2.1=true
theorem ahw{a b c d e f:Int}(h1:nJ a b c d=true)(h2:nJ c d e f=true):nJ a b e f=true:=by
 rw[qn] at *;omega
theorem ajq{l:List dH}(h:lh l)(x y v:Int):lh (tY l x y v):=by
 unfold tY vy Gy lh;rw[List.pairwise_append,kh];refine⟨h.filter _,⟨fun e he => ?_,h.filter _⟩,fun a aX b aa => ?_⟩
 ·exact(List.mem_filter.1 he).2
 ·have h1:=(List.mem_filter.1 aX).2;rcases fg.1 aa with rfl|aa
  ·exact h1
  ·exact ahw h1 (List.mem_filter.1 aa).2
def iu(l:List dH)(x y:Int):Bool:=l.any fun e=>decide (e.1=x)&&decide (e.2.1=y)
theorem Pz(l:List dH)(x y:Int):decide (0≤u0 l x y)=iu l x y:=by
 unfold u0 iu;cases h:l.findIdx? fun e=>decide (e.1=x)&&decide (e.2.1=y) with
 | none =>
  rw[List.findIdx?_eq_none_iff] at h
  have:(l.any fun e=>decide (e.1=x)&&decide (e.2.1=y))=false:=by
   rw[List.any_eq_false];intro e he;rw[h e he];decide
  rw[this];rfl
 | some k =>
  have aE:=List.findIdx?_eq_some_iff_getElem.1 h;obtain⟨ae,h1,_⟩:=aE;have:(l.any fun e=>decide (e.1=x)&&decide (e.2.1=y))=true:=List.any_eq_true.2 ⟨l[k],List.getElem_mem ae,h1⟩;rw[this];simp
theorem abr{l:List dH}{x y:Int}(h:0≤u0 l x y):∃k v,u0 l x y=(k:Nat)∧k<l.length∧l[k]?=some (x,y,v):=by
 unfold u0 at h ⊢;cases aw:l.findIdx? fun e=>decide (e.1=x)&&decide (e.2.1=y) with
 | none=>rw[aw] at h;simp at h
 | some k =>
  obtain⟨ae,h1,_⟩:=List.findIdx?_eq_some_iff_getElem.1 aw;simp only[eg,cT] at h1;refine⟨k,l[k].2.2,rfl,ae,?_⟩;rw[bB ae];congr 1;exact Prod.ext h1.1 (Prod.ext h1.2 rfl)
def pK(l:List dH)(x y:Int):Int:=match l.findIdx? fun e=>decide (e.1=x)&&decide (e.2.1=y) with
 | some k=>(l.getD k (0,0,0)).2.2
 | none=>0
theorem al7{l:List dH}{x y v:Int}{k:Nat}(h:u0 l x y=k)(al:l[k]?=some (x,y,v)):pK l x y=v:=by
 unfold u0 at h;unfold pK;cases aw:l.findIdx? fun e=>decide (e.1=x)&&decide (e.2.1=y) with
 | none=>rw[aw] at h;simp at h
 | some j =>
  rw[aw] at h;have:j=k:=by simp at h;omega
  subst this;simp only[xt,al];rfl
theorem al5{l:List dH}{x y:Int}(h:iu l x y=false):pK l x y=0:=by
 have h2:=Pz l x y;rw[h] at h2;unfold u0 at h2;unfold pK;cases aw:l.findIdx? fun e=>decide (e.1=x)&&decide (e.2.1=y) with
 | none=>rfl
 | some j=>rw[aw] at h2;simp at h2
theorem ajo(l:List dH)(x y:Int):(vy l x y).length≤l.length:=List.length_filter_le _ _
theorem VW{l:List dH}(h:lh l){x y v:Int}(hm:(x,y,v)∈l):iu l x y=true∧pK l x y=v:=by
 have aZ:iu l x y=true:=List.any_eq_true.2 ⟨_,hm,by simp⟩;have au:=Pz l x y;rw[aZ] at au;obtain⟨k,u,h1,h2,ar⟩:=abr (of_decide_eq_true au);refine⟨aZ,?_⟩;rw[al7 h1 ar];obtain⟨j,af⟩:=kF hm;have Bs:=(bq.1 af).1;have hX:l[k]=(x,y,u):=(bq.1 ar).2;have lL:l[j]=(x,y,v):=(bq.1 af).2;unfold lh at h;rw[List.pairwise_iff_getElem] at h;rcases Nat.lt_trichotomy k j with q|q|q
 ·have:=h k j h2 Bs q;rw[hX,lL,qn] at this;simp at this
 ·subst q;rw[hX] at lL;cases lL;rfl
 ·have:=h j k Bs h2 q;rw[hX,lL,qn] at this;simp at this
end Go.Proofs.YtklpfooafbjnpaaGreat
namespace Go.Proofs.YtklpfooafbjnpaaGreat
open Go.RowKit
def eC:List dH→List AC
 | []=>[]
 | e::l => .c (.int .i64 e.1) :: .c (.int .i64 e.2.1) :: .c (.int .i64 e.2.2)::eC l
theorem IW:∀(l:List dH) (i:Nat) (e:dH),l[i]?=some e→((eC l).drop (i*3)).take 3=[.c (.int .i64 e.1),.c (.int .i64 e.2.1),.c (.int .i64 e.2.2)]
 | [],i,p,h=>by simp at h
 | q::l,0,p,h=>by simp at h;subst h;simp[eC]
 | q::l,i+1,p,h=>by
  have e:(i+1)*3=i*3+1+1+1:=by omega
  rw[e];simp only[eC,List.drop_succ_cons];exact IW l i p (by simpa using h)
theorem O4{l:List dH}{j:Int}{i:Nat}{x y v:Int}(af:j=i)(h:l[i]?=some (x,y,v)):((eC l).drop (j.toNat*3)).take 3=[.c (.int .i64 x),.c (.int .i64 y),.c (.int .i64 v)]:=by
 subst af;exact IW l i (x,y,v) h
theorem AQ:∀(l:List dH),(eC l).length=l.length*3
 | []=>rfl
 | p::l=>by simp only[eC,hb,AQ l];omega
theorem AP:∀(l m:List dH),eC (l++m)=eC l++eC m
 | [],_=>rfl
 | p::l,m=>by simp only[uc,eC,AP l m]
theorem O0:∀(l:List dH),(eC l).all AC.aW=true
 | []=>rfl
 | p::l=>by simp only[eC,jI,O0 l];rfl
abbrev F3(x y:Int):List AC:=[.c (.int .i64 x),.c (.int .i64 y)]
abbrev VU(k:Nat):ag := .w (.one (.own k 0))
def rE(n:Int):Int:=if n<1 then 1 else if 1024<n then 1024 else n
def ht(l:List aq)(x y:Int):Int:=match l.findIdx? fun e=>decide (e.1=x)&&decide (e.2=y) with
 | some k=>k
 | none => -1
def wH(n:Int):Bool:=decide (-134217728≤n)&&decide (n≤134217728)
theorem Th{n:Int}{b:Bool}(aa:wH n=b):aO ah 240 [aL n] (bl b):=by
 have cs:(-134217728≤n∧n≤134217728∧b=true)∨(-134217728≤n∧¬n≤134217728∧b=false)∨(¬ -134217728≤n∧b=false):=by
  rw[←aa];unfold wH
  by_cases h1 : -134217728≤n <;> by_cases h2:n≤134217728 <;> simp[h1,h2]
 clear aa;rcases cs with ⟨h1,h2,rfl⟩|⟨h1,h2,rfl⟩|⟨h1,rfl⟩
 all_goals
  refine bo (f:=240) Tryz.func240 rfl rfl rfl rfl ?_;(repeat first|refine dc ?_|(with_reducible apply bR (c:=true));rfl;rfl;(exact b5 (by omega))|(with_reducible apply bR (c:=false));rfl;rfl;(exact cc (by omega)))
  ((refine bk rfl (aY rfl aM) ?_))
  first|exact ag.aU.refl _|exact ag.aU.of_eq (by rw[b5 h2];rfl)|exact ag.aU.of_eq (by rw[cc h2];rfl)
theorem ajy(x y:Int):c5 x y=(wH x&&wH y):=by
 unfold c5 wH;rw[o3];simp only[eg,cT];omega
theorem my{x y:Int}(h:c5 x y=true):eF x y=true:=by rw[ui] at h;rw[T8];omega
theorem qo{x y:Int}{b:Bool}(aa:c5 x y=b):aO ah 185 [bn x y] (bl b):=by
 have a7:=Th (n:=x) rfl;have bK:=Th (n:=y) rfl;rw[ajy] at aa;cases q1:wH x <;> cases q2:wH y <;> rw[q1] at a7 <;> rw[q2] at bK <;> rw[q1,q2] at aa <;> subst aa <;> clear q1 q2
 all_goals
  refine bo (f:=185) Tryz.func185 rfl rfl rfl rfl ?_;(refine cK ?_)
  ((refine bk rfl (aY rfl aM) ?_))
  exact ag.aU.refl _
theorem ahA{n m:Int}:aO ah 319 [aL n,aL m] (aL (fm n m)) :=
 iB [.int .i64 n,.int .i64 m] (.int .i64 (fm n m)) rfl rfl rfl rfl rfl fun W=>Hw n m W
abbrev k7(n d:Int)(o:Bool):ag := .w (.agg [.c (.int .i64 n),.c (.int .i64 d),.c (.bool o)])
abbrev vP(x:iJ):ag:=k7 x.n x.d x.own
def ni(x:iJ):Prop:=(-2000000000≤x.n∧x.n≤2000000000)∧0<x.d∧x.d≤2000000000
theorem agC{x y:Int}(h1 : -2000000000≤x)(h2:x≤2000000000)(ar:0≤y)(aK:y≤2000000000) : -4000000000000000000≤x*y∧x*y≤4000000000000000000:=by
 have a1:x*y≤2000000000*y:=qx h2 ar;have a2 : -2000000000*y≤x*y:=qx h1 ar;omega
theorem N8{x y:iJ}(ab:ni x)(ai:ni y):IntKind.i64.wrap (x.n*y.d)=x.n*y.d:=by
 obtain⟨⟨a1,a2⟩,a3,a4⟩:=ab;obtain⟨⟨b1,b2⟩,dK,df⟩:=ai;have:=agC a1 a2 (by omega:(0:Int)≤y.d) df;exact kC (by omega)
theorem ai1{n d m e c:Int}{o q:Bool}(a7:aO ah 319 [aL (n*e),aL (m*d)] (aL c))(w1:IntKind.i64.wrap (n*e)=n*e)(w2:IntKind.i64.wrap (m*d)=m*d):aO ah 318 [k7 n d o,k7 m e q] (aL c):=by
 refine bo (f:=318) Tryz.func318 rfl rfl rfl rfl ?_;(refine cK ?_)
 ((refine bk rfl (aY rfl aM) ?_))
 exact ag.aU.refl _
theorem LA{x y:iJ}(ab:ni x)(ai:ni y):aO ah 318 [vP x,vP y] (aL (iq x y)) :=
 ai1 ahA (N8 ab ai) (N8 ai ab)
theorem aiJ{n d m e c:Int}{o q:Bool}{cp dQ:Int}{ki:Bool}(a7:aO ah 318 [k7 n d o,k7 m e q] (aL c))(cs:(0<c∧cp=n∧dQ=d∧ki=o)∨(¬ 0<c∧c=0∧q=true∧cp=n∧dQ=d∧ki=o)∨(¬ 0<c∧c=0∧q=false∧cp=m∧dQ=e∧ki=q)∨(¬ 0<c∧¬c=0∧cp=m∧dQ=e∧ki=q)):aO ah 328 [k7 n d o,k7 m e q] (k7 cp dQ ki):=by
 rcases cs with ⟨q1,rfl,rfl,rfl⟩|⟨q1,q2,rfl,rfl,rfl,rfl⟩|⟨q1,q2,rfl,rfl,rfl,rfl⟩|⟨q1,q2,rfl,rfl,rfl⟩
 all_goals
  refine bo (f:=328) Tryz.func328 rfl rfl rfl rfl ?_;(repeat first|refine dc ?_|refine fw ?_|(with_reducible apply bR (c:=true));rfl;rfl;(exact b5 (by omega))|(with_reducible apply bR (c:=false));rfl;rfl;(exact cc (by omega)))
  ((refine bk rfl (c6 rfl rfl rfl aM) ?_))
  exact ag.aU.refl _
theorem aiI{x y:iJ}(ab:ni x)(ai:ni y):aO ah 328 [vP x,vP y] (vP (ss x y)):=by
 refine aiJ (LA ab ai) ?_;rcases RH x y with ⟨e,h⟩|⟨e,h⟩ <;> rw[e]
 ·by_cases h1:0<iq x y
  ·exact .inl ⟨h1,rfl,rfl,rfl⟩
  ·rcases h with h|⟨h,k⟩
   ·exact absurd h h1
   ·exact .inr (.inl ⟨h1,h,k,rfl,rfl,rfl⟩)
 ·have h1:¬ 0<iq x y:=fun k=>h (.inl k)
  by_cases h2:iq x y=0
  ·refine .inr (.inr (.inl ⟨h1,h2,?_,rfl,rfl,rfl⟩));cases ai:y.own with
   | false=>rfl
   | true=>exact absurd (.inr ⟨h2,ai⟩) h
  ·exact .inr (.inr (.inr ⟨h1,h2,rfl,rfl,rfl⟩))
theorem air{n d m e c:Int}{o q:Bool}{cp dQ:Int}{ki:Bool}(a7:aO ah 318 [k7 n d o,k7 m e q] (aL c))(cs:(c<0∧cp=n∧dQ=d∧ki=o)∨(¬c<0∧c=0∧q=true∧cp=n∧dQ=d∧ki=o)∨(¬c<0∧c=0∧q=false∧cp=m∧dQ=e∧ki=q)∨(¬c<0∧¬c=0∧cp=m∧dQ=e∧ki=q)):aO ah 329 [k7 n d o,k7 m e q] (k7 cp dQ ki):=by
 rcases cs with ⟨q1,rfl,rfl,rfl⟩|⟨q1,q2,rfl,rfl,rfl,rfl⟩|⟨q1,q2,rfl,rfl,rfl,rfl⟩|⟨q1,q2,rfl,rfl,rfl⟩
 all_goals
  refine bo (f:=329) Tryz.func329 rfl rfl rfl rfl ?_;(repeat first|refine dc ?_|refine fw ?_|(with_reducible apply bR (c:=true));rfl;rfl;(exact b5 (by omega))|(with_reducible apply bR (c:=false));rfl;rfl;(exact cc (by omega)))
  ((refine bk rfl (c6 rfl rfl rfl aM) ?_))
  exact ag.aU.refl _
theorem aiq{x y:iJ}(ab:ni x)(ai:ni y):aO ah 329 [vP x,vP y] (vP (r5 x y)):=by
 refine air (LA ab ai) ?_;rcases OX x y with ⟨e,h⟩|⟨e,h⟩ <;> rw[e]
 ·by_cases h1:iq x y<0
  ·exact .inl ⟨h1,rfl,rfl,rfl⟩
  ·rcases h with h|⟨h,k⟩
   ·exact absurd h h1
   ·exact .inr (.inl ⟨h1,h,k,rfl,rfl,rfl⟩)
 ·have h1:¬iq x y<0:=fun k=>h (.inl k)
  by_cases h2:iq x y=0
  ·refine .inr (.inr (.inl ⟨h1,h2,?_,rfl,rfl,rfl⟩));cases ai:y.own with
   | false=>rfl
   | true=>exact absurd (.inr ⟨h2,ai⟩) h
  ·exact .inr (.inr (.inr ⟨h1,h2,rfl,rfl,rfl⟩))
abbrev hB(a1 a2 b1 b2 n d:Int)(o:Bool)(m e:Int)(q:Bool):ag := .w (.agg [.c (.int .i64 a1),.c (.int .i64 a2),.c (.int .i64 b1),.c (.int .i64 b2),.c (.int .i64 n),.c (.int .i64 d),.c (.bool o),.c (.int .i64 m),.c (.int .i64 e),.c (.bool q)])
abbrev He(a1 a2 b1 b2:Int)(p:Pa):ag:=hB a1 a2 b1 b2 p.f.n p.f.d p.f.own p.t.n p.t.d p.t.own
def Ab(p:Pa):Prop:=ni p.f∧ni p.t
theorem aiH{a1 a2 b1 b2 n d m e u v:Int}{o q w:Bool}{n' d' aI e':Int}{fU cI:Bool}(hu : -1100000000≤u∧u≤1100000000)(hv : -1100000000≤v∧v≤1100000000)
  (cs:(0<v-u∧aO ah 328 [k7 n d o,k7 (-u) (v-u) w] (k7 n' d' fU)∧aI=m∧e'=e∧cI=q)∨(¬ 0<v-u∧v-u<0∧aO ah 329 [k7 m e q,k7 u (-(v-u)) w] (k7 aI e' cI)∧n'=n∧d'=d∧fU=o)
   ∨ (¬ 0<v-u∧¬v-u<0∧u<0∧n'=1∧d'=1∧fU=false∧aI=0∧e'=1∧cI=false)∨(¬ 0<v-u∧¬v-u<0∧¬u<0∧u=0∧w=false∧n'=1∧d'=1∧fU=false∧aI=0∧e'=1∧cI=false)
   ∨ (¬ 0<v-u∧¬v-u<0∧¬u<0∧u=0∧w=true∧n'=n∧d'=d∧fU=o∧aI=m∧e'=e∧cI=q)∨(¬ 0<v-u∧¬v-u<0∧¬u<0∧¬u=0∧n'=n∧d'=d∧fU=o∧aI=m∧e'=e∧cI=q)) :
  aO ah 317 [hB a1 a2 b1 b2 n d o m e q,aL u,aL v,bl w] (hB a1 a2 b1 b2 n' d' fU aI e' cI):=by
 rcases cs with ⟨q1,a7,rfl,rfl,rfl⟩|⟨q1,q2,a7,rfl,rfl,rfl⟩|⟨q1,q2,q3,rfl,rfl,rfl,rfl,rfl,rfl⟩|⟨q1,q2,q3,q4,rfl,rfl,rfl,rfl,rfl,rfl,rfl⟩|⟨q1,q2,q3,q4,rfl,rfl,rfl,rfl,rfl,rfl,rfl⟩|⟨q1,q2,q3,q4,rfl,rfl,rfl,rfl,rfl,rfl⟩
 ·refine bo (f:=317) Tryz.func317 rfl rfl rfl rfl ?_;(refine cK ?_)
  ((refine bk rfl (c6 rfl rfl rfl aM) ?_))
  exact ag.aU.refl _
 ·refine bo (f:=317) Tryz.func317 rfl rfl rfl rfl ?_;(refine cK ?_)
  ((refine bk rfl (c6 rfl rfl rfl aM) ?_))
  exact ag.aU.refl _
 all_goals
  refine bo (f:=317) Tryz.func317 rfl rfl rfl rfl ?_;(repeat first|refine dc ?_|(with_reducible apply bR (c:=true));rfl;rfl;(exact b5 (by omega))|(with_reducible apply bR (c:=false));rfl;rfl;(exact cc (by omega)))
  ((refine bk rfl (c6 rfl rfl rfl aM) ?_))
  exact ag.aU.refl _
theorem afL{x y:iJ}(ab:ni x)(ai:ni y):ni (ss x y):=by unfold ss;split <;> assumption
theorem aav{x y:iJ}(ab:ni x)(ai:ni y):ni (r5 x y):=by unfold r5;split <;> assumption
theorem FZ{p:Pa}{u v:Int}{w:Bool}(hp:Ab p)(hu : -900000000≤u∧u≤900000000)(hv : -900000000≤v∧v≤900000000):Ab (pw p u v w):=by
 unfold pw
 by_cases h1:0<v-u
 ·rw[if_pos h1];exact⟨afL hp.1 ⟨by simp only;omega,by simp only;omega⟩,hp.2⟩
 ·rw[if_neg h1]
  by_cases h2:v-u<0
  ·rw[if_pos h2];exact⟨hp.1,aav hp.2 ⟨by simp only;omega,by simp only;omega⟩⟩
  ·rw[if_neg h2]
   split
   ·exact⟨⟨by decide,by decide⟩,⟨by decide,by decide⟩⟩
   ·exact hp
theorem Gt{a1 a2 b1 b2 u v:Int}{w:Bool}{p:Pa}(hp:Ab p)(hu : -900000000≤u∧u≤900000000)(hv : -900000000≤v∧v≤900000000):aO ah 317 [He a1 a2 b1 b2 p,aL u,aL v,bl w] (He a1 a2 b1 b2 (pw p u v w)):=by
 refine aiH (by omega) (by omega) ?_;unfold pw
 by_cases h1:0<v-u
 ·rw[if_pos h1];exact .inl ⟨h1,aiI hp.1 (y:=⟨-u,v-u,w⟩) ⟨by simp only;omega,by simp only;omega⟩,rfl,rfl,rfl⟩
 ·rw[if_neg h1]
  by_cases h2:v-u<0
  ·rw[if_pos h2];exact .inr (.inl ⟨h1,h2,aiq hp.2 (y:=⟨u,-(v-u),w⟩) ⟨by simp only;omega,by simp only;omega⟩,rfl,rfl,rfl⟩)
  ·rw[if_neg h2]
   by_cases ar:u<0
   ·rw[if_pos (.inl ar)];exact .inr (.inr (.inl ⟨h1,h2,ar,rfl,rfl,rfl,rfl,rfl,rfl⟩))
   ·by_cases aK:u=0
    ·cases w with
     | false=>rw[if_pos (.inr ⟨aK,rfl⟩)];exact .inr (.inr (.inr (.inl ⟨h1,h2,ar,aK,rfl,rfl,rfl,rfl,rfl,rfl,rfl⟩)))
     | true=>rw[if_neg (by simp[ar])];exact .inr (.inr (.inr (.inr (.inl ⟨h1,h2,ar,aK,rfl,rfl,rfl,rfl,rfl,rfl,rfl⟩))))
    ·rw[if_neg (by simp[ar,aK])];exact .inr (.inr (.inr (.inr (.inr ⟨h1,h2,ar,aK,rfl,rfl,rfl,rfl,rfl,rfl⟩))))
instance anX:HF ah 326 4 false 1:=⟨by kernel_rfl⟩
abbrev vQ(l1 l2 h1 h2:Int)(o p:Bool):ag := .w (.agg [.c (.int .i64 l1),.c (.int .i64 l2),.c (.int .i64 h1),.c (.int .i64 h2),.c (.bool o),.c (.bool p)])
def uL(n:Int):Bool:=decide (-536870912≤n)&&decide (n≤536870912)
theorem Ok{n:Int}:uL n=true ↔ -536870912≤n∧n≤536870912:=by unfold uL;simp
def uM(x y:Int):Bool:=uL x&&uL y
theorem Em{x y:Int}:uM x y=true↔(-536870912≤x∧x≤536870912) ∧ -536870912≤y∧y≤536870912:=by unfold uM;rw[eg,Ok,Ok]
def FW(k:Int):Bool:=decide (0≤k)&&decide (k≤2)
theorem ain{a1 a2 b1 b2 l1 l2 h1 h2 n d m e n' d' aI e':Int}{o p q r cI bb:Bool}(aX : -134217728≤a1∧a1≤134217728)(aa : -134217728≤b1∧b1≤134217728)(al : -536870912≤l1∧l1≤536870912)
  (a7:aO ah 317 [hB a1 a2 b1 b2 n d q m e r,aL (2*a1-l1),aL (2*b1-l1),bl o] (hB a1 a2 b1 b2 n' d' cI aI e' bb)):aO ah 286 [vQ l1 l2 h1 h2 o p,hB a1 a2 b1 b2 n d q m e r] (hB a1 a2 b1 b2 n' d' cI aI e' bb):=by
 refine bo (f:=286) Tryz.func286 rfl rfl rfl rfl ?_;(refine cK ?_)
 ((refine bk rfl (c6 rfl rfl rfl aM) ?_))
 exact ag.aU.refl _
theorem aim{a1 a2 b1 b2 l1 l2 h1 h2 n d m e n' d' aI e':Int}{o p q r cI bb:Bool}(aX : -134217728≤a2∧a2≤134217728)(aa : -134217728≤b2∧b2≤134217728)(al : -536870912≤l2∧l2≤536870912)
  (a7:aO ah 317 [hB a1 a2 b1 b2 n d q m e r,aL (2*a2-l2),aL (2*b2-l2),bl o] (hB a1 a2 b1 b2 n' d' cI aI e' bb)):aO ah 287 [vQ l1 l2 h1 h2 o p,hB a1 a2 b1 b2 n d q m e r] (hB a1 a2 b1 b2 n' d' cI aI e' bb):=by
 refine bo (f:=287) Tryz.func287 rfl rfl rfl rfl ?_;(refine cK ?_)
 ((refine bk rfl (c6 rfl rfl rfl aM) ?_))
 exact ag.aU.refl _
theorem aio{a1 a2 b1 b2 l1 l2 h1 h2 n d m e n' d' aI e':Int}{o p q r cI bb:Bool}(aX : -134217728≤a1∧a1≤134217728)(aa : -134217728≤b1∧b1≤134217728)(al : -536870912≤h1∧h1≤536870912)
  (a7:aO ah 317 [hB a1 a2 b1 b2 n d q m e r,aL (h1-2*a1),aL (h1-2*b1),bl p] (hB a1 a2 b1 b2 n' d' cI aI e' bb)):aO ah 288 [vQ l1 l2 h1 h2 o p,hB a1 a2 b1 b2 n d q m e r] (hB a1 a2 b1 b2 n' d' cI aI e' bb):=by
 refine bo (f:=288) Tryz.func288 rfl rfl rfl rfl ?_;(refine cK ?_)
 ((refine bk rfl (c6 rfl rfl rfl aM) ?_))
 exact ag.aU.refl _
theorem ail{a1 a2 b1 b2 l1 l2 h1 h2 n d m e n' d' aI e':Int}{o p q r cI bb:Bool}(aX : -134217728≤a2∧a2≤134217728)(aa : -134217728≤b2∧b2≤134217728)(al : -536870912≤h2∧h2≤536870912)
  (a7:aO ah 317 [hB a1 a2 b1 b2 n d q m e r,aL (h2-2*a2),aL (h2-2*b2),bl p] (hB a1 a2 b1 b2 n' d' cI aI e' bb)):aO ah 289 [vQ l1 l2 h1 h2 o p,hB a1 a2 b1 b2 n d q m e r] (hB a1 a2 b1 b2 n' d' cI aI e' bb):=by
 refine bo (f:=289) Tryz.func289 rfl rfl rfl rfl ?_;(refine cK ?_)
 ((refine bk rfl (c6 rfl rfl rfl aM) ?_))
 exact ag.aU.refl _
theorem ah4{a1 a2 b1 b2:Int}:aO ah 285 [bn a1 a2,bn b1 b2] (He a1 a2 b1 b2 wj):=by
 refine bo (f:=285) Tryz.func285 rfl rfl rfl rfl ?_;(refine eK ?_)
 ((refine bk rfl (c6 rfl rfl rfl aM) ?_))
 exact ag.aU.refl _
theorem aiz{a1 a2 b1 b2 n d m e c:Int}{o q r:Bool}(a7:aO ah 318 [k7 n d o,k7 m e q] (aL c))(cs:(c<0∧r=true)∨(¬c<0∧c=0∧o=true∧r=q)∨(¬c<0∧c=0∧o=false∧r=false)∨(¬c<0∧¬c=0∧r=false)):aO ah 290 [hB a1 a2 b1 b2 n d o m e q] (bl r):=by
 rcases cs with ⟨q1,rfl⟩|⟨q1,q2,rfl,rfl⟩|⟨q1,q2,rfl,rfl⟩|⟨q1,q2,rfl⟩
 all_goals
  refine bo (f:=290) Tryz.func290 rfl rfl rfl rfl ?_;(repeat first|refine dc ?_|refine fw ?_|(with_reducible apply bR (c:=true));rfl;rfl;(exact b5 (by omega))|(with_reducible apply bR (c:=false));rfl;rfl;(exact cc (by omega)))
  ((refine bk rfl (aY rfl aM) ?_))
  exact ag.aU.refl _
theorem aiy{a1 a2 b1 b2:Int}{p:Pa}(hp:Ab p):aO ah 290 [He a1 a2 b1 b2 p] (bl (yb p)):=by
 refine aiz (LA hp.1 hp.2) ?_;unfold yb
 by_cases h1:iq p.f p.t<0
 ·exact .inl ⟨h1,by rw[b5 h1];rfl⟩
 ·rw[cc h1]
  by_cases h2:iq p.f p.t=0
  ·rw[b5 h2];cases ar:p.f.own with
   | true=>exact .inr (.inl ⟨h1,h2,rfl,rfl⟩)
   | false=>exact .inr (.inr (.inl ⟨h1,h2,rfl,rfl⟩))
  ·exact .inr (.inr (.inr ⟨h1,h2,by rw[cc h2];rfl⟩))
theorem Ti{n:Int}{b:Bool}(aa:uL n=b):aO ah 316 [aL n] (bl b):=by
 have cs:(-536870912≤n∧n≤536870912∧b=true)∨(-536870912≤n∧¬n≤536870912∧b=false)∨(¬ -536870912≤n∧b=false):=by
  rw[←aa];unfold uL
  by_cases h1 : -536870912≤n <;> by_cases h2:n≤536870912 <;> simp[h1,h2]
 clear aa;rcases cs with ⟨h1,h2,rfl⟩|⟨h1,h2,rfl⟩|⟨h1,rfl⟩
 all_goals
  refine bo (f:=316) Tryz.func316 rfl rfl rfl rfl ?_;(repeat first|refine dc ?_|(with_reducible apply bR (c:=true));rfl;rfl;(exact b5 (by omega))|(with_reducible apply bR (c:=false));rfl;rfl;(exact cc (by omega)))
  ((refine bk rfl (aY rfl aM) ?_))
  first|exact ag.aU.refl _|exact ag.aU.of_eq (by rw[b5 h2];rfl)|exact ag.aU.of_eq (by rw[cc h2];rfl)
theorem Gs{x y:Int}{b:Bool}(aa:uM x y=b):aO ah 283 [bn x y] (bl b):=by
 have a7:=Ti (n:=x) rfl;have bK:=Ti (n:=y) rfl;unfold uM at aa;cases q1:uL x <;> cases q2:uL y <;> rw[q1] at a7 <;> rw[q2] at bK <;> rw[q1,q2] at aa <;> subst aa <;> clear q1 q2
 all_goals
  refine bo (f:=283) Tryz.func283 rfl rfl rfl rfl ?_;(refine cK ?_)
  ((refine bk rfl (aY rfl aM) ?_))
  exact ag.aU.refl _
theorem Tl{k:Int}{b:Bool}(aa:FW k=b):aO ah 284 [aL k] (bl b):=by
 have cs:(k=0∧b=true)∨(¬k=0∧k=1∧b=true)∨(¬k=0∧¬k=1∧k=2∧b=true)∨(¬k=0∧¬k=1∧¬k=2∧b=false):=by
  rw[←aa];unfold FW
  by_cases h1:k=0
  ·exact .inl ⟨h1,by subst h1;rfl⟩
  ·by_cases h2:k=1
   ·exact .inr (.inl ⟨h1,h2,by subst h2;rfl⟩)
   ·by_cases ar:k=2
    ·exact .inr (.inr (.inl ⟨h1,h2,ar,by subst ar;rfl⟩))
    ·refine .inr (.inr (.inr ⟨h1,h2,ar,?_⟩));rw[Bool.and_eq_false_iff,kG,kG];omega
 clear aa;rcases cs with ⟨h1,rfl⟩|⟨h1,h2,rfl⟩|⟨h1,h2,ar,rfl⟩|⟨h1,h2,ar,rfl⟩
 all_goals
  refine bo (f:=284) Tryz.func284 rfl rfl rfl rfl ?_;(repeat first|refine dc ?_|(with_reducible apply bR (c:=true));rfl;rfl;(exact b5 (by omega))|(with_reducible apply bR (c:=false));rfl;rfl;(exact cc (by omega)))
  ((refine bk rfl (aY rfl aM) ?_))
  first|exact ag.aU.refl _|exact ag.aU.of_eq (by rw[b5 ar];rfl)|exact ag.aU.of_eq (by rw[cc ar];rfl)
theorem ahR{a1 a2 b1 b2 l1 l2 h1 h2 k:Int}{o p r:Bool}{fI d1 m1 aH gD d2 m2 aN rj d3 m3 b6 rk d4 m4 eb:Int}{q1 cp q2 dQ q3 ki q4 sN:Bool}(bd:aO ah 185 [bn a1 a2] (bl true))(dR:aO ah 185 [bn b1 b2] (bl true))(DE:aO ah 283 [bn l1 l2] (bl true))(M6:aO ah 283 [bn h1 h2] (bl true))(Xk:aO ah 284 [aL k] (bl true))
  (aaH:(!decide (k=2))=o) (tl:decide (k=1)=p) (aP:aO ah 285 [bn a1 a2,bn b1 b2] (hB a1 a2 b1 b2 0 1 true 1 1 true))
  (a7:aO ah 286 [vQ l1 l2 h1 h2 o p,hB a1 a2 b1 b2 0 1 true 1 1 true] (hB a1 a2 b1 b2 fI d1 q1 m1 aH cp))
  (bK:aO ah 287 [vQ l1 l2 h1 h2 o p,hB a1 a2 b1 b2 fI d1 q1 m1 aH cp] (hB a1 a2 b1 b2 gD d2 q2 m2 aN dQ))
  (dZ:aO ah 288 [vQ l1 l2 h1 h2 o p,hB a1 a2 b1 b2 gD d2 q2 m2 aN dQ] (hB a1 a2 b1 b2 rj d3 q3 m3 b6 ki))
  (js:aO ah 289 [vQ l1 l2 h1 h2 o p,hB a1 a2 b1 b2 rj d3 q3 m3 b6 ki] (hB a1 a2 b1 b2 rk d4 q4 m4 eb sN))
  (H1:aO ah 290 [hB a1 a2 b1 b2 rk d4 q4 m4 eb sN] (bl r)) :
  aO ah 250 [bn a1 a2,bn b1 b2,bn l1 l2,bn h1 h2,aL k] (bl r):=by
 subst aaH;subst tl;refine bo (f:=250) Tryz.func250 rfl rfl rfl rfl ?_;(refine cK ?_);refine Zi 5 ?_;(refine cK ?_)
 ((refine bk rfl (aY rfl aM) ?_))
 exact ag.aU.refl _
def dz(a1 a2 b1 b2 l1 l2 h1 h2 k:Int):Pa:=uO (2*a1-l1) (2*b1-l1) (2*a2-l2) (2*b2-l2) (h1-2*a1) (h1-2*b1) (h2-2*a2) (h2-2*b2) (!decide (k=2)) (decide (k=1))
def y0(a1 a2 b1 b2 l1 l2 h1 h2 k:Int):Bool:=c5 a1 a2&&c5 b1 b2&&uM l1 l2&&uM h1 h2&&FW k
def yZ(a1 a2 b1 b2 l1 l2 h1 h2 k:Int):Bool:=y0 a1 a2 b1 b2 l1 l2 h1 h2 k&&yb (dz a1 a2 b1 b2 l1 l2 h1 h2 k)
theorem ahS{a1 a2 b1 b2 l1 l2 h1 h2 k:Int}{cp dQ ki sN GD:Bool}(bd:aO ah 185 [bn a1 a2] (bl cp))(dR:aO ah 185 [bn b1 b2] (bl dQ))(DE:aO ah 283 [bn l1 l2] (bl ki))(M6:aO ah 283 [bn h1 h2] (bl sN))(Xk:aO ah 284 [aL k] (bl GD))(h:(cp&&dQ&&ki&&sN&&GD)=false) :
  aO ah 250 [bn a1 a2,bn b1 b2,bn l1 l2,bn h1 h2,aL k] (bl false):=by
 have cs:cp=false∨(cp=true∧dQ=false)∨(cp=true∧dQ=true∧ki=false)∨(cp=true∧dQ=true∧ki=true∧sN=false)∨(cp=true∧dQ=true∧ki=true∧sN=true∧GD=false):=by
  cases cp <;> cases dQ <;> cases ki <;> cases sN <;> cases GD <;> simp_all
 clear h;rcases cs with rfl|⟨rfl,rfl⟩|⟨rfl,rfl,rfl⟩|⟨rfl,rfl,rfl,rfl⟩|⟨rfl,rfl,rfl,rfl,rfl⟩
 all_goals
  refine bo (f:=250) Tryz.func250 rfl rfl rfl rfl ?_;(refine cK ?_)
  ((refine bk rfl (aY rfl aM) ?_))
  exact ag.aU.refl _
theorem NB:Ab wj:=⟨⟨by decide,by decide⟩,⟨by decide,by decide⟩⟩
theorem ahQ{a1 a2 b1 b2 l1 l2 h1 h2 k:Int}:aO ah 250 [bn a1 a2,bn b1 b2,bn l1 l2,bn h1 h2,aL k] (bl (yZ a1 a2 b1 b2 l1 l2 h1 h2 k)):=by
 unfold yZ;cases ao:y0 a1 a2 b1 b2 l1 l2 h1 h2 k with
 | false=>exact ahS (qo rfl) (qo rfl) (Gs rfl) (Gs rfl) (Tl rfl) ao
 | true =>
  rw[pF];unfold y0 at ao;simp only[eg] at ao;obtain⟨⟨⟨⟨T9,Ua⟩,Uw⟩,Ut⟩,ajY⟩:=ao;have FJ:=ui.1 T9;have FK:=ui.1 Ua;have Q7:=Em.1 Uw;have cf:=Em.1 Ut;unfold dz uO;have o1:=FZ (u:=2*a1-l1) (v:=2*b1-l1) (w := !decide (k=2)) NB (by omega) (by omega);have o2:=FZ (u:=2*a2-l2) (v:=2*b2-l2) (w := !decide (k=2)) o1 (by omega) (by omega);have SJ:=FZ (u:=h1-2*a1) (v:=h1-2*b1) (w:=decide (k=1)) o2 (by omega) (by omega);have ag6:=FZ (u:=h2-2*a2) (v:=h2-2*b2) (w:=decide (k=1)) SJ (by omega) (by omega);exact ahR (qo T9) (qo Ua) (Gs Uw) (Gs Ut) (Tl ajY) rfl rfl ah4 (ain FJ.1 FK.1 Q7.1 (Gt NB (by omega) (by omega))) (aim FJ.2 FK.2 Q7.2 (Gt o1 (by omega) (by omega))) (aio FJ.1 FK.1 cf.1 (Gt o2 (by omega) (by omega))) (ail FJ.2 FK.2 cf.2 (Gt SJ (by omega) (by omega))) (aiy ag6)
theorem S9{a1 a2 b1 b2 x y k:Int}{cp dQ:Bool}(vW:aO ah 80 [aL k] (bl cp))(W4:aO ah 145 [bn x y,aL k] (bl dQ))(h:(cp&&dQ)=false):aO ah 193 [bn a1 a2,bn b1 b2,bn x y,aL k] (bl false):=by
 have cs:cp=false∨(cp=true∧dQ=false):=by cases cp <;> cases dQ <;> simp_all
 clear h;rcases cs with rfl|⟨rfl,rfl⟩
 all_goals
  refine bo (f:=193) Tryz.func193 rfl rfl rfl rfl ?_;(refine cK ?_)
  ((refine bk rfl (aY rfl aM) ?_))
  exact ag.aU.refl _
theorem ahJ{a1 a2 b1 b2 x y k l1 l2 h1 h2:Int}{r:Bool}(vW:aO ah 80 [aL k] (bl true))(W4:aO ah 145 [bn x y,aL k] (bl true))(amo:aO ah 249 [bn x y,aL k] (.ck [.agg [.c (.int .i64 l1),.c (.int .i64 l2)],.agg [.c (.int .i64 h1),.c (.int .i64 h2)]]))(M:aO ah 250 [bn a1 a2,bn b1 b2,bn l1 l2,bn h1 h2,aL 0] (bl r)):aO ah 193 [bn a1 a2,bn b1 b2,bn x y,aL k] (bl r):=by
 refine bo (f:=193) Tryz.func193 rfl rfl rfl rfl ?_;(refine cK ?_)
 ((refine bk rfl (aY rfl aM) ?_))
 exact ag.aU.refl _
def yC(a1 a2 b1 b2 x y k:Int):Bool:=decide (0≤k)&&decide (k≤28)&&dX k.toNat x y&&yZ a1 a2 b1 b2 (2*(2^k.toNat*x)-2^k.toNat) (2*(2^k.toNat*y)-2^k.toNat) (2*(2^k.toNat*x)+2^k.toNat) (2*(2^k.toNat*y)+2^k.toNat) 0
theorem aeH{k:Int}(h:(decide (0≤k)&&decide (k≤28))=true):hj k k.toNat:=by
 simp only[eg,cT] at h;unfold hj;omega
theorem ahI{a1 a2 b1 b2 x y k:Int}:aO ah 193 [bn a1 a2,bn b1 b2,bn x y,aL k] (bl (yC a1 a2 b1 b2 x y k)):=by
 unfold yC;have vW:=Gr (k:=k);cases ae:(decide (0≤k)&&decide (k≤28)) with
 | false =>
  rw[ae] at vW;obtain⟨r,ao⟩:=aeG k;exact S9 vW (tW ao rfl) rfl
 | true =>
  rw[ae] at vW;have ao:=aeH ae;cases hi:dX k.toNat x y with
  | false=>exact S9 vW (tW ao hi) rfl
  | true=>exact ahJ vW (tW ao hi) (ah0 ao hi) ahQ
end Go.Proofs.YtklpfooafbjnpaaGreat
namespace Go.Proofs.YtklpfooafbjnpaaGreat
def Na(a1 a2 b1 b2 l1 l2 h1 h2 k:Int):Prop:=Met (2*a1-l1) (2*b1-l1) (2*a2-l2) (2*b2-l2) (h1-2*a1) (h1-2*b1) (h2-2*a2) (h2-2*b2) (!decide (k=2)) (decide (k=1))
theorem K0{a1 a2 b1 b2 l1 l2 h1 h2 k:Int}:yZ a1 a2 b1 b2 l1 l2 h1 h2 k=true↔y0 a1 a2 b1 b2 l1 l2 h1 h2 k=true∧Na a1 a2 b1 b2 l1 l2 h1 h2 k:=by
 unfold yZ dz Na;rw[eg,Z6]
theorem agf{a1 a2 b1 b2 l1 l2 h1 h2 k:Int}:y0 a1 a2 b1 b2 l1 l2 h1 h2 k=true↔c5 a1 a2=true∧c5 b1 b2=true∧uM l1 l2=true∧uM h1 h2=true∧FW k=true:=by
 unfold y0;simp only[eg,and_assoc]
end Go.Proofs.YtklpfooafbjnpaaGreat
namespace Go.Proofs.YtklpfooafbjnpaaGreat
open Go.ChangeShapes Go.WideShapes Go.ChangeAt Go.RowKit Go.Joins
theorem aht:ownKnob ah.godebug=none:=by kernel_rfl
section
variable{H:Type}{enc:TypeId×Value→H}{P:Program}
end
section
variable{P:Program}{W:World}{r:Reach}{b:Nat}{t:TypeId}{v:Value}
end
end Go.Proofs.YtklpfooafbjnpaaGreat
namespace Go.Proofs.YtklpfooafbjnpaaGreat
open Go.RowKit
theorem abF{P v:Int}(eX:0<P):2*((2*v+P)/(2*P)*P)≤2*v+P∧2*v+P<2*((2*v+P)/(2*P)*P)+2*P:=by
 have h1:=rv (2*v+P) (2*P);have h2:=pC (2*v+P) (show 2*P≠0 by omega);have ar:=o4 (2*v+P) (show 0<2*P by omega);have e:2*P*((2*v+P)/(2*P))=2*((2*v+P)/(2*P)*P):=by rw[k4,k3 P]
 omega
theorem JU{a1 a2 b1 b2 q1 q2:Int}{r:Nat}(ao:r≤28):yC a1 a2 b1 b2 q1 q2 r=true↔dX r q1 q2=true∧yZ a1 a2 b1 b2 (2*(2^r*q1)-2^r) (2*(2^r*q2)-2^r) (2*(2^r*q1)+2^r) (2*(2^r*q2)+2^r) 0=true:=by
 unfold yC;have g1:decide ((0:Int)≤(r:Int))=true:=b5 (by omega);have g2:decide ((r:Int)≤28)=true:=b5 (by omega);rw[g1,g2,kI,Bool.and_self,pF,eg]
def Dz(p:aq):Prop:=(-9223372036854775808≤p.1∧p.1≤9223372036854775807) ∧ -9223372036854775808≤p.2∧p.2≤9223372036854775807
def sy(a1 a2 b1 b2 k:Int)(p:aq):Bool:=yC a1 a2 b1 b2 p.1 p.2 k
end Go.Proofs.YtklpfooafbjnpaaGreat
namespace Go.Proofs.YtklpfooafbjnpaaGreat
def tT(a b x A1 t:Rat):Prop := -A1≤2*a+t*(2*(b-a))-x∧2*a+t*(2*(b-a))-x≤A1
def oT(S p q x u:Rat):Prop:=2*(S*x)-S≤2*(S*p+u*(S*q-S*p))∧2*(S*p+u*(S*q-S*p))<2*(S*x)+S
theorem SE{a b p q x S d t1 t2 u:Rat}(h1:tT a b (2*(S*p)) (d*S) t1)(h2:tT a b (2*(S*q)) (d*S) t2)(k6:0≤u)(cP:u≤1)(hm:oT S p q x u):tT a b (2*(S*x)) ((d+1)*S) (t1+u*(t2-t1)):=by
 obtain⟨a1,a2⟩:=h1;obtain⟨b1,b2⟩:=h2;obtain⟨m1,m2⟩:=hm;have v0:0≤1-u:=by grind
 have bD:=lB v0 (show 0≤2*a+t1*(2*(b-a))-2*(S*p)+d*S by grind);have cm:=lB v0 (show 0≤d*S-(2*a+t1*(2*(b-a))-2*(S*p)) by grind);have jB:=lB k6 (show 0≤2*a+t2*(2*(b-a))-2*(S*q)+d*S by grind);have lv:=lB k6 (show 0≤d*S-(2*a+t2*(2*(b-a))-2*(S*q)) by grind)
 constructor
 ·grind
 ·grind
theorem SF{a b x f g t:Rat}(yz:f≤g)(h:tT a b x f t):tT a b x g t:=by
 obtain⟨h1,h2⟩:=h
 constructor <;> grind
abbrev bw(n:Int):Rat:=(n:Rat)
def y9(a1 a2 b1 b2 S:Int)(A1 t:Rat)(v:aq):Prop:=tT (bw a1) (bw b1) (2*(bw S*bw v.1)) A1 t∧tT (bw a2) (bw b2) (2*(bw S*bw v.2)) A1 t
def rU(S:Int)(p q:aq)(u:Rat)(x:aq):Prop:=(0≤u∧u≤1)∧oT (bw S) (bw p.1) (bw q.1) (bw x.1) u∧oT (bw S) (bw p.2) (bw q.2) (bw x.2) u
theorem ag0{a1 a2 b1 b2 S:Int}{d t1 t2 u:Rat}{p q x:aq}(h1:y9 a1 a2 b1 b2 S (d*bw S) t1 p)(h2:y9 a1 a2 b1 b2 S (d*bw S) t2 q)(hm:rU S p q u x):y9 a1 a2 b1 b2 S ((d+1)*bw S) (t1+u*(t2-t1)) x :=
 ⟨SE h1.1 h2.1 hm.1.1 hm.1.2 hm.2.1,SE h1.2 h2.2 hm.1.1 hm.1.2 hm.2.2⟩
theorem ag1{a1 a2 b1 b2 S:Int}{f g t:Rat}{v:aq}(yz:f≤g)(h:y9 a1 a2 b1 b2 S f t v):y9 a1 a2 b1 b2 S g t v:=⟨SF yz h.1,SF yz h.2⟩
theorem sO{a b:Int}:bw a≤bw b↔a≤b:=Rat.intCast_le_intCast
theorem LQ{a b:Int}:bw a<bw b↔a<b:=Rat.intCast_lt_intCast
theorem rz{a:Int}(h:0<a):0<bw a:=by have:=LQ.2 h;simpa [bw] using this
theorem GG{a b:Int}(h:a<b):bw a+1≤bw b:=by
 have:=sO.2 (show a+1≤b from h);simpa [bw,tZ] using this
theorem Sh{S p q x y:Int}{u w:Rat}(hS:0<S)(ab:oT (bw S) (bw p) (bw q) (bw x) u)(ai:oT (bw S) (bw p) (bw q) (bw y) w)(mq:x<y)(jh:p≤q):u≤w:=by
 have eA:=rz hS;obtain⟨dd,dj⟩:=ab;obtain⟨jP,mD⟩:=ai;have h1:=GG mq;have h2:=sO.2 jh;have bD:=lB (Rat.le_of_lt eA) (show 0≤bw y-(bw x+1) by grind);refine Rat.not_lt.1 fun aee => ?_;have cm:=lB (show 0≤u-w by grind) (lB (Rat.le_of_lt eA) (show 0≤bw q-bw p by grind));grind
theorem Sg{S p q x y:Int}{u w:Rat}(hS:0<S)(ab:oT (bw S) (bw p) (bw q) (bw x) u)(ai:oT (bw S) (bw p) (bw q) (bw y) w)(mq:y<x)(jh:q≤p):u≤w:=by
 have eA:=rz hS;obtain⟨dd,dj⟩:=ab;obtain⟨jP,mD⟩:=ai;have h1:=GG mq;have h2:=sO.2 jh;have bD:=lB (Rat.le_of_lt eA) (show 0≤bw x-(bw y+1) by grind);refine Rat.not_lt.1 fun aee => ?_;have cm:=lB (show 0≤u-w by grind) (lB (Rat.le_of_lt eA) (show 0≤bw p-bw q by grind));grind
theorem F7{S p q x y:Int}{u w:Rat}(hS:0<S)(ab:oT (bw S) (bw p) (bw q) (bw x) u)(ai:oT (bw S) (bw p) (bw q) (bw y) w)(tH:u≤w)(jh:p≤q):x≤y:=by
 have eA:=rz hS;obtain⟨dd,dj⟩:=ab;obtain⟨jP,mD⟩:=ai;refine Int.not_lt.1 fun KA => ?_;have h1:=GG KA;have h2:=sO.2 jh;have bD:=lB (Rat.le_of_lt eA) (show 0≤bw x-(bw y+1) by grind);have cm:=lB (show 0≤w-u by grind) (lB (Rat.le_of_lt eA) (show 0≤bw q-bw p by grind));grind
theorem F6{S p q x y:Int}{u w:Rat}(hS:0<S)(ab:oT (bw S) (bw p) (bw q) (bw x) u)(ai:oT (bw S) (bw p) (bw q) (bw y) w)(tH:u≤w)(jh:q≤p):y≤x:=by
 have eA:=rz hS;obtain⟨dd,dj⟩:=ab;obtain⟨jP,mD⟩:=ai;refine Int.not_lt.1 fun KA => ?_;have h1:=GG KA;have h2:=sO.2 jh;have bD:=lB (Rat.le_of_lt eA) (show 0≤bw y-(bw x+1) by grind);have cm:=lB (show 0≤w-u by grind) (lB (Rat.le_of_lt eA) (show 0≤bw p-bw q by grind));grind
theorem Se{S p q:Int}(hS:0<S):oT (bw S) (bw p) (bw q) (bw p) 0:=by
 have eA:=rz hS
 constructor <;> grind
theorem Sf{S p q:Int}(hS:0<S):oT (bw S) (bw p) (bw q) (bw q) 1:=by
 have eA:=rz hS
 constructor <;> grind
theorem F5{S p q x:Int}{u:Rat}(hS:0<S)(aE:0≤u)(h1:u≤1)(ab:oT (bw S) (bw p) (bw q) (bw x) u):(p≤q→p≤x∧x≤q)∧(q≤p→q≤x∧x≤p) :=
 ⟨fun h=>⟨F7 hS (Se hS) ab aE h,F7 hS ab (Sf hS) h1 h⟩,fun h=>⟨F6 hS ab (Sf hS) h1 h,F6 hS (Se hS) ab aE h⟩⟩
theorem R9{S:Int}{p q x y:aq}{u w:Rat}(hS:0<S)(ab:rU S p q u x)(ai:rU S p q w y)(h:ea (decide (S*q.1<S*p.1)) (decide (S*q.2<S*p.2)) x y=true):u≤w:=by
 have aH:(S*q.1<S*p.1)↔q.1<p.1:=⟨fun h=>Int.lt_of_mul_lt_mul_left h (by omega),fun h=>Int.mul_lt_mul_of_pos_left h hS⟩;have aN:(S*q.2<S*p.2)↔q.2<p.2:=⟨fun h=>Int.lt_of_mul_lt_mul_left h (by omega),fun h=>Int.mul_lt_mul_of_pos_left h hS⟩;rw[Ao] at h;simp only[cT,aH,aN] at h;rcases h with h|⟨he,h⟩
 ·by_cases g:q.1<p.1
  ·rw[if_pos g] at h;exact Sg hS ab.2.1 ai.2.1 h (by omega)
  ·rw[if_neg g] at h;exact Sh hS ab.2.1 ai.2.1 h (by omega)
 ·by_cases g:q.2<p.2
  ·rw[if_pos g] at h;exact Sg hS ab.2.2 ai.2.2 h (by omega)
  ·rw[if_neg g] at h;exact Sh hS ab.2.2 ai.2.2 h (by omega)
theorem adD{a b l n d u:Rat}(d0:0<d)(hu:u*d=n)(h:0≤(2*a-l)*(d-n)+(2*b-l)*n):l≤2*(a+u*(b-a)):=by
 subst hu;refine Rat.not_lt.1 fun a8 => ?_;have k:=Rat.mul_pos d0 (show 0<l-2*(a+u*(b-a)) by grind);grind
theorem adE{a b l n d u:Rat}(d0:0<d)(hu:u*d=n)(h:0<(l-2*a)*(d-n)+(l-2*b)*n):2*(a+u*(b-a))<l:=by
 subst hu;refine Rat.not_le.1 fun a8 => ?_;have k:=lB (Rat.le_of_lt d0) (show 0≤2*(a+u*(b-a))-l by grind);grind
theorem GF{n d:Int}(hd:0<d):bw n/bw d*bw d=bw n:=Rat.div_mul_cancel (by have:=rz hd;grind)
theorem Qv{a b l:Int}{n d:Int}(hd:0<d)(h:kN (2*a-l) (2*b-l) true n d):bw l≤2*(bw a+bw n/bw d*(bw b-bw a)):=by
 have h1:0≤(2*a-l)*(d-n)+(2*b-l)*n:=by rcases h with h|⟨_,h⟩ <;> omega
 refine adD (rz hd) (GF hd) ?_;have:=sO.2 h1;simpa [bw,tZ,Rat.intCast_mul,Rat.intCast_sub] using this
theorem Qw{a b l:Int}{n d:Int}(hd:0<d)(h:kN (l-2*a) (l-2*b) false n d):2*(bw a+bw n/bw d*(bw b-bw a))<bw l:=by
 have h1:0<(l-2*a)*(d-n)+(l-2*b)*n:=by
  rcases h with h|⟨h,_⟩
  ·exact h
  ·cases h
 refine adE (rz hd) (GF hd) ?_;have:=LQ.2 h1;simpa [bw,tZ,Rat.intCast_mul,Rat.intCast_sub] using this
theorem agp{r:Nat}(ao:r≤28){p q x:aq}(h:sy (2^r*p.1) (2^r*p.2) (2^r*q.1) (2^r*q.2) r x=true):dX r x.1 x.2=true∧∃u,rU (2^r) p q u x:=by
 unfold sy at h;rw[JU ao] at h;refine⟨h.1,?_⟩;obtain⟨_,n,d,hd,⟨Bx,wW⟩,g1,g2,g3,g4⟩:=K0.1 h.2;have d0:=rz hd;refine⟨bw n/bw d,⟨?_,?_⟩,⟨?_,?_⟩,?_,?_⟩
 ·refine Rat.not_lt.1 fun a8 => ?_;have k:=Rat.mul_pos d0 (show 0 < -(bw n/bw d) by grind);have e:=GF (n:=n) hd;have gJ:=sO.2 Bx;have z:bw 0=0:=by simp[bw]
  rw[z] at gJ;generalize bw n/bw d=u at *;grind
 ·refine Rat.not_lt.1 fun a8 => ?_;have k:=Rat.mul_pos d0 (show 0<bw n/bw d-1 by grind);have e:=GF (n:=n) hd;have fI:=sO.2 wW;generalize bw n/bw d=u at *;grind
 ·have:=Qv hd g1;simpa [bw,tZ,Rat.intCast_mul,Rat.intCast_sub] using this
 ·have:=Qw hd g3;simpa [bw,tZ,Rat.intCast_mul,Rat.intCast_sub] using this
 ·have:=Qv hd g2;simpa [bw,tZ,Rat.intCast_mul,Rat.intCast_sub] using this
 ·have:=Qw hd g4;simpa [bw,tZ,Rat.intCast_mul,Rat.intCast_sub] using this
def qX(p q:aq)(out:List aq)(x:aq):List aq:=if x≠p∧x≠q∧out.getLast?≠some x then out++[x] else out
def OL(p q:aq)(l:List aq):List aq:=l.foldl (qX p q) []
theorem Rf{fx fy:Bool}{q:aq}:∀ {l:List aq},l.Pairwise (fun a b=>ea fx fy b a=false)→(nF fx fy q l).Pairwise fun a b=>ea fx fy b a=false
 | [],_=>by unfold nF;simp
 | p::l,h=>by
  have ak:=kh.1 h;unfold nF
  split
  ·rename_i aj;refine kh.2 ⟨fun r ao => ?_,h⟩;rcases fg.1 ao with rfl|ao
   ·exact Nz aj
   ·cases aZ:ea fx fy r q with
    | false=>rfl
    | true=>have:=ak.1 r ao;rw[Ap aZ aj] at this;cases this
  ·rename_i aj;refine kh.2 ⟨fun r ao => ?_,Rf ak.2⟩;rcases fg.1 ((B0 fx fy q l).mem_iff.1 ao) with rfl|ao
   ·simpa using aj
   ·exact ak.1 r ao
theorem ali(fx fy:Bool)(f:aq→Bool)(l:List aq):(sV fx fy f l).Pairwise fun a b=>ea fx fy b a=false:=by
 have key:∀(l out:List aq),out.Pairwise (fun a b=>ea fx fy b a=false)→(l.foldl (fun out q=>if f q then nF fx fy q out else out) out).Pairwise fun a b=>ea fx fy b a=false:=by
  intro l
  induction l with
  | nil=>intro out h;exact h
  | cons q l cf =>
   intro out h;rw[ub];refine cf _ ?_
   split
   ·exact Rf h
   ·exact h
 exact key l [] .nil
theorem IB{fx fy:Bool}{p q:aq}:∀(l out:List aq),lc fx fy out→(∀a∈out,∀b∈l,ea fx fy b a=false)→l.Pairwise (fun a b=>ea fx fy b a=false)→lc fx fy (l.foldl (qX p q) out)∧(∀x∈l.foldl (qX p q) out,x∈out∨(x∈l∧x≠p∧x≠q))∧(l.foldl (qX p q) out).length≤out.length+l.length
 | [],out,h,_,_=>⟨h,fun x ab => .inl ab,cE _⟩
 | x::l,out,h,hw,al=>by
  have ak:=kh.1 al;rw[ub]
  by_cases ab:x≠p∧x≠q∧out.getLast?≠some x
  ·have e:qX p q out x=out++[x]:=by unfold qX;rw[if_pos ab]
   rw[e]
   have aX:lc fx fy (out++[x]):=by
    unfold lc;rw[List.pairwise_append];refine⟨h,List.pairwise_singleton _ _,fun a aX b aa => ?_⟩;rw[jJ] at aa;subst aa;have h1:=hw a aX b (hc ..)
    by_cases pi:a=b
    ·subst pi;rcases List.eq_nil_or_concat out with aE|⟨fU,z,aE⟩
     ·subst aE;cases aX
     ·rw[List.concat_eq_append] at aE;subst aE;have aS:z≠a:=fun aZ=>ab.2.2 (by rw[aZ];simp)
      have tw:a∈fU:=by
       rcases kf.1 aX with aJ|aJ
       ·exact aJ
       ·exact absurd (jJ.1 aJ).symm aS
      have h2:=(List.pairwise_append.1 h).2.2 a tw z (jJ.2 rfl);have ar:=hw z (by simp) a (hc ..);rw[h2] at ar;cases ar
    ·exact(H4 pi).resolve_right (by rw[h1];decide)
   obtain⟨g1,g2,g3⟩:=IB l (out++[x]) aX (fun a tw b aa=>by
    rcases kf.1 tw with aJ|aJ
    ·exact hw a aJ b (kH _ aa)
    ·rw[jJ.1 aJ];exact ak.1 b aa) ak.2
   refine⟨g1,fun y ai => ?_,by rw[cY,List.length_singleton] at g3;simp only[hb];omega⟩;rcases g2 y ai with aJ|aJ
   ·rcases kf.1 aJ with aJ|aJ
    ·exact .inl aJ
    ·rw[jJ.1 aJ];exact .inr ⟨hc ..,ab.1,ab.2.1⟩
   ·exact .inr ⟨kH _ aJ.1,aJ.2⟩
  ·have e:qX p q out x=out:=by unfold qX;rw[if_neg ab]
   rw[e];obtain⟨g1,g2,g3⟩:=IB l out h (fun a tw b aa=>hw a tw b (kH _ aa)) ak.2;refine⟨g1,fun y ai => ?_,by simp only[hb];omega⟩;rcases g2 y ai with aJ|aJ
   ·exact .inl aJ
   ·exact .inr ⟨kH _ aJ.1,aJ.2⟩
def tb(r:Nat)(l:List aq)(p q:aq):List aq:=OL p q (sV (decide ((2:Int)^r*q.1<2^r*p.1)) (decide ((2:Int)^r*q.2<2^r*p.2)) (sy (2^r*p.1) (2^r*p.2) (2^r*q.1) (2^r*q.2) r) l)
theorem D3{r:Nat}(ao:r≤28)(l:List aq)(p q:aq):lc (decide ((2:Int)^r*q.1<2^r*p.1)) (decide ((2:Int)^r*q.2<2^r*p.2)) (tb r l p q)∧(∀x∈tb r l p q,(x≠p∧x≠q)∧dX r x.1 x.2=true∧∃u,rU (2^r) p q u x)∧(tb r l p q).length≤l.length:=by
 obtain⟨g1,g2,g3⟩:=IB (p:=p) (q:=q) _ [] (List.Pairwise.nil:lc (decide ((2:Int)^r*q.1<2^r*p.1)) (decide ((2:Int)^r*q.2<2^r*p.2)) []) (fun a aX=>by cases aX) (ali _ _ (sy (2^r*p.1) (2^r*p.2) (2^r*q.1) (2^r*q.2) r) l);refine⟨g1,fun x ab => ?_,?_⟩
 ·rcases g2 x ab with h|⟨h1,h2⟩
  ·cases h
  ·have ar:=(List.mem_filter.1 ((G2 _ _ _ l).mem_iff.1 h1)).2;exact⟨h2,agp ao ar⟩
 ·refine eO g3 ?_;rw[List.length_nil,ib];exact alh _ _ _ l
def gu(R:aq→aq→Prop):List aq→Prop
 | p::q::W=>R p q∧gu R (q::W)
 | _=>True
theorem Iw{R:aq→aq→Prop}:∀ {l:List aq},l.Pairwise R→gu R l
 | [],_=>trivial
 | [_],_=>trivial
 | p::q::W,h=>by
  have ak:=kh.1 h;exact⟨ak.1 q (hc ..),Iw ak.2⟩
theorem Iv{R:aq→aq→Prop}{q:aq}{W:List aq}:∀ {A:List aq},gu R (A++[q])→gu R (q::W)→gu R (A++q::W)
 | [],_,h=>h
 | [a],h,aJ=>⟨h.1,aJ⟩
 | a::b::A,h,aJ=>⟨h.1,Iv (A:=b::A) h.2 aJ⟩
theorem D4{r:Nat}(ao:r≤28)(l:List aq)(p q:aq){R:aq→aq→Prop}(aE:R p q)(h1:∀x,(∃u,rU (2^r) p q u x)→R p x∧R x q)(h2:∀x y u w,rU (2^r) p q u x→rU (2^r) p q w y→u≤w→R x y):gu R (p::(tb r l p q++[q])):=by
 obtain⟨s1,s2,_⟩:=D3 ao l p q;have hS:(0:Int)<2^r:=jo (by decide);refine Iw (kh.2 ⟨fun x ab => ?_,List.pairwise_append.2 ⟨s1.imp_of_mem fun{x y} ab ai mq => ?_,List.pairwise_singleton _ _,fun x ab y ai => ?_⟩⟩)
 ·rcases kf.1 ab with ab|ab
  ·exact(h1 x (s2 x ab).2.2).1
  ·rw[jJ.1 ab];exact aE
 ·obtain⟨u,hu⟩:=(s2 x ab).2.2;obtain⟨w,hw⟩:=(s2 y ai).2.2;exact h2 x y u w hu hw (R9 hS hu hw mq)
 ·rw[jJ.1 ai];exact(h1 x (s2 x ab).2.2).2
theorem Zd{r:Nat}(ao:r≤28)(l:List aq)(p q:aq)(h:p≠q):gu (· ≠ ·) (p::(tb r l p q++[q])):=by
 obtain⟨s1,s2,_⟩:=D3 ao l p q;refine Iw (kh.2 ⟨fun x ab => ?_,List.pairwise_append.2 ⟨s1.imp fun{x y} mq e => ?_,List.pairwise_singleton _ _,fun x ab y ai => ?_⟩⟩)
 ·rcases kf.1 ab with ab|ab
  ·exact fun e=>(s2 x ab).1.1 e.symm
  ·rw[jJ.1 ab];exact h
 ·subst e;rw[NA] at mq;cases mq
 ·rw[jJ.1 ai];exact(s2 x ab).1.2
def xy(r:Nat)(V:List aq)(D:List Int):Prop :=
 V≠[]∧V.length=D.length+1∧(∀v∈V,dX r v.1 v.2=true)∧gu (· ≠ ·) V∧(∀d∈D,1≤d∧d≤1048576) ∧
  (gu (fun p q=>p.1≤q.1) V∨gu (fun p q=>q.1≤p.1) V)∧(gu (fun p q=>p.2≤q.2) V∨gu (fun p q=>q.2≤p.2) V)
def G3(V:List aq)(j:Nat)(l:List aq):List aq:=V.take (j+1)++l++V.drop (j+1)
def C1(D:List Int)(j:Nat)(n:Nat):List Int:=D.take j++List.replicate (n+1) (D.getD j 0+1)++D.drop (j+1)
theorem aap{V:List aq}{j:Nat}{p q:aq}(hp:V[j]?=some p)(aj:V[j+1]?=some q):V.drop j=p::q::V.drop (j+2):=by
 obtain⟨h1,aH⟩:=bq.1 hp;obtain⟨h2,aN⟩:=bq.1 aj;rw[jK h1,aH,jK h2,aN]
end Go.Proofs.YtklpfooafbjnpaaGreat
namespace Go.Proofs.YtklpfooafbjnpaaGreat
open Go.RowKit
def qq(a b c d:Int):Int:=if dE a b c d=true then 0 else if a<c∨(a=c∧b<d) then -1 else 1
theorem aiR{a b c d:Int}:aO ah 276 [bn a b,bn c d] (aL (qq a b c d)):=by
 have cs:(dE a b c d=true∧qq a b c d=0)∨(dE a b c d=false∧a<c∧qq a b c d = -1)∨(dE a b c d=false∧¬a<c∧a=c∧b<d∧qq a b c d = -1)∨(dE a b c d=false∧¬a<c∧a=c∧¬b<d∧qq a b c d=1)∨(dE a b c d=false∧¬a<c∧¬a=c∧qq a b c d=1):=by
  unfold qq;cases h:dE a b c d with
  | true=>simp
  | false =>
   by_cases h1:a<c <;> by_cases h2:a=c <;> by_cases ar:b<d <;> simp[h1,h2,ar] <;> omega
 rcases cs with ⟨h1,h⟩|⟨h1,h2,h⟩|⟨h1,h2,ar,aK,h⟩|⟨h1,h2,ar,aK,h⟩|⟨h1,h2,ar,h⟩ <;> rw[h] <;> clear h
 all_goals
  refine bo (f:=276) Tryz.func276 rfl rfl rfl rfl ?_;(repeat first|refine dc ?_|(with_reducible apply bR (c:=true));rfl;rfl;(exact b5 (by omega))|(with_reducible apply bR (c:=false));rfl;rfl;(exact cc (by omega)))
  ((refine bk rfl (aY rfl aM) ?_))
  exact ag.aU.refl _
end Go.Proofs.YtklpfooafbjnpaaGreat
