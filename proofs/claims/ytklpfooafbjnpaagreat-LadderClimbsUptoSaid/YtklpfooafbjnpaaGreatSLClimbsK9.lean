/-
  My own texts,without what this claim does not need. My own text.
-/
import Derived.Deep.DrawnRows
import Derived.RegionTactic
import Derived.Deep.LoopGhost
import Derived.Deep.DeepCutAuto
import Derived.Test.YtklpfooafbjnpaaGreatProg
import Derived.ProofKit
import Derived.OpenShut
import Derived.Deep.DeepHandedRow
import Derived.Lib.LaidTab
import Derived.Lib.SmallJoins
import Derived.Test.YtklpfooafbjnpaaGreatSLClimbsK8
set_option maxRecDepth 100000
set_option maxHeartbeats 64000000
set_option linter.unusedVariables false
set_option linter.unusedSimpArgs false
set_option linter.unusedSectionVars false
open Go.Proofs.Tryz renaming prog → ah
namespace Go.Proofs.YtklpfooafbjnpaaGreat
open Go.RowKit
def iz(w:World)(b:Nat)(u v x y:Value):Prop:=(w.cell? ⟨b,0,none⟩=some u∧w.cell? ⟨b,1,none⟩=some v∧w.cell? ⟨b,2,none⟩=some x∧w.cell? ⟨b,3,none⟩=some y)∧(w.frozen? ⟨b,0,none⟩=false∧w.frozen? ⟨b,1,none⟩=false∧w.frozen? ⟨b,2,none⟩=false∧w.frozen? ⟨b,3,none⟩=false)
section
variable{w W w1:World}{b g:Nat}{u v x y q:Value}
theorem iz.lt(h:iz w b u v x y):b<w.heap.size:=World.block_lt_of_cell? w _ h.1.1
theorem iz.call(h:iz W b u v x y)(aa:Below W.heap.size W w1):iz w1 b u v x y:=by
 have al:=h.lt;obtain⟨⟨h1,h2,ar,aJ⟩,bx,cl,jM,lF⟩:=h;exact⟨⟨(aa.cell (p:=⟨b,0,none⟩) al).trans h1,(aa.cell (p:=⟨b,1,none⟩) al).trans h2,(aa.cell (p:=⟨b,2,none⟩) al).trans ar,(aa.cell (p:=⟨b,3,none⟩) al).trans aJ⟩,(aa.frozen (p:=⟨b,0,none⟩) al).trans bx,(aa.frozen (p:=⟨b,1,none⟩) al).trans cl,(aa.frozen (p:=⟨b,2,none⟩) al).trans jM,(aa.frozen (p:=⟨b,3,none⟩) al).trans lF⟩
theorem iz.alloc(h:iz W b u v x y)(o:Obj):iz (W.alloc o) b u v x y:=h.call ((Below.refl _ _).alloc (cF _) o)
theorem iz.drew(h:iz W b u v x y):iz W.drew b u v x y:=h.call ((Below.refl _ _).drew)
theorem iz.new{t:TypeId}(e:b=W.heap.size):iz (W.alloc (.cells #[u,v,x,y] t)) b u v x y:=by
 subst e;unfold iz
 go_simp
theorem iz.set(h:iz W b u v x y)(o:Nat)(ne:g≠b):iz (W.setCell ⟨g,o,none⟩ q) b u v x y:=by
 obtain⟨⟨h1,h2,ar,aJ⟩,bx,cl,jM,lF⟩:=h;have gP:∀i,(⟨g,o,none⟩:Addr)≠⟨b,i,none⟩:=fun i e=>ne (congrArg Addr.block e);refine⟨⟨?_,?_,?_,?_⟩,?_,?_,?_,?_⟩
 ·rw[World.cell?_setCell_other _ _ _ _ (gP 0)];exact h1
 ·rw[World.cell?_setCell_other _ _ _ _ (gP 1)];exact h2
 ·rw[World.cell?_setCell_other _ _ _ _ (gP 2)];exact ar
 ·rw[World.cell?_setCell_other _ _ _ _ (gP 3)];exact aJ
 ·go_simp
 ·go_simp
 ·go_simp
 ·go_simp
end
section
variable{W:World}{b:Nat}{u v x y rK bf:Value}
end
theorem aen(d:Int):decide (0<fo d 0)=decide (0<d):=by
 unfold fo;rw[o7];simp only[cV]
 repeat' split
 all_goals omega
end Go.Proofs.YtklpfooafbjnpaaGreat
namespace Go.Proofs.YtklpfooafbjnpaaGreat
open Go.RowKit
attribute [local go_sem ↓] Go.wp_at_zero Go.wp_at_succ
def oY(n d:Int):Int:=if n % d<d-n % d then n/d else n/d+1
theorem Sz{n d:Int}(aA:fits n=true)(hd:0<d)(Bm:fits d=true):fits (d-n % d)=true∧(d-n % d≤n % d→fits (n/d+1)=true):=by
 unfold fits at *;rw[cV] at aA Bm;have aF:=pH n (show d≠0 by omega);have h1:=o8 n hd;have h2:=rC n d;rw[cV,cV];refine⟨by omega,fun hle => ?_⟩;have yB:2≤d:=by omega
 have q1:n/d*2≤170141183460469231731687303715884105727 ∧ -170141183460469231731687303715884105728≤n/d:=by
  refine⟨?_,?_⟩
  ·rcases qG (n/d) 0 with q|q
   ·omega
   ·have:n/d*2≤n/d*d:=sO yB q;rw[k9 (n/d) d] at this;omega
  ·rcases qG (n/d) 0 with q|q
   ·have:d*(n/d+1)≤1*(n/d+1):=Int.mul_le_mul_of_nonpos_right (by omega) (by omega);rw[Int.mul_add] at this;omega
   ·omega
 omega
end Go.Proofs.YtklpfooafbjnpaaGreat
namespace Go.Proofs.YtklpfooafbjnpaaGreat
open Go.RowKit
attribute [local go_sem ↓] Go.wp_at_zero Go.wp_at_succ
end Go.Proofs.YtklpfooafbjnpaaGreat
namespace Go.Proofs.YtklpfooafbjnpaaGreat
open Go.RowKit
attribute [local go_sem ↓] Go.wp_at_zero Go.wp_at_succ
theorem iz.cs{w:World}{b:Nat}{u v x y:Value}(h:iz w b u v x y):w.cell? ⟨b,0,none⟩=some u∧w.cell? ⟨b,1,none⟩=some v∧w.cell? ⟨b,2,none⟩=some x∧w.cell? ⟨b,3,none⟩=some y:=h.1
def nn(n d:Int)(k:Nat):Int:=if k=0 then oY n d else oY (n/d) (2^k)
theorem TT{k:Nat}(h:k≤100):fits ((2:Int)^k)=true:=by
 have h1:=Nat.pow_le_pow_right (show 0<2 by decide) h;rw[show (2:Nat)^100=1267650600228229401496703205376 by decide] at h1;have h2:=(ajh k).1;have e:((2:Int)^k)=((2^k:Nat):Int):=by simp
 unfold fits;rw[e,cV];generalize (2:Nat)^k=P at *;omega
end Go.Proofs.YtklpfooafbjnpaaGreat
namespace Go.Proofs.YtklpfooafbjnpaaGreat
open Go.RowKit
attribute [local go_sem ↓] Go.wp_at_zero Go.wp_at_succ
end Go.Proofs.YtklpfooafbjnpaaGreat
namespace Go.Proofs.YtklpfooafbjnpaaGreat
open Go.RowKit
attribute [local go_sem ↓] Go.wp_at_zero Go.wp_at_succ
end Go.Proofs.YtklpfooafbjnpaaGreat
namespace Go.Proofs.YtklpfooafbjnpaaGreat
open Go.RowKit
attribute [local go_sem ↓] Go.wp_at_zero Go.wp_at_succ
section
variable{w W w1:World}{g c4:Nat}{a b c d s t:Int}
end
end Go.Proofs.YtklpfooafbjnpaaGreat
namespace Go.Proofs.YtklpfooafbjnpaaGreat
open Go.RowKit
theorem xU{z:Int}(h:fits z=true):wf z = .cj [oz z,Mq]:=by
 show ag.cj [oz (if fits z then z else 0),.one (.c (.bool (fits z)))]=_;rw[h];rfl
theorem Wh{z:Int}(h:fits z=false):wf z = .cj [oz 0,.one (.c (.bool false))]:=by
 show ag.cj [oz (if fits z then z else 0),.one (.c (.bool (fits z)))]=_;rw[h];rfl
theorem Q8(a b:Int):fo a b<0↔a<b:=by unfold fo;split <;> (try split) <;> omega
theorem Ty{n d:Int}(f:fits n=true)(g:fits d=true)(hd:0<d):aP ah 304 [gK n,gK d] (gK (oY n d)):=by
 obtain⟨fq,gI⟩:=Sz f hd g;have pk:=kU.1 f;have lW:=kU.1 g;have hG:=pH n (show d≠0 by omega);have cn:=o8 n hd;have uY:fits (n % d)=true:=kU.2 (by omega);have aZ:=Te f g hd;have bM:=TJ g uY;have eh:=aiX uY fq;rw[xU fq] at bM;unfold oY
 by_cases h:n % d<d-n % d
 ·have ar:fo (n % d) (d-n % d)<0:=(Q8 ..).2 h;have ny:oY n d=n/d:=by unfold oY;first|rw[if_pos h]|(split <;> omega)
  unfold oY at ny;rw[ny];generalize fo (n % d) (d-n % d)=c at *;generalize n/d=q at *;generalize n % d=r at *;clear ny fq gI pk lW hG cn uY f g;refine bq (f:=304) Tryz.func304 rfl rfl rfl rfl ?_;(refine cR ?_)
  ((refine bn rfl (da rfl rfl rfl aM) ?_))
  exact ag.aW.refl _
 ·have ar:¬fo (n % d) (d-n % d)<0:=fun ba=>h ((Q8 ..).1 ba);have ny:oY n d=n/d+1:=by unfold oY;first|rw[if_neg h]|(split <;> omega)
  unfold oY at ny;rw[ny];have f5:=gI (by omega)
  have Po:fits (n/d)=true:=by
   have q1:=rC n d;have bO:=kU.1 f5;refine kU.2 ?_
   by_cases aA:0≤n
   ·have:=o9 aA (show 0≤d by omega);omega
   ·have fl:n*d≤n*1:=Int.mul_le_mul_of_nonpos_left (show n≤0 by omega) (show 1≤d by omega);have:=(pJ (a:=n) (b:=n) hd).2 (by omega);omega
  have j1:=vB (n:=1) (by decide) (by decide);have pf:=aiW Po (show fits 1=true by decide);rw[xU f5] at pf;generalize fo (n % d) (d-n % d)=c at *;generalize n/d=q at *;generalize n % d=r at *;clear ny fq gI pk lW hG cn uY f g Po f5;refine bq (f:=304) Tryz.func304 rfl rfl rfl rfl ?_;(refine cR ?_)
  ((refine bn rfl (da rfl rfl rfl aM) ?_))
  exact ag.aW.refl _
abbrev EL(n d:Int):bH := .agg [.c (.int .i64 (cy n)),.c (.int .u64 (dU n)),.c (.int .i64 (cy d)),.c (.int .u64 (dU d))]
abbrev fv(n d:Int):ag := .w (EL n d)
abbrev fx(n d:Int):Value := .agg #[.int .i64 (cy n),.int .u64 (dU n),.int .i64 (cy d),.int .u64 (dU d)]
abbrev uu(n:Int):Value := .agg #[.int .i64 (cy n),.int .u64 (dU n)]
theorem Q7(d:Int):(d<0→fo d 0 = -1)∧(d=0→fo d 0=0)∧(0<d→fo d 0=1):=by unfold fo;refine⟨fun h => ?_,fun h => ?_,fun h => ?_⟩ <;> split <;> (try split) <;> omega
section
set_option maxRecDepth 100000
set_option maxHeartbeats 4000000
theorem Tm{k:Int}(aF : -9223372036854775808≤k)(h1:k<9223372036854775808):aP ah 244 [aL k] (fv k 1):=by
 have aZ:=vB aF h1;have bM:=vB (n:=1) (by decide) (by decide);clear aF h1;refine bq (f:=244) Tryz.func244 rfl rfl rfl rfl ?_;(refine cR ?_)
 ((refine bn rfl (da rfl rfl rfl aM) ?_))
 exact ag.aW.refl _
theorem ahP{n d:Int}(f:fits n=true)(g:fits d=true)(hd:0<d):aP ah 247 [gK n,gK d] (.cj [EL n d,.one (.c (.bool true))]):=by
 have aZ:=Gy g;rw[(Q7 d).2.2 hd] at aZ;clear f g hd;refine bq (f:=247) Tryz.func247 rfl rfl rfl rfl ?_;(refine cR ?_)
 ((refine bn rfl (da rfl rfl rfl (bb rfl aM)) ?_))
 exact ag.aW.refl _
theorem ahO{n d:Int}(f:fits n=true)(g:fits d=true)(hd:d<0){s:Bool}{x y:Int}(hs:(fits (-n)&&fits (-d))=s)(ab:x=if s then -n else 0)(ai:y=if s then -d else 0):aP ah 247 [gK n,gK d] (.cj [EL x y,.one (.c (.bool s))]):=by
 have aZ:=Gy g;rw[(Q7 d).1 hd] at aZ;have bM:=TI f;have eh:=TI g;subst hs;clear f g hd;cases h1:fits (-n) with
 | true =>
  rw[h1] at ab ai;cases h2:fits (-d) with
  | true =>
   rw[h2] at ab ai;rw[xU h1] at bM;rw[xU h2] at eh;obtain rfl:x = -n:=ab;obtain rfl:y = -d:=ai;clear h1 h2;refine bq (f:=247) Tryz.func247 rfl rfl rfl rfl ?_;(refine cR ?_)
   ((refine bn rfl (da rfl rfl rfl (bb rfl aM)) ?_))
   exact ag.aW.refl _
  | false =>
   rw[h2] at ab ai;rw[xU h1] at bM;rw[Wh h2] at eh;obtain rfl:x=0:=ab;obtain rfl:y=0:=ai;clear h1 h2;refine bq (f:=247) Tryz.func247 rfl rfl rfl rfl ?_;(refine cR ?_)
   ((refine bn rfl (da rfl rfl rfl (bb rfl aM)) ?_))
   exact ag.aW.refl _
 | false =>
  rw[h1] at ab ai;rw[Wh h1] at bM;obtain rfl:x=0:=ab;obtain rfl:y=0:=ai;obtain⟨z,b,e⟩:∃z b,wf (-d) = .cj [oz z,.one (.c (.bool b))]:=⟨_,_,rfl⟩;rw[e] at eh;clear h1 e;refine bq (f:=247) Tryz.func247 rfl rfl rfl rfl ?_;(refine cR ?_)
  ((refine bn rfl (da rfl rfl rfl (bb rfl aM)) ?_))
  exact ag.aW.refl _
theorem Ti{n d:Int}(g:fits d=true):aP ah 303 [fv n d] (bl (decide (0<d))):=by
 have aZ:=Gy g;rw[←aen d];generalize fo d 0=c at *;clear g;refine bq (f:=303) Tryz.func303 rfl rfl rfl rfl ?_;(refine cR ?_)
 ((refine bn rfl (bb rfl aM) ?_))
 exact ag.aW.refl _
theorem ahI{n d:Int}(f:fits n=true)(g:fits d=true)(hd:0<d):aP ah 306 [fv n d] (gK (n/d)):=by
 have aZ:=Te f g hd;clear f g hd;refine bq (f:=306) Tryz.func306 rfl rfl rfl rfl ?_;(refine cR ?_)
 ((refine bn rfl (da rfl rfl rfl aM) ?_))
 exact ag.aW.refl _
theorem I2{n d:Int}(f:fits n=true)(hd:0<d):fits (n/d)=true:=by
 have pk:=kU.1 f;refine kU.2 ?_
 by_cases aA:0≤n
 ·have:=o9 aA (show 0≤d by omega);have:=Int.ediv_le_self d aA;omega
 ·have fl:n*d≤n*1:=Int.mul_le_mul_of_nonpos_left (show n≤0 by omega) (show 1≤d by omega);have:=(pJ (a:=n) (b:=n) hd).2 (by omega);have:=Int.ediv_lt_of_lt_mul (a:=n) (b:=0) hd (by omega);omega
theorem Pk{n d:Int}(aA:fits n=true)(hd:0<d)(Bm:fits d=true):fits (oY n d)=true:=by
 unfold oY
 split
 ·exact I2 aA hd
 ·exact(Sz aA hd Bm).2 (by omega)
theorem aaT{n d:Int}{k:Nat}(aA:fits n=true)(hd:0<d)(Bm:fits d=true)(ae:k≤100):fits (nn n d k)=true:=by
 unfold nn
 split
 ·exact Pk aA hd Bm
 ·exact Pk (I2 aA hd) (jE (by decide)) (TT ae)
theorem ait{n d:Int}{k:Nat}(f:fits n=true)(g:fits d=true)(hd:0<d)(ae:k≤100):aP ah 274 [fv n d,aL k] (.cj [oz (nn n d k),.one (.c (.bool true))]):=by
 have aZ:=Ti (n:=n) g;rw[cd hd] at aZ;unfold nn
 by_cases aF:k=0
 ·subst aF;have bM:=Ty f g hd;rw[if_pos rfl];clear f g hd;refine bq (f:=274) Tryz.func274 rfl rfl rfl rfl ?_;(refine cR ?_)
  ((refine bn rfl (da rfl rfl rfl (bb rfl aM)) ?_))
  exact ag.aW.refl _
 ·rw[if_neg aF];have hp:=TT ae;have bM:=vB (n:=1) (by decide) (by decide);have eh:=aiY (n:=1) (k:=(k:Int)) (by decide) (by omega) (by omega);rw[Int.one_mul,kL,xU hp] at eh;have j1:=ahI f g hd;have pf:=Ty (I2 f hd) hp (jE (by decide));have h1:¬(k:Int)=0:=by omega
  have h2:¬(k:Int)<0:=by omega
  have ar:¬(k:Int)>100:=by omega
  clear f g hd hp;refine bq (f:=274) Tryz.func274 rfl rfl rfl rfl ?_;(refine cR ?_)
  ((refine bn rfl (da rfl rfl rfl (bb rfl aM)) ?_))
  exact ag.aW.refl _
theorem aiu{n d k:Int}(f:fits n=true)(g:fits d=true)(lB:¬(0<d)∨(k<0∨100<k)):aP ah 274 [fv n d,aL k] (.cj [.agg [.c (.int .i64 0),.c (.int .u64 0)],.one (.c (.bool false))]):=by
 have aZ:=Ti (n:=n) g
 by_cases hd:0<d
 ·rw[cd hd] at aZ;have h1:k<0∨(¬k<0∧k>100):=by omega
  clear f g lB hd;rcases h1 with h1|⟨h1,h2⟩
  ·refine bq (f:=274) Tryz.func274 rfl rfl rfl rfl ?_;(repeat first|refine dd ?_|refine fX ?_|(with_reducible apply bU (c:=true));rfl;rfl;(exact cd (by omega)))
   ((refine bn rfl (da rfl rfl rfl (bb rfl aM)) ?_))
   exact ag.aW.refl _
  ·refine bq (f:=274) Tryz.func274 rfl rfl rfl rfl ?_;(repeat first|refine dd ?_|refine fX ?_|(with_reducible apply bU (c:=false));rfl;rfl;(exact cb (by omega)))
   ((refine bn rfl (da rfl rfl rfl (bb rfl aM)) ?_))
   exact ag.aW.refl _
 ·rw[cb hd] at aZ;clear f g lB hd;refine bq (f:=274) Tryz.func274 rfl rfl rfl rfl ?_;(refine cR ?_)
  ((refine bn rfl (da rfl rfl rfl (bb rfl aM)) ?_))
  exact ag.aW.refl _
end
theorem Sy{n d:Int}(hd:0<d):oY n d=(n+n+d)/(d*2):=by
 have h1:=rC n d;have h2:=pH n (show d≠0 by omega);have ar:=o8 n hd;unfold oY;generalize n/d=q at *;generalize n % d=r at *;have e:n+n+d=(r+r+d)+q*(d*2):=by rw[←h1,k9 q (d*2),lb,Int.mul_left_comm d 2 q];omega
 rw[e,Int.add_mul_ediv_right _ _ (by omega)]
 split
 ·rw[Int.ediv_eq_zero_of_lt (by omega) (by omega)];omega
 ·have:(r+r+d)/(d*2)=1:=by
   rw[show r+r+d=(r+r-d)+1*(d*2) by omega,Int.add_mul_ediv_right _ _ (by omega),Int.ediv_eq_zero_of_lt (by omega) (by omega)];omega
  rw[this];omega
theorem alc{n d:Int}(k:Nat)(hd:0<d):(n+n+d*2^k)/(d*2^(k+1))=nn n d k:=by
 unfold nn;rcases k with _|k
 ·rw[if_pos rfl,Sy hd];simp
 ·rw[if_neg (by omega),Sy (jE (by decide))];have hp:(0:Int)<2^k:=jE (by decide);rw[Int.pow_succ 2 (k+1),Int.pow_succ 2 k];generalize (2:Int)^k=Q at *
  have aI:(n+n+d*(Q*2))/(d*(Q*2*2))=(n+d*Q)/(d*(Q*2)):=by
   rw[show n+n+d*(Q*2)=2*(n+d*Q) by rw[k9 Q 2,Int.mul_left_comm];omega,show d*(Q*2*2)=2*(d*(Q*2)) by rw[k9 (Q*2) 2,Int.mul_left_comm],Int.mul_ediv_mul_of_pos _ _ (by decide)]
  have aO:(n/d+n/d+Q*2)/(Q*2*2)=(n/d+Q)/(Q*2):=by
   rw[show n/d+n/d+Q*2=2*(n/d+Q) by omega,k9 (Q*2) 2,Int.mul_ediv_mul_of_pos _ _ (by decide)]
  rw[aI,aO,←zm (by omega),k9 d Q,Int.add_mul_ediv_right _ _ (by omega)]
def gY(k:Int)(r:Nat):Prop:=r≤28∧((k<0∧r=0)∨(28<k∧r=28)∨(r:Int)=k)
theorem aeC(k:Int):∃r,gY k r:=by
 by_cases h:k<0
 ·exact⟨0,by omega,.inl ⟨h,rfl⟩⟩
 ·by_cases aK:28<k
  ·exact⟨28,by omega,.inr (.inl ⟨aK,rfl⟩)⟩
  ·exact⟨k.toNat,by omega,.inr (.inr (by omega))⟩
theorem xG{a b:Int}{w w':World}(e:a=b)(h:Below w.heap.size w w'):mJ (.int .i64 b) w (.returned (.int .i64 a)) w':=⟨by rw[e],h⟩
theorem zw{a b:Bool}{w w':World}(e:a=b)(h:Below w.heap.size w w'):mJ (.bool b) w (.returned (.bool a)) w':=⟨by rw[e],h⟩
theorem Cn(k:Int)(r:Nat)(w:World)(h:gY k r):Calls ah 165 #[.int .i64 k] w (mJ (.int .i64 r) w):=by
 have qM:=Lib.hid h;clear h
 go_enter Tryz.func165,Tryz.ntmps165
 go_wp2
 all_goals
  go_ret
  refine xG ?_ (Below.refl _ _);have h1:=qM.out;unfold gY at h1;omega
theorem Wn(n:Int)(h : -9223372036854775808≤n∧n≤9223372036854775807):wrap64 n=n:=by unfold wrap64;omega
theorem LC{r:Nat}(h:r≤28):(1:Int)≤2^r∧(2:Int)^r≤268435456:=by
 have h1:=Nat.pow_le_pow_right (show 0<2 by decide) h;have h2:=Nat.pow_pos (show 0<2 by decide) (n:=r);have e:((2:Int)^r)=((2^r:Nat):Int):=by simp
 rw[show (2:Nat)^28=268435456 by decide] at h1;rw[e];omega
def bV(v:Int)(r:Nat):Int:=(2*v+2^r)/(2*2^r)
theorem abC(v:Int):bV v 0=v:=by unfold bV;omega
theorem abB(v:Int)(r:Nat):bV v (r+1)=v/2^(r+1)+v/2^r % 2:=by
 unfold bV;have hp:(0:Int)<2^r:=jE (by decide);rw[Int.pow_succ];generalize (2:Int)^r=P at *
 have aI:(2*v+P*2)/(2*(P*2))=(v+P)/(P*2):=by
  rw[show 2*v+P*2=2*(v+P) by omega,Int.mul_ediv_mul_of_pos _ _ (by decide)]
 rw[aI,←zm (by omega),←zm (by omega),show v+P=v+1*P by omega,Int.add_mul_ediv_right _ _ (by omega)];omega
theorem Zb(x:Int):bits BinOp.and IntKind.i64 x 1=x % 2:=by
 unfold bits
 have h:(BitVec.ofInt 64 x &&& BitVec.ofInt 64 1).toNat=(x % 2).toNat:=by
  rw[BitVec.toNat_and,BitVec.toNat_ofInt,BitVec.toNat_ofInt,show ((1:Int) % ((2^64:Nat):Int)).toNat=1 by decide,Nat.and_one_is_mod];omega
 show IntKind.i64.wrap ((BitVec.ofInt 64 x &&& BitVec.ofInt 64 1).toNat:Int)=x % 2;rw[h];have h2:((x % 2).toNat:Int)=x % 2:=by omega
 rw[h2];rcases (show x % 2=0∨x % 2=1 by omega) with e|e <;> rw[e] <;> decide
theorem ald{v:Int}(r:Nat)(v0 : -9223372036854775808≤v)(v1:v<9223372036854775808):wrap64 (v/2^(r+1)+v/2^r % 2)=bV v (r+1):=by
 rw[abB];refine Wn _ ?_;have hp:(0:Int)<2^r:=jE (by decide);rw[Int.pow_succ,←zm (by omega)]
 have h1 : -9223372036854775808≤v/2^r:=by
  rw[pJ hp];have:=sO (show (1:Int)≤2^r by omega) (show (0:Int)≤9223372036854775808 by omega);omega
 have h2:v/2^r≤9223372036854775807:=by
  by_cases h:0≤v
  ·have:=Int.ediv_le_self (2^r) h;omega
  ·have:=Int.ediv_neg_of_neg_of_pos (show v<0 by omega) hp;omega
 generalize v/2^r=q at *;omega
theorem abf(v k:Int)(w:World)(h:gY k 0):Calls ah 106 #[.int .i64 v,.int .i64 k] w (mJ (.int .i64 v) w):=by
 have qM:=Lib.hid (fun w=>Cn k 0 w h);clear h
 go_enter Tryz.func106,Tryz.ntmps106
 go_wp2_with (go_at_call 165;((with_reducible refine(qM.out _).mono ?_);rintro e w1 ⟨rfl,aa⟩))
 go_ret
 exact xG rfl (by(repeat first|with_reducible assumption))
theorem abe(v k:Int)(r:Nat)(w:World)(h:gY k (r+1))(v0 : -9223372036854775808≤v)(v1:v<9223372036854775808):Calls ah 106 #[.int .i64 v,.int .i64 k] w (mJ (.int .i64 (bV v (r+1))) w):=by
 have qM:=Lib.hid (fun w=>Cn k (r+1) w h);have DC:=Lib.hid (ald r v0 v1);have ap:r<28:=by unfold gY at h;omega
 clear h v0 v1
 go_enter Tryz.func106,Tryz.ntmps106
 go_wp2_with (go_at_call 165;((with_reducible refine(qM.out _).mono ?_);rintro e w1 ⟨rfl,aa⟩))
 go_region
 go_wp2
 go_ret
 exact xG (by rw[Zb];exact DC.out) (by(repeat first|with_reducible assumption|with_reducible refine Below.drew ?_))
theorem abd(v k:Int)(r:Nat)(w:World)(h:gY k r)(v0 : -9223372036854775808≤v)(v1:v<9223372036854775808):Calls ah 106 #[.int .i64 v,.int .i64 k] w (mJ (.int .i64 (bV v r)) w):=by
 rcases r with _|r
 ·rw[abC];exact abf v k w h
 ·exact abe v k r w h v0 v1
theorem al9{r:Nat}(h:r≤28):wrap64 (2^r)=2^r:=Wn _ (by have:=LC h;omega)
theorem akZ(k:Int)(r:Nat)(w:World)(h:gY k r):Calls ah 252 #[.int .i64 k] w (mJ (.int .i64 (2^r)) w):=by
 have qM:=Lib.hid (fun w=>Cn k r w h);have ap:r≤28:=h.1;clear h
 go_enter Tryz.func252,Tryz.ntmps252
 go_wp2_with (go_at_call 165;((with_reducible refine(qM.out _).mono ?_);rintro e w1 ⟨rfl,aa⟩))
 go_ret
 exact xG (al9 ap) (by(repeat first|with_reducible assumption))
def XB(m:Int)(w:World)(e:Ending)(w':World):Prop:=∃b,e = .returned (.func (Fn.func 253) #[] #[.pointer (some ⟨b,0,none⟩)])∧w'.cell? ⟨b,0,none⟩=some (.int .i64 m)∧Below w.heap.size w w'
theorem SI(k:Int)(r:Nat)(w:World)(h:gY k r):Calls ah 202 #[.int .i64 k] w (XB (134217728/2^r) w):=by
 have qM:=Lib.hid (fun w=>Cn k r w h);have ap:r≤28:=h.1;clear h
 go_enter Tryz.func202,Tryz.ntmps202
 go_wp2_with (go_at_call 165;((with_reducible refine(qM.out _).mono ?_);rintro e w1 ⟨rfl,aa⟩))
 go_ret
 exact⟨_,rfl,by go_simp,by(repeat first|with_reducible assumption|with_reducible refine e7 ?_ _)⟩
def wi(m n:Int):Bool:=decide (-m≤n)&&decide (n≤m)
theorem Gc(b:Nat)(m n:Int)(w:World)(ak:w.cell? ⟨b,0,none⟩=some (.int .i64 m))(m0:0≤m)(m1:m≤134217728):Calls ah 253 #[.int .i64 n,.pointer (some ⟨b,0,none⟩)] w (mJ (.bool (wi m n)) w):=by
 go_enter Tryz.func253,Tryz.ntmps253
 go_wp2
 ·go_ret
  exact zw (by unfold wi;rw[cd (show -m≤n by assumption)];rfl) (Below.refl _ _)
 ·go_ret
  exact zw (by unfold wi;rw[cb (show ¬(-m≤n) by omega)];rfl) (Below.refl _ _)
def dW(r:Nat)(x y:Int):Bool:=wi (134217728/2^r) x&&wi (134217728/2^r) y
theorem EK(r:Nat):(0:Int)≤134217728/2^r∧(134217728:Int)/2^r≤134217728:=by
 have hp:(0:Int)<2^r:=jE (by decide);exact⟨o9 (by decide) (by omega),Int.ediv_le_self _ (by decide)⟩
theorem Wi(r:Nat)(n:Int):wi (134217728/2^r) n=decide (-134217728≤2^r*n∧2^r*n≤134217728):=by
 have hp:(0:Int)<2^r:=jE (by decide);unfold wi;rw[o7,ef,cV,cV,cV,k9];generalize (2:Int)^r=P at *;have h1:=pJ (a:=n) (b:=134217728) hp;have h2:=pJ (a := -n) (b:=134217728) hp;rw[Int.neg_mul] at h2
 constructor
 ·intro ⟨q1,q2⟩;exact⟨by have:=h2.1 (by omega);omega,h1.1 q2⟩
 ·intro ⟨q1,q2⟩;exact⟨by have:=h2.2 (by omega);omega,h1.2 q2⟩
theorem FL(r:Nat)(x y:Int):dW r x y=true↔(-134217728≤2^r*x∧2^r*x≤134217728)∧(-134217728≤2^r*y∧2^r*y≤134217728):=by
 unfold dW;rw[Wi,Wi,ef,cV,cV]
theorem Xg(x y k:Int)(r:Nat)(w:World)(h:gY k r):Calls ah 145 #[.agg #[.int .i64 x,.int .i64 y],.int .i64 k] w (mJ (.bool (dW r x y)) w):=by
 have qM:=Lib.hid (fun w=>SI k r w h);obtain⟨m0,m1⟩:=EK r;have M1:=Lib.hid (show dW r x y=(wi (134217728/2^r) x&&wi (134217728/2^r) y) from rfl);clear h;generalize (134217728:Int)/2^r=M at *;have z6:=Lib.hid m0;have z7:=Lib.hid m1;clear m0 m1
 go_enter Tryz.func145,Tryz.ntmps145
 go_wp2_with (first
  | (go_at_call 202;((with_reducible refine(qM.out _).mono ?_);rintro e w1 ⟨b,rfl,ak,aa⟩;have WA:e1 w1 (w.heap.size) (.int .i64 x) (.int .i64 y):=(by(repeat first|focus ((with_reducible refine e1.new ?_);simp;done)|with_reducible refine e1.call ?_ aa));obtain⟨⟨amD,amP⟩,am1,am5⟩:=id WA))
  | (go_at_call 253;((with_reducible refine(Gc b M x _ ak z6.out z7.out).mono ?_);rintro e w2 ⟨rfl,mi⟩;have hO:=(mi.cell (p:=⟨b,0,none⟩) (World.block_lt_of_cell? _ _ ak)).trans ak;clear ak;have WB:e1 w2 (w.heap.size) (.int .i64 x) (.int .i64 y):=(by(repeat first|with_reducible assumption|with_reducible refine e1.call ?_ mi));obtain⟨⟨amE,amQ⟩,am2,am6⟩:=id WB))
  | (go_at_call 253;((with_reducible refine(Gc b M y _ hO z6.out z7.out).mono ?_);rintro e w3 ⟨rfl,JC⟩)))
 ·go_ret
  exact zw (by rw[M1.out];simp_all) (by(repeat first|with_reducible exact Below.refl _ _|with_reducible refine e7 ?_ _|with_reducible refine ho ?_ JC|with_reducible refine ho ?_ mi|with_reducible refine ho ?_ aa))
 ·go_ret
  exact zw (by rw[M1.out];simp_all) (by(repeat first|with_reducible exact Below.refl _ _|with_reducible refine e7 ?_ _|with_reducible refine ho ?_ mi|with_reducible refine ho ?_ aa))
theorem abc(k:Int)(w:World):Calls ah 80 #[.int .i64 k] w (mJ (.bool (decide (0≤k)&&decide (k≤28))) w):=by
 go_enter Tryz.func80,Tryz.ntmps80
 go_wp2
 ·go_ret
  exact zw (by rw[cd (show 0≤k by assumption)];rfl) (Below.refl _ _)
 ·go_ret
  exact zw (by rw[cb (show ¬(0≤k) by omega)];rfl) (Below.refl _ _)
theorem Hy(n m:Int)(w:World):Calls ah 319 #[.int .i64 n,.int .i64 m] w (mJ (.int .i64 (fo n m)) w):=by
 go_enter Tryz.func319,Tryz.ntmps319
 go_wp2
 all_goals
  go_ret
  refine xG ?_ (Below.refl _ _);unfold fo
  repeat' split
  all_goals omega
def nT(x y x' y':Int):Int:=if x=x' then fo y y' else fo x x'
theorem aa2(x y x' y':Int)(w:World):Calls ah 295 #[.agg #[.int .i64 x,.int .i64 y],.agg #[.int .i64 x',.int .i64 y']] w (mJ (.int .i64 (nT x y x' y')) w):=by
 have aZ:=Lib.hid (fun w=>Hy x x' w);have bM:=Lib.hid (fun w=>Hy y y' w);have n8:Hid (x=x'→fo y y'=nT x y x' y'):=fun h=>by unfold nT;rw[if_pos h]
 have mK:Hid (¬(x=x')→fo x x'=nT x y x' y'):=fun h=>by unfold nT;rw[if_neg h]
 go_enter Tryz.func295,Tryz.ntmps295
 go_wp2_with (first
  | (go_at_call 319;((with_reducible refine(aZ.out _).mono ?_);rintro e w1 ⟨rfl,aa⟩))
  | (go_at_call 319;((with_reducible refine(bM.out _).mono ?_);rintro e w1 ⟨rfl,aa⟩)))
 ·go_ret
  exact xG (mK.out (by simpa using ‹(x != x')=true›)) (by(repeat first|with_reducible exact Below.refl _ _|with_reducible refine e7 ?_ _|with_reducible refine ho ?_ aa))
 ·go_ret
  exact xG (n8.out (by simpa using ‹(x != x')=false›)) (by(repeat first|with_reducible exact Below.refl _ _|with_reducible refine e7 ?_ _|with_reducible refine ho ?_ aa))
end Go.Proofs.YtklpfooafbjnpaaGreat
namespace Go.Proofs.YtklpfooafbjnpaaGreat
open Go.RowKit
attribute [local go_sem ↓] Go.wp_at_zero Go.wp_at_succ
end Go.Proofs.YtklpfooafbjnpaaGreat
namespace Go.Proofs.YtklpfooafbjnpaaGreat
open Go.RowKit
attribute [local go_sem ↓] Go.wp_at_zero Go.wp_at_succ
def Ng(s:Bool)(z:Int)(w:World)(e:Ending)(w':World):Prop:=∃H L,e = .returned (.tuple #[.agg #[.int .i64 H,.int .u64 L],.bool s])∧c7 H L z∧Below w.heap.size w w'
def DN(v:Int)(b:Bool)(w:World)(e:Ending)(w':World):Prop:=e = .returned (.tuple #[.int .i64 v,.bool b])∧Below w.heap.size w w'
def XR(w:World)(s:Bool)(z:Int)(u v:Value)(W:World):Prop:=∃g tr lW,u = .pointer (some ⟨g,0,none⟩)∧v = .bool s∧c7 tr lW z∧e1 W g (.int .i64 tr) (.int .u64 lW)∧Below w.heap.size w W
theorem Mg(aX sv aK hy k:Int)(r:Nat)(s:Bool)(z v:Int)(b:Bool)(w:World)(h:gY k r)
  (M0:∀w,Calls ah 274 #[.agg #[.int .i64 aX,.int .u64 sv,.int .i64 aK,.int .u64 hy],.int .i64 r] w (Ng s z w))
  (hv:(s=false∧v=0∧b=false)∨(s=true∧small z=false∧v=0∧b=false)∨(s=true∧small z=true∧wi (134217728/2^r) z=false∧v=0∧b=false)∨(s=true∧small z=true∧wi (134217728/2^r) z=true∧v=z∧b=true)) :
  Calls ah 239 #[.agg #[.int .i64 aX,.int .u64 sv,.int .i64 aK,.int .u64 hy],.int .i64 k] w (DN v b w):=by
 have MZ:=Lib.hid (fun w=>Cn k r w h);have HC:=Lib.hid (fun w=>SI k r w h);have DC:=Lib.hid M0;obtain⟨m0,m1⟩:=EK r;clear h M0;generalize (134217728:Int)/2^r=M at *;have z6:=Lib.hid m0;have z7:=Lib.hid m1;have s5:=Lib.hid hv;clear m0 m1 hv
 go_enter Tryz.func239,Tryz.ntmps239
 go_upto_region 1 with fail
 have fP:iz (w.alloc (.cells #[.int .i64 aX,.int .u64 sv,.int .i64 aK,.int .u64 hy] 182)) w.heap.size (.int .i64 aX) (.int .u64 sv) (.int .i64 aK) (.int .u64 hy):=(by(repeat first|focus ((with_reducible refine iz.new ?_);simp;done)));have Ip:Below w.heap.size w (w.alloc (.cells #[.int .i64 aX,.int .u64 sv,.int .i64 aK,.int .u64 hy] 182)):=(by(repeat first|with_reducible exact Below.refl _ _|with_reducible refine e7 ?_ _))
 go_cut [6,7] (fun u v uu=>XR w s z u v uu)
 case first =>
  clear s5 HC
  go_region_held3 (fun w'=>w'.cell? ⟨w.heap.size,0,none⟩=some (.int .i64 aX)∧w'.cell? ⟨w.heap.size,1,none⟩=some (.int .u64 sv)∧w'.cell? ⟨w.heap.size,2,none⟩=some (.int .i64 aK)∧w'.cell? ⟨w.heap.size,3,none⟩=some (.int .u64 hy))
   (((refine iz.cs ?_);((repeat first|with_reducible assumption|with_reducible refine iz.alloc ?_ _|with_reducible refine iz.drew ?_|focus ((with_reducible refine iz.set ?_ _ ?_);rotate_left;omega)|with_reducible refine iz.call ?_ mi|with_reducible refine iz.call ?_ mV);done)))
   (first
    | (go_at_call 165;((with_reducible refine(MZ.out _).mono ?_);rintro e w1 ⟨rfl,mV⟩;have aeg:=Below.size mV;(try simp at aeg)))
    | (go_at_call 274;((with_reducible refine(DC.out _).mono ?_);rintro e w2 ⟨alU,alV,rfl,hu,mi⟩;have KA:=Below.size mi;(try simp at KA);(try ((refine OJ (p:=e1 w2 (w.heap.size+1) (.int .i64 0) (.int .u64 0)) ?_ ?_);(repeat first|focus ((with_reducible refine e1.new ?_);simp;done)|with_reducible refine e1.alloc ?_ _|with_reducible refine e1.drew ?_|with_reducible refine e1.call ?_ mi|with_reducible refine e1.call ?_ mV);intro Dr;obtain⟨⟨amF,amR⟩,am3,am7⟩:=id Dr;have an2:=e1.lt Dr;have aoa:=Nat.ne_of_gt (e1.lt Dr);have an8:=Nat.ne_of_lt (e1.lt Dr)));(try ((refine OJ (p:=e1 w2 (w1.heap.size) (.int .i64 0) (.int .u64 0)) ?_ ?_);(repeat first|focus ((with_reducible refine e1.new ?_);simp;done)|with_reducible refine e1.alloc ?_ _|with_reducible refine e1.drew ?_|with_reducible refine e1.call ?_ mi|with_reducible refine e1.call ?_ mV);intro Ds;obtain⟨⟨amG,amS⟩,am4,am8⟩:=id Ds;have an3:=e1.lt Ds;have aob:=Nat.ne_of_gt (e1.lt Ds);have an9:=Nat.ne_of_lt (e1.lt Ds))))))
  all_goals
   go_wp2_with fail
   go_meet
   refine⟨_,alU,alV,rfl,rfl,hu,?_,?_⟩
   ·(repeat first|focus ((with_reducible refine e1.new ?_);simp;done)|with_reducible refine e1.put ?_|focus ((with_reducible apply xZ.of);with_reducible assumption))
   ·(repeat first|with_reducible assumption|with_reducible refine e7 ?_ _|focus ((with_reducible refine p0 ?_ _ _ _ ?_);rotate_left;omega)|with_reducible refine Below.drew ?_|with_reducible refine ho ?_ mi|with_reducible refine ho ?_ mV)
 case rest =>
  obtain⟨g,tr,lW,rfl,rfl,aw,ez,dn⟩:=hcut;clear fP Ip DC MZ;obtain⟨⟨li,db⟩,di,lj⟩:=id ez;rcases s5.out with ⟨rfl,rfl,rfl⟩|⟨rfl,q,rfl,rfl⟩|⟨rfl,q,cI,rfl,rfl⟩|⟨rfl,q,cI,rfl,rfl⟩
  ·clear s5
   go_wp2
   go_ret2
   exact⟨rfl,by(repeat first|with_reducible assumption)⟩
  ·have zY:Hid (∀w,Calls ah 275 #[.agg #[.int .i64 tr,.int .u64 lW]] w (DN 0 false w)):=fun w=>(HW tr lW z w aw).mono fun e w' k=>by unfold x5 at k;rw[q] at k;exact k
   clear s5 q
   go_wp2_with (first
    | (go_at_call 275;((with_reducible refine(zY.out _).mono ?_);rintro e zJ ⟨rfl,wP⟩)))
   go_ret2
   exact⟨rfl,by(repeat first|with_reducible assumption|with_reducible refine ho ?_ wP)⟩
  ·have zY:Hid (∀w,Calls ah 275 #[.agg #[.int .i64 tr,.int .u64 lW]] w (DN z true w)):=fun w=>(HW tr lW z w aw).mono fun e w' k=>by unfold x5 at k;rw[q] at k;exact k
   have HB:Hid (∀b w,w.cell? ⟨b,0,none⟩=some (.int .i64 M)→Calls ah 253 #[.int .i64 z,.pointer (some ⟨b,0,none⟩)] w (mJ (.bool false) w)):=fun b w ak=>by have:=Gc b M z w ak z6.out z7.out;rw[cI] at this;exact this
   clear s5 q cI
   go_wp2_with (first
    | (go_at_call 275;((with_reducible refine(zY.out _).mono ?_);rintro e zJ ⟨rfl,wP⟩))
    | (go_at_call 202;((with_reducible refine(HC.out _).mono ?_);rintro e MC ⟨b,rfl,ak,JD⟩))
    | (go_at_call 253;((with_reducible refine(HB.out _ _ ak).mono ?_);rintro e MD ⟨rfl,JE⟩)))
   go_ret2
   exact⟨rfl,by(repeat first|with_reducible assumption|with_reducible refine ho ?_ JE|with_reducible refine ho ?_ JD|with_reducible refine ho ?_ wP)⟩
  ·have zY:Hid (∀w,Calls ah 275 #[.agg #[.int .i64 tr,.int .u64 lW]] w (DN v true w)):=fun w=>(HW tr lW v w aw).mono fun e w' k=>by unfold x5 at k;rw[q] at k;exact k
   have HB:Hid (∀b w,w.cell? ⟨b,0,none⟩=some (.int .i64 M)→Calls ah 253 #[.int .i64 v,.pointer (some ⟨b,0,none⟩)] w (mJ (.bool true) w)):=fun b w ak=>by have:=Gc b M v w ak z6.out z7.out;rw[cI] at this;exact this
   clear s5 q cI
   go_wp2_with (first
    | (go_at_call 275;((with_reducible refine(zY.out _).mono ?_);rintro e zJ ⟨rfl,wP⟩))
    | (go_at_call 202;((with_reducible refine(HC.out _).mono ?_);rintro e MC ⟨b,rfl,ak,JD⟩))
    | (go_at_call 253;((with_reducible refine(HB.out _ _ ak).mono ?_);rintro e MD ⟨rfl,JE⟩)))
   go_ret2
   exact⟨rfl,by(repeat first|with_reducible assumption|with_reducible refine ho ?_ JE|with_reducible refine ho ?_ JD|with_reducible refine ho ?_ wP)⟩
theorem al8{r:Nat}{z:Int}(h:wi (134217728/2^r) z=true):small z=true:=by
 obtain⟨m0,m1⟩:=EK r;unfold wi at h;rw[ef,cV,cV] at h;unfold small;rw[cV];omega
end Go.Proofs.YtklpfooafbjnpaaGreat
namespace Go.Proofs.YtklpfooafbjnpaaGreat
open Go.RowKit
section
variable{U:Nat→Prop}{ad:Nat→Nat}{W:World}
theorem UJ:∀(xs:List AC) (r vs:List Value),uV xs=some r→bS U ad W xs vs→vs=r
 | [],r,vs,h,hv=>by cases h;exact nj hv.1.symm
 | .c v::xs,r,vs,h,hv=>by
  simp only[uV] at h
  split at h
  ·rename_i bg ap;cases h
   match vs,hv with
   | [],hv=>exact absurd hv.1 (by simp)
   | u::vs,hv =>
    have aF:=(hv.2 0 _ u rfl rfl).1;have cg:=UJ xs bg vs ap ⟨by have:=hv.1;simp at this;exact this,fun i x w ab hw=>hv.2 (i+1) x w (by simpa using ab) (by simpa using hw)⟩;rw[aF,cg]
  ·cases h
 | .own _ _::_,_,_,h,_=>by cases h
 | .p _::_,_,_,h,_=>by cases h
theorem UO{x:bH}{u v:Value}(h:nz x=some u)(hv:gZ U ad W x v):v=u:=by
 cases x with
 | one y=>cases y with
  | c w=>cases h;exact hv.1
  | own=>cases h
  | p=>cases h
 | agg xs =>
  simp only[nz] at h
  split at h
  ·rename_i r ap;cases h;obtain⟨vs,rfl,al⟩:=hv;rw[UJ xs r vs ap al]
  ·cases h
theorem UL:∀(xs:List bH) (r vs:List Value),yq xs=some r→xs.length=vs.length→(∀(i:Nat) (x:bH) (v:Value),xs[i]?=some x→vs[i]?=some v→gZ U ad W x v)→vs=r
 | [],r,vs,h,al,_=>by cases h;exact nj al.symm
 | x::xs,r,vs,h,al,hv=>by
  simp only[yq] at h
  split at h
  ·rename_i v bg h1 ap;cases h
   match vs,al,hv with
   | u::vs,al,hv =>
    rw[UO h1 (hv 0 x u rfl rfl),UL xs bg vs ap (by simpa using al) fun i y w ai hw=>hv (i+1) y w (by simpa using ai) (by simpa using hw)]
  ·cases h
theorem aj4{x:ag}{u v:Value}(h:r9 x=some u)(hv:cS U ad W x v):v=u:=by
 cases x with
 | w y=>exact UO h hv
 | cj xs =>
  simp only[r9] at h
  split at h
  ·rename_i r ap;cases h;obtain⟨vs,rfl,al,ab⟩:=hv;rw[UL xs r vs ap al ab]
  ·cases h
end
theorem Oj{P:Program}{f:FuncId}{args:List ag}{r:ag}(h:aP P f args r)(km:List Value)(br:Value)(he:args.map r9=km.map some)(ok:args.all Lm=true)(ap:r9 r=some br)(W:World):Calls P f km.toArray W fun e W'=>e = .returned br∧Below W.heap.size W W' :=
 (h.call (fun _=>True) W km ⟨by have:=congrArg List.length he;simpa using this,fun i x v ab hv=>by
  have h1:(args.map r9)[i]?=some (r9 x):=by rw[dD,ab];rfl
  rw[he,dD,hv] at h1;have h2:some v=r9 x:=l3 h1;exact UM h2.symm (b4.1 ok x (cP ab))⟩).mono fun e W' ⟨v,qk,hv,aa⟩=>by
  rw[aj4 ap hv] at qk;exact⟨qk,aa⟩
theorem Tq{v k:Int}{r:Nat}(h:gY k r)(v0 : -9223372036854775808≤v)(v1:v<9223372036854775808):aP ah 106 [aL v,aL k] (aL (bV v r)) :=
 iM [.int .i64 v,.int .i64 k] (.int .i64 (bV v r)) rfl rfl rfl rfl rfl fun W=>abd v k r W h v0 v1
theorem TF{k:Int}{r:Nat}(h:gY k r):aP ah 252 [aL k] (aL (2^r)) :=
 iM [.int .i64 k] (.int .i64 (2^r)) rfl rfl rfl rfl rfl fun W=>akZ k r W h
theorem Gu{k:Int}:aP ah 80 [aL k] (bl (decide (0≤k)&&decide (k≤28))) :=
 iM [.int .i64 k] (.bool (decide (0≤k)&&decide (k≤28))) rfl rfl rfl rfl rfl fun W=>abc k W
theorem tY{x y k:Int}{r:Nat}{b:Bool}(h:gY k r)(aa:dW r x y=b):aP ah 145 [bm x y,aL k] (bl b):=by
 subst aa;exact iM [.agg #[.int .i64 x,.int .i64 y],.int .i64 k] (.bool (dW r x y)) rfl rfl rfl rfl rfl fun W=>Xg x y k r W h
theorem aiv{x y x' y':Int}:aP ah 295 [bm x y,bm x' y'] (aL (nT x y x' y')) :=
 iM [.agg #[.int .i64 x,.int .i64 y],.agg #[.int .i64 x',.int .i64 y']] (.int .i64 (nT x y x' y')) rfl rfl rfl rfl rfl fun W=>aa2 x y x' y' W
theorem Cy{x y k:Int}{r:Nat}(h:gY k r)(li : -9223372036854775808≤x)(db:x<9223372036854775808)(hK : -9223372036854775808≤y)(jY:y<9223372036854775808):aP ah 58 [bm x y,aL k] (bm (bV x r) (bV y r)):=by
 refine bq (f:=58) Tryz.func58 rfl rfl rfl rfl ?_;(repeat first|refine dd ?_|refine lM (Tq h li db) ?_|refine lM (Tq h hK jY) ?_)
 ((refine bn rfl (da rfl rfl rfl aM) ?_))
 exact ag.aW.refl _
theorem tX{x y k:Int}{r:Nat}(h:gY k r)(aa:dW r x y=true):aP ah 200 [bm x y,aL k] (bm (2^r*x) (2^r*y)):=by
 obtain⟨⟨q1,q2⟩,q3,q4⟩:=(FL r x y).1 aa;have aZ:=tY h aa;have bM:=TF h;clear h aa;generalize (2:Int)^r=P at *;refine bq (f:=200) Tryz.func200 rfl rfl rfl rfl ?_;(refine cR ?_)
 ((refine bn rfl (da rfl rfl rfl aM) ?_))
 exact ag.aW.refl _
theorem ah0{x y k:Int}{r:Nat}(h:gY k r)(aa:dW r x y=true):aP ah 249 [bm x y,aL k] (.cj [.agg [.c (.int .i64 (2*(2^r*x)-2^r)),.c (.int .i64 (2*(2^r*y)-2^r))],.agg [.c (.int .i64 (2*(2^r*x)+2^r)),.c (.int .i64 (2*(2^r*y)+2^r))]]):=by
 obtain⟨⟨q1,q2⟩,q3,q4⟩:=(FL r x y).1 aa;obtain⟨rz,LJ⟩:=LC h.1;have aZ:=tY h aa;have bM:=TF h;have eh:=tX h aa;clear h aa;generalize (2:Int)^r=P at *;generalize P*x=X at *;generalize P*y=Y at *;refine bq (f:=249) Tryz.func249 rfl rfl rfl rfl ?_;(refine cR ?_)
 ((refine bn rfl (da rfl rfl rfl (da rfl rfl rfl aM)) ?_))
 exact ag.aW.refl _
def uq(n d:Int)(r:Nat):Bool:=decide (0<d)&&wi (134217728/2^r) (nn n d r)
def G4(n d:Int)(r:Nat):Int:=if uq n d r then nn n d r else 0
theorem TG{n d k:Int}{r:Nat}(h:gY k r)(f:fits n=true)(g:fits d=true):aP ah 239 [fv n d,aL k] (.cj [.one (.c (.int .i64 (G4 n d r))),.one (.c (.bool (uq n d r)))]):=by
 refine iM [fx n d,.int .i64 k] (.tuple #[.int .i64 (G4 n d r),.bool (uq n d r)]) rfl rfl rfl rfl rfl fun W => ?_;unfold G4 uq
 by_cases hd:0<d
 ·have Np:∀w,Calls ah 274 #[fx n d,.int .i64 r] w (Ng true (nn n d r) w):=fun w=>(Oj (ait f g hd (by have:=h.1;omega)) [fx n d,.int .i64 r] (.tuple #[uu (nn n d r),.bool true]) rfl rfl rfl w).mono fun e w' k=>⟨_,_,k.1,ng (aaT f hd g (by have:=h.1;omega)),k.2⟩;rw[cd hd,pK];cases hw:wi (134217728/2^r) (nn n d r) with
  | true=>exact Mg _ _ _ _ k r true _ _ true W h Np (.inr (.inr (.inr ⟨rfl,al8 hw,hw,rfl,rfl⟩)))
  | false =>
   refine Mg _ _ _ _ k r true _ 0 false W h Np ?_;cases hs:small (nn n d r)
   ·exact .inr (.inl ⟨rfl,rfl,rfl,rfl⟩)
   ·exact .inr (.inr (.inl ⟨rfl,rfl,hw,rfl,rfl⟩))
 ·rw[cb hd,Bool.false_and];exact Mg _ _ _ _ k r false 0 0 false W h (fun w=>(Oj (aiu (k:=r) f g (.inl hd)) [fx n d,.int .i64 r] (.tuple #[uu 0,.bool false]) rfl rfl rfl w).mono fun e w' k=>⟨_,_,k.1,yY,k.2⟩) (.inl ⟨rfl,rfl,rfl⟩)
theorem ahD{n d n' d' k:Int}{r:Nat}{b:Bool}(h:gY k r)(f:fits n=true)(g:fits d=true)(Pe:fits n'=true)(c4:fits d'=true)(aa:(uq n d r&&uq n' d' r)=b) :
  aP ah 184 [fv n d,fv n' d',aL k] (.cj [.agg [.c (.int .i64 (if b then nn n d r else 0)),.c (.int .i64 (if b then nn n' d' r else 0))],.one (.c (.bool b))]):=by
 have aZ:=TG h f g;have bM:=TG h Pe c4;clear h f g Pe c4;unfold G4 at aZ bM;cases q1:uq n d r <;> cases q2:uq n' d' r <;> rw[q1] at aZ <;> rw[q2] at bM <;> rw[q1,q2] at aa <;> subst aa <;> clear q1 q2
 all_goals
  generalize nn n d r=X at *;generalize nn n' d' r=Y at *;refine bq (f:=184) Tryz.func184 rfl rfl rfl rfl ?_;(refine cR ?_)
  ((refine bn rfl (da rfl rfl rfl (bb rfl aM)) ?_))
  exact ag.aW.refl _
end Go.Proofs.YtklpfooafbjnpaaGreat
namespace Go.Proofs.YtklpfooafbjnpaaGreat
abbrev dJ:=Int×Int×Int
def nS(x y z w:Int):Bool:=decide (x<z)||(decide (x=z)&&decide (y<w))
theorem qw{x y z w:Int}:nS x y z w=true↔x<z∨(x=z∧y<w):=by
 unfold nS;simp
def vC(l:List dJ)(x y:Int):List dJ:=l.filter fun e=>nS e.1 e.2.1 x y
def GC(l:List dJ)(x y:Int):List dJ:=l.filter fun e=>nS x y e.1 e.2.1
def ua(l:List dJ)(x y v:Int):List dJ:=vC l x y++(x,y,v)::GC l x y
def u2(l:List dJ)(x y:Int):Int:=match l.findIdx? fun e=>decide (e.1=x)&&decide (e.2.1=y) with
 | some k=>k
 | none => -1
def ls(l:List dJ):Prop:=l.Pairwise fun a b=>nS a.1 a.2.1 b.1 b.2.1=true
theorem ahA{a b c d e f:Int}(h1:nS a b c d=true)(h2:nS c d e f=true):nS a b e f=true:=by
 rw[qw] at *;omega
theorem ajn{l:List dJ}(h:ls l)(x y v:Int):ls (ua l x y v):=by
 unfold ua vC GC ls;rw[List.pairwise_append,kj];refine⟨h.filter _,⟨fun e he => ?_,h.filter _⟩,fun a aX b aa => ?_⟩
 ·exact(List.mem_filter.1 he).2
 ·have h1:=(List.mem_filter.1 aX).2;rcases fg.1 aa with rfl|aa
  ·exact h1
  ·exact ahA h1 (List.mem_filter.1 aa).2
def iF(l:List dJ)(x y:Int):Bool:=l.any fun e=>decide (e.1=x)&&decide (e.2.1=y)
theorem PE(l:List dJ)(x y:Int):decide (0≤u2 l x y)=iF l x y:=by
 unfold u2 iF;cases h:l.findIdx? fun e=>decide (e.1=x)&&decide (e.2.1=y) with
 | none =>
  rw[List.findIdx?_eq_none_iff] at h
  have:(l.any fun e=>decide (e.1=x)&&decide (e.2.1=y))=false:=by
   rw[List.any_eq_false];intro e he;rw[h e he];decide
  rw[this];rfl
 | some k =>
  have aF:=List.findIdx?_eq_some_iff_getElem.1 h;obtain⟨ae,h1,_⟩:=aF;have:(l.any fun e=>decide (e.1=x)&&decide (e.2.1=y))=true:=List.any_eq_true.2 ⟨l[k],List.getElem_mem ae,h1⟩;rw[this];simp
theorem abm{l:List dJ}{x y:Int}(h:0≤u2 l x y):∃k v,u2 l x y=(k:Nat)∧k<l.length∧l[k]?=some (x,y,v):=by
 unfold u2 at h ⊢;cases ay:l.findIdx? fun e=>decide (e.1=x)&&decide (e.2.1=y) with
 | none=>rw[ay] at h;simp at h
 | some k =>
  obtain⟨ae,h1,_⟩:=List.findIdx?_eq_some_iff_getElem.1 ay;simp only[ef,cV] at h1;refine⟨k,l[k].2.2,rfl,ae,?_⟩;rw[bF ae];congr 1;exact la h1.1 (la h1.2 rfl)
def pR(l:List dJ)(x y:Int):Int:=match l.findIdx? fun e=>decide (e.1=x)&&decide (e.2.1=y) with
 | some k=>(l.getD k (0,0,0)).2.2
 | none=>0
theorem al3{l:List dJ}{x y v:Int}{k:Nat}(h:u2 l x y=k)(al:l[k]?=some (x,y,v)):pR l x y=v:=by
 unfold u2 at h;unfold pR;cases ay:l.findIdx? fun e=>decide (e.1=x)&&decide (e.2.1=y) with
 | none=>rw[ay] at h;simp at h
 | some j =>
  rw[ay] at h;have:j=k:=by simp at h;omega
  subst this;simp only[vF,al];rfl
theorem al1{l:List dJ}{x y:Int}(h:iF l x y=false):pR l x y=0:=by
 have h2:=PE l x y;rw[h] at h2;unfold u2 at h2;unfold pR;cases ay:l.findIdx? fun e=>decide (e.1=x)&&decide (e.2.1=y) with
 | none=>rfl
 | some j=>rw[ay] at h2;simp at h2
theorem ajl(l:List dJ)(x y:Int):(vC l x y).length≤l.length:=List.length_filter_le _ _
theorem V2{l:List dJ}(h:ls l){x y v:Int}(hm:(x,y,v)∈l):iF l x y=true∧pR l x y=v:=by
 have ba:iF l x y=true:=List.any_eq_true.2 ⟨_,hm,by simp⟩;have aw:=PE l x y;rw[ba] at aw;obtain⟨k,u,h1,h2,ar⟩:=abm (of_decide_eq_true aw);refine⟨ba,?_⟩;rw[al3 h1 ar];obtain⟨j,af⟩:=kJ hm;have Br:=(bt.1 af).1;have hq:l[k]=(x,y,u):=(bt.1 ar).2;have lV:l[j]=(x,y,v):=(bt.1 af).2;unfold ls at h;rw[List.pairwise_iff_getElem] at h;rcases Nat.lt_trichotomy k j with q|q|q
 ·have:=h k j h2 Br q;rw[hq,lV,qw] at this;simp at this
 ·subst q;rw[hq] at lV;cases lV;rfl
 ·have:=h j k Br h2 q;rw[hq,lV,qw] at this;simp at this
end Go.Proofs.YtklpfooafbjnpaaGreat
namespace Go.Proofs.YtklpfooafbjnpaaGreat
open Go.RowKit
def eC:List dJ→List AC
 | []=>[]
 | e::l => .c (.int .i64 e.1) :: .c (.int .i64 e.2.1) :: .c (.int .i64 e.2.2)::eC l
theorem IV:∀(l:List dJ) (i:Nat) (e:dJ),l[i]?=some e→((eC l).drop (i*3)).take 3=[.c (.int .i64 e.1),.c (.int .i64 e.2.1),.c (.int .i64 e.2.2)]
 | [],i,p,h=>by simp at h
 | q::l,0,p,h=>by simp at h;subst h;simp[eC]
 | q::l,i+1,p,h=>by
  have e:(i+1)*3=i*3+1+1+1:=by omega
  rw[e];simp only[eC,List.drop_succ_cons];exact IV l i p (by simpa using h)
theorem O6{l:List dJ}{j:Int}{i:Nat}{x y v:Int}(af:j=i)(h:l[i]?=some (x,y,v)):((eC l).drop (j.toNat*3)).take 3=[.c (.int .i64 x),.c (.int .i64 y),.c (.int .i64 v)]:=by
 subst af;exact IV l i (x,y,v) h
theorem AS:∀(l:List dJ),(eC l).length=l.length*3
 | []=>rfl
 | p::l=>by simp only[eC,hX,AS l];omega
theorem AR:∀(l m:List dJ),eC (l++m)=eC l++eC m
 | [],_=>rfl
 | p::l,m=>by simp only[ud,eC,AR l m]
theorem O2:∀(l:List dJ),(eC l).all AC.aV=true
 | []=>rfl
 | p::l=>by simp only[eC,kM,O2 l];rfl
abbrev F4(x y:Int):List AC:=[.c (.int .i64 x),.c (.int .i64 y)]
abbrev VZ(k:Nat):ag := .w (.one (.own k 0))
def qH(n:Int):Int:=if n<1 then 1 else if 1024<n then 1024 else n
def hB(l:List aq)(x y:Int):Int:=match l.findIdx? fun e=>decide (e.1=x)&&decide (e.2=y) with
 | some k=>k
 | none => -1
def wL(n:Int):Bool:=decide (-134217728≤n)&&decide (n≤134217728)
theorem To{n:Int}{b:Bool}(aa:wL n=b):aP ah 240 [aL n] (bl b):=by
 have cs:(-134217728≤n∧n≤134217728∧b=true)∨(-134217728≤n∧¬n≤134217728∧b=false)∨(¬ -134217728≤n∧b=false):=by
  rw[←aa];unfold wL
  by_cases h1 : -134217728≤n <;> by_cases h2:n≤134217728 <;> simp[h1,h2]
 clear aa;rcases cs with ⟨h1,h2,rfl⟩|⟨h1,h2,rfl⟩|⟨h1,rfl⟩
 all_goals
  refine bq (f:=240) Tryz.func240 rfl rfl rfl rfl ?_;(repeat first|refine dd ?_|(with_reducible apply bU (c:=true));rfl;rfl;(exact cd (by omega))|(with_reducible apply bU (c:=false));rfl;rfl;(exact cb (by omega)))
  ((refine bn rfl (bb rfl aM) ?_))
  first|exact ag.aW.refl _|exact ag.aW.of_eq (by rw[cd h2];rfl)|exact ag.aW.of_eq (by rw[cb h2];rfl)
theorem ajv(x y:Int):c6 x y=(wL x&&wL y):=by
 unfold c6 wL;rw[o7];simp only[ef,cV];omega
theorem my{x y:Int}(h:c6 x y=true):eE x y=true:=by rw[uj] at h;rw[Ug];omega
theorem qx{x y:Int}{b:Bool}(aa:c6 x y=b):aP ah 185 [bm x y] (bl b):=by
 have aZ:=To (n:=x) rfl;have bM:=To (n:=y) rfl;rw[ajv] at aa;cases q1:wL x <;> cases q2:wL y <;> rw[q1] at aZ <;> rw[q2] at bM <;> rw[q1,q2] at aa <;> subst aa <;> clear q1 q2
 all_goals
  refine bq (f:=185) Tryz.func185 rfl rfl rfl rfl ?_;(refine cR ?_)
  ((refine bn rfl (bb rfl aM) ?_))
  exact ag.aW.refl _
theorem ahE{n m:Int}:aP ah 319 [aL n,aL m] (aL (fo n m)) :=
 iM [.int .i64 n,.int .i64 m] (.int .i64 (fo n m)) rfl rfl rfl rfl rfl fun W=>Hy n m W
abbrev lg(n d:Int)(o:Bool):ag := .w (.agg [.c (.int .i64 n),.c (.int .i64 d),.c (.bool o)])
abbrev vT(x:iQ):ag:=lg x.n x.d x.own
def nr(x:iQ):Prop:=(-2000000000≤x.n∧x.n≤2000000000)∧0<x.d∧x.d≤2000000000
theorem agD{x y:Int}(h1 : -2000000000≤x)(h2:x≤2000000000)(ar:0≤y)(aJ:y≤2000000000) : -4000000000000000000≤x*y∧x*y≤4000000000000000000:=by
 have a1:x*y≤2000000000*y:=qF h2 ar;have a2 : -2000000000*y≤x*y:=qF h1 ar;omega
theorem N9{x y:iQ}(ab:nr x)(ai:nr y):IntKind.i64.wrap (x.n*y.d)=x.n*y.d:=by
 obtain⟨⟨a1,a2⟩,a3,a4⟩:=ab;obtain⟨⟨b1,b2⟩,dM,de⟩:=ai;have:=agD a1 a2 (by omega:(0:Int)≤y.d) de;exact jx (by omega)
theorem aiZ{n d m e c:Int}{o q:Bool}(aZ:aP ah 319 [aL (n*e),aL (m*d)] (aL c))(w1:IntKind.i64.wrap (n*e)=n*e)(w2:IntKind.i64.wrap (m*d)=m*d):aP ah 318 [lg n d o,lg m e q] (aL c):=by
 refine bq (f:=318) Tryz.func318 rfl rfl rfl rfl ?_;(refine cR ?_)
 ((refine bn rfl (bb rfl aM) ?_))
 exact ag.aW.refl _
theorem Lx{x y:iQ}(ab:nr x)(ai:nr y):aP ah 318 [vT x,vT y] (aL (iD x y)) :=
 aiZ ahE (N9 ab ai) (N9 ai ab)
theorem aiJ{n d m e c:Int}{o q:Bool}{cn dQ:Int}{kk:Bool}(aZ:aP ah 318 [lg n d o,lg m e q] (aL c))(cs:(0<c∧cn=n∧dQ=d∧kk=o)∨(¬ 0<c∧c=0∧q=true∧cn=n∧dQ=d∧kk=o)∨(¬ 0<c∧c=0∧q=false∧cn=m∧dQ=e∧kk=q)∨(¬ 0<c∧¬c=0∧cn=m∧dQ=e∧kk=q)):aP ah 328 [lg n d o,lg m e q] (lg cn dQ kk):=by
 rcases cs with ⟨q1,rfl,rfl,rfl⟩|⟨q1,q2,rfl,rfl,rfl,rfl⟩|⟨q1,q2,rfl,rfl,rfl,rfl⟩|⟨q1,q2,rfl,rfl,rfl⟩
 all_goals
  refine bq (f:=328) Tryz.func328 rfl rfl rfl rfl ?_;(repeat first|refine dd ?_|refine fX ?_|(with_reducible apply bU (c:=true));rfl;rfl;(exact cd (by omega))|(with_reducible apply bU (c:=false));rfl;rfl;(exact cb (by omega)))
  ((refine bn rfl (da rfl rfl rfl aM) ?_))
  exact ag.aW.refl _
theorem aiI{x y:iQ}(ab:nr x)(ai:nr y):aP ah 328 [vT x,vT y] (vT (sw x y)):=by
 refine aiJ (Lx ab ai) ?_;rcases RQ x y with ⟨e,h⟩|⟨e,h⟩ <;> rw[e]
 ·by_cases h1:0<iD x y
  ·exact .inl ⟨h1,rfl,rfl,rfl⟩
  ·rcases h with h|⟨h,k⟩
   ·exact absurd h h1
   ·exact .inr (.inl ⟨h1,h,k,rfl,rfl,rfl⟩)
 ·have h1:¬ 0<iD x y:=fun k=>h (.inl k)
  by_cases h2:iD x y=0
  ·refine .inr (.inr (.inl ⟨h1,h2,?_,rfl,rfl,rfl⟩));cases ai:y.own with
   | false=>rfl
   | true=>exact absurd (.inr ⟨h2,ai⟩) h
  ·exact .inr (.inr (.inr ⟨h1,h2,rfl,rfl,rfl⟩))
theorem air{n d m e c:Int}{o q:Bool}{cn dQ:Int}{kk:Bool}(aZ:aP ah 318 [lg n d o,lg m e q] (aL c))(cs:(c<0∧cn=n∧dQ=d∧kk=o)∨(¬c<0∧c=0∧q=true∧cn=n∧dQ=d∧kk=o)∨(¬c<0∧c=0∧q=false∧cn=m∧dQ=e∧kk=q)∨(¬c<0∧¬c=0∧cn=m∧dQ=e∧kk=q)):aP ah 329 [lg n d o,lg m e q] (lg cn dQ kk):=by
 rcases cs with ⟨q1,rfl,rfl,rfl⟩|⟨q1,q2,rfl,rfl,rfl,rfl⟩|⟨q1,q2,rfl,rfl,rfl,rfl⟩|⟨q1,q2,rfl,rfl,rfl⟩
 all_goals
  refine bq (f:=329) Tryz.func329 rfl rfl rfl rfl ?_;(repeat first|refine dd ?_|refine fX ?_|(with_reducible apply bU (c:=true));rfl;rfl;(exact cd (by omega))|(with_reducible apply bU (c:=false));rfl;rfl;(exact cb (by omega)))
  ((refine bn rfl (da rfl rfl rfl aM) ?_))
  exact ag.aW.refl _
theorem aiq{x y:iQ}(ab:nr x)(ai:nr y):aP ah 329 [vT x,vT y] (vT (r6 x y)):=by
 refine air (Lx ab ai) ?_;rcases OZ x y with ⟨e,h⟩|⟨e,h⟩ <;> rw[e]
 ·by_cases h1:iD x y<0
  ·exact .inl ⟨h1,rfl,rfl,rfl⟩
  ·rcases h with h|⟨h,k⟩
   ·exact absurd h h1
   ·exact .inr (.inl ⟨h1,h,k,rfl,rfl,rfl⟩)
 ·have h1:¬iD x y<0:=fun k=>h (.inl k)
  by_cases h2:iD x y=0
  ·refine .inr (.inr (.inl ⟨h1,h2,?_,rfl,rfl,rfl⟩));cases ai:y.own with
   | false=>rfl
   | true=>exact absurd (.inr ⟨h2,ai⟩) h
  ·exact .inr (.inr (.inr ⟨h1,h2,rfl,rfl,rfl⟩))
abbrev hJ(a1 a2 b1 b2 n d:Int)(o:Bool)(m e:Int)(q:Bool):ag := .w (.agg [.c (.int .i64 a1),.c (.int .i64 a2),.c (.int .i64 b1),.c (.int .i64 b2),.c (.int .i64 n),.c (.int .i64 d),.c (.bool o),.c (.int .i64 m),.c (.int .i64 e),.c (.bool q)])
abbrev Hf(a1 a2 b1 b2:Int)(p:Pa):ag:=hJ a1 a2 b1 b2 p.f.n p.f.d p.f.own p.t.n p.t.d p.t.own
def Ad(p:Pa):Prop:=nr p.f∧nr p.t
theorem aiH{a1 a2 b1 b2 n d m e u v:Int}{o q w:Bool}{n' d' aG e':Int}{fT cI:Bool}(hu : -1100000000≤u∧u≤1100000000)(hv : -1100000000≤v∧v≤1100000000)
  (cs:(0<v-u∧aP ah 328 [lg n d o,lg (-u) (v-u) w] (lg n' d' fT)∧aG=m∧e'=e∧cI=q)∨(¬ 0<v-u∧v-u<0∧aP ah 329 [lg m e q,lg u (-(v-u)) w] (lg aG e' cI)∧n'=n∧d'=d∧fT=o)
   ∨ (¬ 0<v-u∧¬v-u<0∧u<0∧n'=1∧d'=1∧fT=false∧aG=0∧e'=1∧cI=false)∨(¬ 0<v-u∧¬v-u<0∧¬u<0∧u=0∧w=false∧n'=1∧d'=1∧fT=false∧aG=0∧e'=1∧cI=false)
   ∨ (¬ 0<v-u∧¬v-u<0∧¬u<0∧u=0∧w=true∧n'=n∧d'=d∧fT=o∧aG=m∧e'=e∧cI=q)∨(¬ 0<v-u∧¬v-u<0∧¬u<0∧¬u=0∧n'=n∧d'=d∧fT=o∧aG=m∧e'=e∧cI=q)) :
  aP ah 317 [hJ a1 a2 b1 b2 n d o m e q,aL u,aL v,bl w] (hJ a1 a2 b1 b2 n' d' fT aG e' cI):=by
 rcases cs with ⟨q1,aZ,rfl,rfl,rfl⟩|⟨q1,q2,aZ,rfl,rfl,rfl⟩|⟨q1,q2,q3,rfl,rfl,rfl,rfl,rfl,rfl⟩|⟨q1,q2,q3,q4,rfl,rfl,rfl,rfl,rfl,rfl,rfl⟩|⟨q1,q2,q3,q4,rfl,rfl,rfl,rfl,rfl,rfl,rfl⟩|⟨q1,q2,q3,q4,rfl,rfl,rfl,rfl,rfl,rfl⟩
 ·refine bq (f:=317) Tryz.func317 rfl rfl rfl rfl ?_;(refine cR ?_)
  ((refine bn rfl (da rfl rfl rfl aM) ?_))
  exact ag.aW.refl _
 ·refine bq (f:=317) Tryz.func317 rfl rfl rfl rfl ?_;(refine cR ?_)
  ((refine bn rfl (da rfl rfl rfl aM) ?_))
  exact ag.aW.refl _
 all_goals
  refine bq (f:=317) Tryz.func317 rfl rfl rfl rfl ?_;(repeat first|refine dd ?_|(with_reducible apply bU (c:=true));rfl;rfl;(exact cd (by omega))|(with_reducible apply bU (c:=false));rfl;rfl;(exact cb (by omega)))
  ((refine bn rfl (da rfl rfl rfl aM) ?_))
  exact ag.aW.refl _
theorem afK{x y:iQ}(ab:nr x)(ai:nr y):nr (sw x y):=by unfold sw;split <;> assumption
theorem aau{x y:iQ}(ab:nr x)(ai:nr y):nr (r6 x y):=by unfold r6;split <;> assumption
theorem F0{p:Pa}{u v:Int}{w:Bool}(hp:Ad p)(hu : -900000000≤u∧u≤900000000)(hv : -900000000≤v∧v≤900000000):Ad (pB p u v w):=by
 unfold pB
 by_cases h1:0<v-u
 ·rw[if_pos h1];exact⟨afK hp.1 ⟨by simp only;omega,by simp only;omega⟩,hp.2⟩
 ·rw[if_neg h1]
  by_cases h2:v-u<0
  ·rw[if_pos h2];exact⟨hp.1,aau hp.2 ⟨by simp only;omega,by simp only;omega⟩⟩
  ·rw[if_neg h2]
   split
   ·exact⟨⟨by decide,by decide⟩,⟨by decide,by decide⟩⟩
   ·exact hp
theorem Gw{a1 a2 b1 b2 u v:Int}{w:Bool}{p:Pa}(hp:Ad p)(hu : -900000000≤u∧u≤900000000)(hv : -900000000≤v∧v≤900000000):aP ah 317 [Hf a1 a2 b1 b2 p,aL u,aL v,bl w] (Hf a1 a2 b1 b2 (pB p u v w)):=by
 refine aiH (by omega) (by omega) ?_;unfold pB
 by_cases h1:0<v-u
 ·rw[if_pos h1];exact .inl ⟨h1,aiI hp.1 (y:=⟨-u,v-u,w⟩) ⟨by simp only;omega,by simp only;omega⟩,rfl,rfl,rfl⟩
 ·rw[if_neg h1]
  by_cases h2:v-u<0
  ·rw[if_pos h2];exact .inr (.inl ⟨h1,h2,aiq hp.2 (y:=⟨u,-(v-u),w⟩) ⟨by simp only;omega,by simp only;omega⟩,rfl,rfl,rfl⟩)
  ·rw[if_neg h2]
   by_cases ar:u<0
   ·rw[if_pos (.inl ar)];exact .inr (.inr (.inl ⟨h1,h2,ar,rfl,rfl,rfl,rfl,rfl,rfl⟩))
   ·by_cases aJ:u=0
    ·cases w with
     | false=>rw[if_pos (.inr ⟨aJ,rfl⟩)];exact .inr (.inr (.inr (.inl ⟨h1,h2,ar,aJ,rfl,rfl,rfl,rfl,rfl,rfl,rfl⟩)))
     | true=>rw[if_neg (by simp[ar])];exact .inr (.inr (.inr (.inr (.inl ⟨h1,h2,ar,aJ,rfl,rfl,rfl,rfl,rfl,rfl,rfl⟩))))
    ·rw[if_neg (by simp[ar,aJ])];exact .inr (.inr (.inr (.inr (.inr ⟨h1,h2,ar,aJ,rfl,rfl,rfl,rfl,rfl,rfl⟩))))
instance anT:HG ah 326 4 false 1:=⟨by kernel_rfl⟩
abbrev vU(l1 l2 h1 h2:Int)(o p:Bool):ag := .w (.agg [.c (.int .i64 l1),.c (.int .i64 l2),.c (.int .i64 h1),.c (.int .i64 h2),.c (.bool o),.c (.bool p)])
def uK(n:Int):Bool:=decide (-536870912≤n)&&decide (n≤536870912)
theorem On{n:Int}:uK n=true ↔ -536870912≤n∧n≤536870912:=by unfold uK;simp
def uM(x y:Int):Bool:=uK x&&uK y
theorem Et{x y:Int}:uM x y=true↔(-536870912≤x∧x≤536870912) ∧ -536870912≤y∧y≤536870912:=by unfold uM;rw[ef,On,On]
def FX(k:Int):Bool:=decide (0≤k)&&decide (k≤2)
theorem ain{a1 a2 b1 b2 l1 l2 h1 h2 n d m e n' d' aG e':Int}{o p q r cI bg:Bool}(aX : -134217728≤a1∧a1≤134217728)(aa : -134217728≤b1∧b1≤134217728)(al : -536870912≤l1∧l1≤536870912)
  (aZ:aP ah 317 [hJ a1 a2 b1 b2 n d q m e r,aL (2*a1-l1),aL (2*b1-l1),bl o] (hJ a1 a2 b1 b2 n' d' cI aG e' bg)):aP ah 286 [vU l1 l2 h1 h2 o p,hJ a1 a2 b1 b2 n d q m e r] (hJ a1 a2 b1 b2 n' d' cI aG e' bg):=by
 refine bq (f:=286) Tryz.func286 rfl rfl rfl rfl ?_;(refine cR ?_)
 ((refine bn rfl (da rfl rfl rfl aM) ?_))
 exact ag.aW.refl _
theorem aim{a1 a2 b1 b2 l1 l2 h1 h2 n d m e n' d' aG e':Int}{o p q r cI bg:Bool}(aX : -134217728≤a2∧a2≤134217728)(aa : -134217728≤b2∧b2≤134217728)(al : -536870912≤l2∧l2≤536870912)
  (aZ:aP ah 317 [hJ a1 a2 b1 b2 n d q m e r,aL (2*a2-l2),aL (2*b2-l2),bl o] (hJ a1 a2 b1 b2 n' d' cI aG e' bg)):aP ah 287 [vU l1 l2 h1 h2 o p,hJ a1 a2 b1 b2 n d q m e r] (hJ a1 a2 b1 b2 n' d' cI aG e' bg):=by
 refine bq (f:=287) Tryz.func287 rfl rfl rfl rfl ?_;(refine cR ?_)
 ((refine bn rfl (da rfl rfl rfl aM) ?_))
 exact ag.aW.refl _
theorem aio{a1 a2 b1 b2 l1 l2 h1 h2 n d m e n' d' aG e':Int}{o p q r cI bg:Bool}(aX : -134217728≤a1∧a1≤134217728)(aa : -134217728≤b1∧b1≤134217728)(al : -536870912≤h1∧h1≤536870912)
  (aZ:aP ah 317 [hJ a1 a2 b1 b2 n d q m e r,aL (h1-2*a1),aL (h1-2*b1),bl p] (hJ a1 a2 b1 b2 n' d' cI aG e' bg)):aP ah 288 [vU l1 l2 h1 h2 o p,hJ a1 a2 b1 b2 n d q m e r] (hJ a1 a2 b1 b2 n' d' cI aG e' bg):=by
 refine bq (f:=288) Tryz.func288 rfl rfl rfl rfl ?_;(refine cR ?_)
 ((refine bn rfl (da rfl rfl rfl aM) ?_))
 exact ag.aW.refl _
theorem ail{a1 a2 b1 b2 l1 l2 h1 h2 n d m e n' d' aG e':Int}{o p q r cI bg:Bool}(aX : -134217728≤a2∧a2≤134217728)(aa : -134217728≤b2∧b2≤134217728)(al : -536870912≤h2∧h2≤536870912)
  (aZ:aP ah 317 [hJ a1 a2 b1 b2 n d q m e r,aL (h2-2*a2),aL (h2-2*b2),bl p] (hJ a1 a2 b1 b2 n' d' cI aG e' bg)):aP ah 289 [vU l1 l2 h1 h2 o p,hJ a1 a2 b1 b2 n d q m e r] (hJ a1 a2 b1 b2 n' d' cI aG e' bg):=by
 refine bq (f:=289) Tryz.func289 rfl rfl rfl rfl ?_;(refine cR ?_)
 ((refine bn rfl (da rfl rfl rfl aM) ?_))
 exact ag.aW.refl _
theorem ah4{a1 a2 b1 b2:Int}:aP ah 285 [bm a1 a2,bm b1 b2] (Hf a1 a2 b1 b2 wu):=by
 refine bq (f:=285) Tryz.func285 rfl rfl rfl rfl ?_;(refine fi ?_)
 ((refine bn rfl (da rfl rfl rfl aM) ?_))
 exact ag.aW.refl _
theorem aiz{a1 a2 b1 b2 n d m e c:Int}{o q r:Bool}(aZ:aP ah 318 [lg n d o,lg m e q] (aL c))(cs:(c<0∧r=true)∨(¬c<0∧c=0∧o=true∧r=q)∨(¬c<0∧c=0∧o=false∧r=false)∨(¬c<0∧¬c=0∧r=false)):aP ah 290 [hJ a1 a2 b1 b2 n d o m e q] (bl r):=by
 rcases cs with ⟨q1,rfl⟩|⟨q1,q2,rfl,rfl⟩|⟨q1,q2,rfl,rfl⟩|⟨q1,q2,rfl⟩
 all_goals
  refine bq (f:=290) Tryz.func290 rfl rfl rfl rfl ?_;(repeat first|refine dd ?_|refine fX ?_|(with_reducible apply bU (c:=true));rfl;rfl;(exact cd (by omega))|(with_reducible apply bU (c:=false));rfl;rfl;(exact cb (by omega)))
  ((refine bn rfl (bb rfl aM) ?_))
  exact ag.aW.refl _
theorem aiy{a1 a2 b1 b2:Int}{p:Pa}(hp:Ad p):aP ah 290 [Hf a1 a2 b1 b2 p] (bl (yg p)):=by
 refine aiz (Lx hp.1 hp.2) ?_;unfold yg
 by_cases h1:iD p.f p.t<0
 ·exact .inl ⟨h1,by rw[cd h1];rfl⟩
 ·rw[cb h1]
  by_cases h2:iD p.f p.t=0
  ·rw[cd h2];cases ar:p.f.own with
   | true=>exact .inr (.inl ⟨h1,h2,rfl,rfl⟩)
   | false=>exact .inr (.inr (.inl ⟨h1,h2,rfl,rfl⟩))
  ·exact .inr (.inr (.inr ⟨h1,h2,by rw[cb h2];rfl⟩))
theorem Tp{n:Int}{b:Bool}(aa:uK n=b):aP ah 316 [aL n] (bl b):=by
 have cs:(-536870912≤n∧n≤536870912∧b=true)∨(-536870912≤n∧¬n≤536870912∧b=false)∨(¬ -536870912≤n∧b=false):=by
  rw[←aa];unfold uK
  by_cases h1 : -536870912≤n <;> by_cases h2:n≤536870912 <;> simp[h1,h2]
 clear aa;rcases cs with ⟨h1,h2,rfl⟩|⟨h1,h2,rfl⟩|⟨h1,rfl⟩
 all_goals
  refine bq (f:=316) Tryz.func316 rfl rfl rfl rfl ?_;(repeat first|refine dd ?_|(with_reducible apply bU (c:=true));rfl;rfl;(exact cd (by omega))|(with_reducible apply bU (c:=false));rfl;rfl;(exact cb (by omega)))
  ((refine bn rfl (bb rfl aM) ?_))
  first|exact ag.aW.refl _|exact ag.aW.of_eq (by rw[cd h2];rfl)|exact ag.aW.of_eq (by rw[cb h2];rfl)
theorem Gv{x y:Int}{b:Bool}(aa:uM x y=b):aP ah 283 [bm x y] (bl b):=by
 have aZ:=Tp (n:=x) rfl;have bM:=Tp (n:=y) rfl;unfold uM at aa;cases q1:uK x <;> cases q2:uK y <;> rw[q1] at aZ <;> rw[q2] at bM <;> rw[q1,q2] at aa <;> subst aa <;> clear q1 q2
 all_goals
  refine bq (f:=283) Tryz.func283 rfl rfl rfl rfl ?_;(refine cR ?_)
  ((refine bn rfl (bb rfl aM) ?_))
  exact ag.aW.refl _
theorem Ts{k:Int}{b:Bool}(aa:FX k=b):aP ah 284 [aL k] (bl b):=by
 have cs:(k=0∧b=true)∨(¬k=0∧k=1∧b=true)∨(¬k=0∧¬k=1∧k=2∧b=true)∨(¬k=0∧¬k=1∧¬k=2∧b=false):=by
  rw[←aa];unfold FX
  by_cases h1:k=0
  ·exact .inl ⟨h1,by subst h1;rfl⟩
  ·by_cases h2:k=1
   ·exact .inr (.inl ⟨h1,h2,by subst h2;rfl⟩)
   ·by_cases ar:k=2
    ·exact .inr (.inr (.inl ⟨h1,h2,ar,by subst ar;rfl⟩))
    ·refine .inr (.inr (.inr ⟨h1,h2,ar,?_⟩));rw[Bool.and_eq_false_iff,kK,kK];omega
 clear aa;rcases cs with ⟨h1,rfl⟩|⟨h1,h2,rfl⟩|⟨h1,h2,ar,rfl⟩|⟨h1,h2,ar,rfl⟩
 all_goals
  refine bq (f:=284) Tryz.func284 rfl rfl rfl rfl ?_;(repeat first|refine dd ?_|(with_reducible apply bU (c:=true));rfl;rfl;(exact cd (by omega))|(with_reducible apply bU (c:=false));rfl;rfl;(exact cb (by omega)))
  ((refine bn rfl (bb rfl aM) ?_))
  first|exact ag.aW.refl _|exact ag.aW.of_eq (by rw[cd ar];rfl)|exact ag.aW.of_eq (by rw[cb ar];rfl)
theorem ahS{a1 a2 b1 b2 l1 l2 h1 h2 k:Int}{o p r:Bool}{fq d1 m1 aI gI d2 m2 aO rq d3 m3 cf rs d4 m4 ei:Int}{q1 cn q2 dQ q3 kk q4 sP:Bool}(R1:aP ah 185 [bm a1 a2] (bl true))(dR:aP ah 185 [bm b1 b2] (bl true))(qR:aP ah 283 [bm l1 l2] (bl true))(M4:aP ah 283 [bm h1 h2] (bl true))(Xl:aP ah 284 [aL k] (bl true))
  (aaF:(!decide (k=2))=o) (tl:decide (k=1)=p) (aN:aP ah 285 [bm a1 a2,bm b1 b2] (hJ a1 a2 b1 b2 0 1 true 1 1 true))
  (aZ:aP ah 286 [vU l1 l2 h1 h2 o p,hJ a1 a2 b1 b2 0 1 true 1 1 true] (hJ a1 a2 b1 b2 fq d1 q1 m1 aI cn))
  (bM:aP ah 287 [vU l1 l2 h1 h2 o p,hJ a1 a2 b1 b2 fq d1 q1 m1 aI cn] (hJ a1 a2 b1 b2 gI d2 q2 m2 aO dQ))
  (eh:aP ah 288 [vU l1 l2 h1 h2 o p,hJ a1 a2 b1 b2 gI d2 q2 m2 aO dQ] (hJ a1 a2 b1 b2 rq d3 q3 m3 cf kk))
  (j1:aP ah 289 [vU l1 l2 h1 h2 o p,hJ a1 a2 b1 b2 rq d3 q3 m3 cf kk] (hJ a1 a2 b1 b2 rs d4 q4 m4 ei sP))
  (H1:aP ah 290 [hJ a1 a2 b1 b2 rs d4 q4 m4 ei sP] (bl r)) :
  aP ah 250 [bm a1 a2,bm b1 b2,bm l1 l2,bm h1 h2,aL k] (bl r):=by
 subst aaF;subst tl;refine bq (f:=250) Tryz.func250 rfl rfl rfl rfl ?_;(refine cR ?_);refine Zj 5 ?_;(refine cR ?_)
 ((refine bn rfl (bb rfl aM) ?_))
 exact ag.aW.refl _
def dF(a1 a2 b1 b2 l1 l2 h1 h2 k:Int):Pa:=uO (2*a1-l1) (2*b1-l1) (2*a2-l2) (2*b2-l2) (h1-2*a1) (h1-2*b1) (h2-2*a2) (h2-2*b2) (!decide (k=2)) (decide (k=1))
def y4(a1 a2 b1 b2 l1 l2 h1 h2 k:Int):Bool:=c6 a1 a2&&c6 b1 b2&&uM l1 l2&&uM h1 h2&&FX k
def y3(a1 a2 b1 b2 l1 l2 h1 h2 k:Int):Bool:=y4 a1 a2 b1 b2 l1 l2 h1 h2 k&&yg (dF a1 a2 b1 b2 l1 l2 h1 h2 k)
theorem ahT{a1 a2 b1 b2 l1 l2 h1 h2 k:Int}{cn dQ kk sP GI:Bool}(R1:aP ah 185 [bm a1 a2] (bl cn))(dR:aP ah 185 [bm b1 b2] (bl dQ))(qR:aP ah 283 [bm l1 l2] (bl kk))(M4:aP ah 283 [bm h1 h2] (bl sP))(Xl:aP ah 284 [aL k] (bl GI))(h:(cn&&dQ&&kk&&sP&&GI)=false) :
  aP ah 250 [bm a1 a2,bm b1 b2,bm l1 l2,bm h1 h2,aL k] (bl false):=by
 have cs:cn=false∨(cn=true∧dQ=false)∨(cn=true∧dQ=true∧kk=false)∨(cn=true∧dQ=true∧kk=true∧sP=false)∨(cn=true∧dQ=true∧kk=true∧sP=true∧GI=false):=by
  cases cn <;> cases dQ <;> cases kk <;> cases sP <;> cases GI <;> simp_all
 clear h;rcases cs with rfl|⟨rfl,rfl⟩|⟨rfl,rfl,rfl⟩|⟨rfl,rfl,rfl,rfl⟩|⟨rfl,rfl,rfl,rfl,rfl⟩
 all_goals
  refine bq (f:=250) Tryz.func250 rfl rfl rfl rfl ?_;(refine cR ?_)
  ((refine bn rfl (bb rfl aM) ?_))
  exact ag.aW.refl _
theorem NB:Ad wu:=⟨⟨by decide,by decide⟩,⟨by decide,by decide⟩⟩
theorem ahR{a1 a2 b1 b2 l1 l2 h1 h2 k:Int}:aP ah 250 [bm a1 a2,bm b1 b2,bm l1 l2,bm h1 h2,aL k] (bl (y3 a1 a2 b1 b2 l1 l2 h1 h2 k)):=by
 unfold y3;cases ap:y4 a1 a2 b1 b2 l1 l2 h1 h2 k with
 | false=>exact ahT (qx rfl) (qx rfl) (Gv rfl) (Gv rfl) (Ts rfl) ap
 | true =>
  rw[pK];unfold y4 at ap;simp only[ef] at ap;obtain⟨⟨⟨⟨Uh,Ui⟩,UD⟩,UA⟩,ajV⟩:=ap;have FJ:=uj.1 Uh;have FK:=uj.1 Ui;have Ra:=Et.1 UD;have cg:=Et.1 UA;unfold dF uO;have o1:=F0 (u:=2*a1-l1) (v:=2*b1-l1) (w := !decide (k=2)) NB (by omega) (by omega);have o2:=F0 (u:=2*a2-l2) (v:=2*b2-l2) (w := !decide (k=2)) o1 (by omega) (by omega);have SQ:=F0 (u:=h1-2*a1) (v:=h1-2*b1) (w:=decide (k=1)) o2 (by omega) (by omega);have ag7:=F0 (u:=h2-2*a2) (v:=h2-2*b2) (w:=decide (k=1)) SQ (by omega) (by omega);exact ahS (qx Uh) (qx Ui) (Gv UD) (Gv UA) (Ts ajV) rfl rfl ah4 (ain FJ.1 FK.1 Ra.1 (Gw NB (by omega) (by omega))) (aim FJ.2 FK.2 Ra.2 (Gw o1 (by omega) (by omega))) (aio FJ.1 FK.1 cg.1 (Gw o2 (by omega) (by omega))) (ail FJ.2 FK.2 cg.2 (Gw SQ (by omega) (by omega))) (aiy ag7)
theorem Tf{a1 a2 b1 b2 x y k:Int}{cn dQ:Bool}(qK:aP ah 80 [aL k] (bl cn))(W5:aP ah 145 [bm x y,aL k] (bl dQ))(h:(cn&&dQ)=false):aP ah 193 [bm a1 a2,bm b1 b2,bm x y,aL k] (bl false):=by
 have cs:cn=false∨(cn=true∧dQ=false):=by cases cn <;> cases dQ <;> simp_all
 clear h;rcases cs with rfl|⟨rfl,rfl⟩
 all_goals
  refine bq (f:=193) Tryz.func193 rfl rfl rfl rfl ?_;(refine cR ?_)
  ((refine bn rfl (bb rfl aM) ?_))
  exact ag.aW.refl _
theorem ahK{a1 a2 b1 b2 x y k l1 l2 h1 h2:Int}{r:Bool}(qK:aP ah 80 [aL k] (bl true))(W5:aP ah 145 [bm x y,aL k] (bl true))(amk:aP ah 249 [bm x y,aL k] (.cj [.agg [.c (.int .i64 l1),.c (.int .i64 l2)],.agg [.c (.int .i64 h1),.c (.int .i64 h2)]]))(M:aP ah 250 [bm a1 a2,bm b1 b2,bm l1 l2,bm h1 h2,aL 0] (bl r)):aP ah 193 [bm a1 a2,bm b1 b2,bm x y,aL k] (bl r):=by
 refine bq (f:=193) Tryz.func193 rfl rfl rfl rfl ?_;(refine cR ?_)
 ((refine bn rfl (bb rfl aM) ?_))
 exact ag.aW.refl _
def yF(a1 a2 b1 b2 x y k:Int):Bool:=decide (0≤k)&&decide (k≤28)&&dW k.toNat x y&&y3 a1 a2 b1 b2 (2*(2^k.toNat*x)-2^k.toNat) (2*(2^k.toNat*y)-2^k.toNat) (2*(2^k.toNat*x)+2^k.toNat) (2*(2^k.toNat*y)+2^k.toNat) 0
theorem aeD{k:Int}(h:(decide (0≤k)&&decide (k≤28))=true):gY k k.toNat:=by
 simp only[ef,cV] at h;unfold gY;omega
theorem ahJ{a1 a2 b1 b2 x y k:Int}:aP ah 193 [bm a1 a2,bm b1 b2,bm x y,aL k] (bl (yF a1 a2 b1 b2 x y k)):=by
 unfold yF;have qK:=Gu (k:=k);cases ae:(decide (0≤k)&&decide (k≤28)) with
 | false =>
  rw[ae] at qK;obtain⟨r,ap⟩:=aeC k;exact Tf qK (tY ap rfl) rfl
 | true =>
  rw[ae] at qK;have ap:=aeD ae;cases hi:dW k.toNat x y with
  | false=>exact Tf qK (tY ap hi) rfl
  | true=>exact ahK qK (tY ap hi) (ah0 ap hi) ahR
end Go.Proofs.YtklpfooafbjnpaaGreat
namespace Go.Proofs.YtklpfooafbjnpaaGreat
def M8(a1 a2 b1 b2 l1 l2 h1 h2 k:Int):Prop:=Met (2*a1-l1) (2*b1-l1) (2*a2-l2) (2*b2-l2) (h1-2*a1) (h1-2*b1) (h2-2*a2) (h2-2*b2) (!decide (k=2)) (decide (k=1))
theorem KZ{a1 a2 b1 b2 l1 l2 h1 h2 k:Int}:y3 a1 a2 b1 b2 l1 l2 h1 h2 k=true↔y4 a1 a2 b1 b2 l1 l2 h1 h2 k=true∧M8 a1 a2 b1 b2 l1 l2 h1 h2 k:=by
 unfold y3 dF M8;rw[ef,Z4]
theorem agf{a1 a2 b1 b2 l1 l2 h1 h2 k:Int}:y4 a1 a2 b1 b2 l1 l2 h1 h2 k=true↔c6 a1 a2=true∧c6 b1 b2=true∧uM l1 l2=true∧uM h1 h2=true∧FX k=true:=by
 unfold y4;simp only[ef,and_assoc]
end Go.Proofs.YtklpfooafbjnpaaGreat
namespace Go.Proofs.YtklpfooafbjnpaaGreat
open Go.ChangeShapes Go.WideShapes Go.ChangeAt Go.RowKit Go.Joins
theorem ahw:ownKnob ah.godebug=none:=by kernel_rfl
section
variable{H:Type}{enc:TypeId×Value→H}{P:Program}
end
section
variable{P:Program}{W:World}{r:Reach}{b:Nat}{t:TypeId}{v:Value}
end
end Go.Proofs.YtklpfooafbjnpaaGreat
namespace Go.Proofs.YtklpfooafbjnpaaGreat
open Go.RowKit
theorem abA{P v:Int}(eW:0<P):2*((2*v+P)/(2*P)*P)≤2*v+P∧2*v+P<2*((2*v+P)/(2*P)*P)+2*P:=by
 have h1:=rC (2*v+P) (2*P);have h2:=pH (2*v+P) (show 2*P≠0 by omega);have ar:=o8 (2*v+P) (show 0<2*P by omega);have e:2*P*((2*v+P)/(2*P))=2*((2*v+P)/(2*P)*P):=by rw[lb,k9 P]
 omega
theorem JU{a1 a2 b1 b2 q1 q2:Int}{r:Nat}(ap:r≤28):yF a1 a2 b1 b2 q1 q2 r=true↔dW r q1 q2=true∧y3 a1 a2 b1 b2 (2*(2^r*q1)-2^r) (2*(2^r*q2)-2^r) (2*(2^r*q1)+2^r) (2*(2^r*q2)+2^r) 0=true:=by
 unfold yF;have g1:decide ((0:Int)≤(r:Int))=true:=cd (by omega);have g2:decide ((r:Int)≤28)=true:=cd (by omega);rw[g1,g2,kL,Bool.and_self,pK,ef]
def DG(p:aq):Prop:=(-9223372036854775808≤p.1∧p.1≤9223372036854775807) ∧ -9223372036854775808≤p.2∧p.2≤9223372036854775807
def sC(a1 a2 b1 b2 k:Int)(p:aq):Bool:=yF a1 a2 b1 b2 p.1 p.2 k
end Go.Proofs.YtklpfooafbjnpaaGreat
namespace Go.Proofs.YtklpfooafbjnpaaGreat
def tU(a b x A1 t:Rat):Prop := -A1≤2*a+t*(2*(b-a))-x∧2*a+t*(2*(b-a))-x≤A1
def oX(S p q x u:Rat):Prop:=2*(S*x)-S≤2*(S*p+u*(S*q-S*p))∧2*(S*p+u*(S*q-S*p))<2*(S*x)+S
theorem SL{a b p q x S d t1 t2 u:Rat}(h1:tU a b (2*(S*p)) (d*S) t1)(h2:tU a b (2*(S*q)) (d*S) t2)(lf:0≤u)(cN:u≤1)(hm:oX S p q x u):tU a b (2*(S*x)) ((d+1)*S) (t1+u*(t2-t1)):=by
 obtain⟨a1,a2⟩:=h1;obtain⟨b1,b2⟩:=h2;obtain⟨m1,m2⟩:=hm;have v0:0≤1-u:=by grind
 have bx:=lI v0 (show 0≤2*a+t1*(2*(b-a))-2*(S*p)+d*S by grind);have cl:=lI v0 (show 0≤d*S-(2*a+t1*(2*(b-a))-2*(S*p)) by grind);have jM:=lI lf (show 0≤2*a+t2*(2*(b-a))-2*(S*q)+d*S by grind);have lF:=lI lf (show 0≤d*S-(2*a+t2*(2*(b-a))-2*(S*q)) by grind)
 constructor
 ·grind
 ·grind
theorem SM{a b x f g t:Rat}(yD:f≤g)(h:tU a b x f t):tU a b x g t:=by
 obtain⟨h1,h2⟩:=h
 constructor <;> grind
abbrev bz(n:Int):Rat:=(n:Rat)
def zc(a1 a2 b1 b2 S:Int)(A1 t:Rat)(v:aq):Prop:=tU (bz a1) (bz b1) (2*(bz S*bz v.1)) A1 t∧tU (bz a2) (bz b2) (2*(bz S*bz v.2)) A1 t
def rV(S:Int)(p q:aq)(u:Rat)(x:aq):Prop:=(0≤u∧u≤1)∧oX (bz S) (bz p.1) (bz q.1) (bz x.1) u∧oX (bz S) (bz p.2) (bz q.2) (bz x.2) u
theorem ag1{a1 a2 b1 b2 S:Int}{d t1 t2 u:Rat}{p q x:aq}(h1:zc a1 a2 b1 b2 S (d*bz S) t1 p)(h2:zc a1 a2 b1 b2 S (d*bz S) t2 q)(hm:rV S p q u x):zc a1 a2 b1 b2 S ((d+1)*bz S) (t1+u*(t2-t1)) x :=
 ⟨SL h1.1 h2.1 hm.1.1 hm.1.2 hm.2.1,SL h1.2 h2.2 hm.1.1 hm.1.2 hm.2.2⟩
theorem ag2{a1 a2 b1 b2 S:Int}{f g t:Rat}{v:aq}(yD:f≤g)(h:zc a1 a2 b1 b2 S f t v):zc a1 a2 b1 b2 S g t v:=⟨SM yD h.1,SM yD h.2⟩
theorem sQ{a b:Int}:bz a≤bz b↔a≤b:=Rat.intCast_le_intCast
theorem LO{a b:Int}:bz a<bz b↔a<b:=Rat.intCast_lt_intCast
theorem rE{a:Int}(h:0<a):0<bz a:=by have:=LO.2 h;simpa [bz] using this
theorem GK{a b:Int}(h:a<b):bz a+1≤bz b:=by
 have:=sQ.2 (show a+1≤b from h);simpa [bz,ui] using this
theorem Sq{S p q x y:Int}{u w:Rat}(hS:0<S)(ab:oX (bz S) (bz p) (bz q) (bz x) u)(ai:oX (bz S) (bz p) (bz q) (bz y) w)(mr:x<y)(jt:p≤q):u≤w:=by
 have eg:=rE hS;obtain⟨db,di⟩:=ab;obtain⟨jY,mE⟩:=ai;have h1:=GK mr;have h2:=sQ.2 jt;have bx:=lI (Rat.le_of_lt eg) (show 0≤bz y-(bz x+1) by grind);refine Rat.not_lt.1 fun aea => ?_;have cl:=lI (show 0≤u-w by grind) (lI (Rat.le_of_lt eg) (show 0≤bz q-bz p by grind));grind
theorem Sp{S p q x y:Int}{u w:Rat}(hS:0<S)(ab:oX (bz S) (bz p) (bz q) (bz x) u)(ai:oX (bz S) (bz p) (bz q) (bz y) w)(mr:y<x)(jt:q≤p):u≤w:=by
 have eg:=rE hS;obtain⟨db,di⟩:=ab;obtain⟨jY,mE⟩:=ai;have h1:=GK mr;have h2:=sQ.2 jt;have bx:=lI (Rat.le_of_lt eg) (show 0≤bz x-(bz y+1) by grind);refine Rat.not_lt.1 fun aea => ?_;have cl:=lI (show 0≤u-w by grind) (lI (Rat.le_of_lt eg) (show 0≤bz p-bz q by grind));grind
theorem F8{S p q x y:Int}{u w:Rat}(hS:0<S)(ab:oX (bz S) (bz p) (bz q) (bz x) u)(ai:oX (bz S) (bz p) (bz q) (bz y) w)(tI:u≤w)(jt:p≤q):x≤y:=by
 have eg:=rE hS;obtain⟨db,di⟩:=ab;obtain⟨jY,mE⟩:=ai;refine Int.not_lt.1 fun KB => ?_;have h1:=GK KB;have h2:=sQ.2 jt;have bx:=lI (Rat.le_of_lt eg) (show 0≤bz x-(bz y+1) by grind);have cl:=lI (show 0≤w-u by grind) (lI (Rat.le_of_lt eg) (show 0≤bz q-bz p by grind));grind
theorem F7{S p q x y:Int}{u w:Rat}(hS:0<S)(ab:oX (bz S) (bz p) (bz q) (bz x) u)(ai:oX (bz S) (bz p) (bz q) (bz y) w)(tI:u≤w)(jt:q≤p):y≤x:=by
 have eg:=rE hS;obtain⟨db,di⟩:=ab;obtain⟨jY,mE⟩:=ai;refine Int.not_lt.1 fun KB => ?_;have h1:=GK KB;have h2:=sQ.2 jt;have bx:=lI (Rat.le_of_lt eg) (show 0≤bz y-(bz x+1) by grind);have cl:=lI (show 0≤w-u by grind) (lI (Rat.le_of_lt eg) (show 0≤bz p-bz q by grind));grind
theorem Sn{S p q:Int}(hS:0<S):oX (bz S) (bz p) (bz q) (bz p) 0:=by
 have eg:=rE hS
 constructor <;> grind
theorem So{S p q:Int}(hS:0<S):oX (bz S) (bz p) (bz q) (bz q) 1:=by
 have eg:=rE hS
 constructor <;> grind
theorem F6{S p q x:Int}{u:Rat}(hS:0<S)(aF:0≤u)(h1:u≤1)(ab:oX (bz S) (bz p) (bz q) (bz x) u):(p≤q→p≤x∧x≤q)∧(q≤p→q≤x∧x≤p) :=
 ⟨fun h=>⟨F8 hS (Sn hS) ab aF h,F8 hS ab (So hS) h1 h⟩,fun h=>⟨F7 hS ab (So hS) h1 h,F7 hS (Sn hS) ab aF h⟩⟩
theorem Sj{S:Int}{p q x y:aq}{u w:Rat}(hS:0<S)(ab:rV S p q u x)(ai:rV S p q w y)(h:dZ (decide (S*q.1<S*p.1)) (decide (S*q.2<S*p.2)) x y=true):u≤w:=by
 have aI:(S*q.1<S*p.1)↔q.1<p.1:=⟨fun h=>Int.lt_of_mul_lt_mul_left h (by omega),fun h=>Int.mul_lt_mul_of_pos_left h hS⟩;have aO:(S*q.2<S*p.2)↔q.2<p.2:=⟨fun h=>Int.lt_of_mul_lt_mul_left h (by omega),fun h=>Int.mul_lt_mul_of_pos_left h hS⟩;rw[Ar] at h;simp only[cV,aI,aO] at h;rcases h with h|⟨he,h⟩
 ·by_cases g:q.1<p.1
  ·rw[if_pos g] at h;exact Sp hS ab.2.1 ai.2.1 h (by omega)
  ·rw[if_neg g] at h;exact Sq hS ab.2.1 ai.2.1 h (by omega)
 ·by_cases g:q.2<p.2
  ·rw[if_pos g] at h;exact Sp hS ab.2.2 ai.2.2 h (by omega)
  ·rw[if_neg g] at h;exact Sq hS ab.2.2 ai.2.2 h (by omega)
theorem ady{a b l n d u:Rat}(d0:0<d)(hu:u*d=n)(h:0≤(2*a-l)*(d-n)+(2*b-l)*n):l≤2*(a+u*(b-a)):=by
 subst hu;refine Rat.not_lt.1 fun bc => ?_;have k:=Rat.mul_pos d0 (show 0<l-2*(a+u*(b-a)) by grind);grind
theorem adz{a b l n d u:Rat}(d0:0<d)(hu:u*d=n)(h:0<(l-2*a)*(d-n)+(l-2*b)*n):2*(a+u*(b-a))<l:=by
 subst hu;refine Rat.not_le.1 fun bc => ?_;have k:=lI (Rat.le_of_lt d0) (show 0≤2*(a+u*(b-a))-l by grind);grind
theorem GJ{n d:Int}(hd:0<d):bz n/bz d*bz d=bz n:=Rat.div_mul_cancel (by have:=rE hd;grind)
theorem Qy{a b l:Int}{n d:Int}(hd:0<d)(h:kR (2*a-l) (2*b-l) true n d):bz l≤2*(bz a+bz n/bz d*(bz b-bz a)):=by
 have h1:0≤(2*a-l)*(d-n)+(2*b-l)*n:=by rcases h with h|⟨_,h⟩ <;> omega
 refine ady (rE hd) (GJ hd) ?_;have:=sQ.2 h1;simpa [bz,ui,Rat.intCast_mul,Rat.intCast_sub] using this
theorem Qz{a b l:Int}{n d:Int}(hd:0<d)(h:kR (l-2*a) (l-2*b) false n d):2*(bz a+bz n/bz d*(bz b-bz a))<bz l:=by
 have h1:0<(l-2*a)*(d-n)+(l-2*b)*n:=by
  rcases h with h|⟨h,_⟩
  ·exact h
  ·cases h
 refine adz (rE hd) (GJ hd) ?_;have:=LO.2 h1;simpa [bz,ui,Rat.intCast_mul,Rat.intCast_sub] using this
theorem agq{r:Nat}(ap:r≤28){p q x:aq}(h:sC (2^r*p.1) (2^r*p.2) (2^r*q.1) (2^r*q.2) r x=true):dW r x.1 x.2=true∧∃u,rV (2^r) p q u x:=by
 unfold sC at h;rw[JU ap] at h;refine⟨h.1,?_⟩;obtain⟨_,n,d,hd,⟨Bx,wZ⟩,g1,g2,g3,g4⟩:=KZ.1 h.2;have d0:=rE hd;refine⟨bz n/bz d,⟨?_,?_⟩,⟨?_,?_⟩,?_,?_⟩
 ·refine Rat.not_lt.1 fun bc => ?_;have k:=Rat.mul_pos d0 (show 0 < -(bz n/bz d) by grind);have e:=GJ (n:=n) hd;have gP:=sQ.2 Bx;have z:bz 0=0:=by simp[bz]
  rw[z] at gP;generalize bz n/bz d=u at *;grind
 ·refine Rat.not_lt.1 fun bc => ?_;have k:=Rat.mul_pos d0 (show 0<bz n/bz d-1 by grind);have e:=GJ (n:=n) hd;have fq:=sQ.2 wZ;generalize bz n/bz d=u at *;grind
 ·have:=Qy hd g1;simpa [bz,ui,Rat.intCast_mul,Rat.intCast_sub] using this
 ·have:=Qz hd g3;simpa [bz,ui,Rat.intCast_mul,Rat.intCast_sub] using this
 ·have:=Qy hd g2;simpa [bz,ui,Rat.intCast_mul,Rat.intCast_sub] using this
 ·have:=Qz hd g4;simpa [bz,ui,Rat.intCast_mul,Rat.intCast_sub] using this
def q6(p q:aq)(out:List aq)(x:aq):List aq:=if x≠p∧x≠q∧out.getLast?≠some x then out++[x] else out
def OO(p q:aq)(l:List aq):List aq:=l.foldl (q6 p q) []
theorem Ri{fx fy:Bool}{q:aq}:∀ {l:List aq},l.Pairwise (fun a b=>dZ fx fy b a=false)→(nN fx fy q l).Pairwise fun a b=>dZ fx fy b a=false
 | [],_=>by unfold nN;simp
 | p::l,h=>by
  have ak:=kj.1 h;unfold nN
  split
  ·rename_i aj;refine kj.2 ⟨fun r ap => ?_,h⟩;rcases fg.1 ap with rfl|ap
   ·exact Nz aj
   ·cases ba:dZ fx fy r q with
    | false=>rfl
    | true=>have:=ak.1 r ap;rw[As ba aj] at this;cases this
  ·rename_i aj;refine kj.2 ⟨fun r ap => ?_,Ri ak.2⟩;rcases fg.1 ((BZ fx fy q l).mem_iff.1 ap) with rfl|ap
   ·simpa using aj
   ·exact ak.1 r ap
theorem alh(fx fy:Bool)(f:aq→Bool)(l:List aq):(sX fx fy f l).Pairwise fun a b=>dZ fx fy b a=false:=by
 have key:∀(l out:List aq),out.Pairwise (fun a b=>dZ fx fy b a=false)→(l.foldl (fun out q=>if f q then nN fx fy q out else out) out).Pairwise fun a b=>dZ fx fy b a=false:=by
  intro l
  induction l with
  | nil=>intro out h;exact h
  | cons q l cg =>
   intro out h;rw[uc];refine cg _ ?_
   split
   ·exact Ri h
   ·exact h
 exact key l [] .nil
theorem IA{fx fy:Bool}{p q:aq}:∀(l out:List aq),lm fx fy out→(∀a∈out,∀b∈l,dZ fx fy b a=false)→l.Pairwise (fun a b=>dZ fx fy b a=false)→lm fx fy (l.foldl (q6 p q) out)∧(∀x∈l.foldl (q6 p q) out,x∈out∨(x∈l∧x≠p∧x≠q))∧(l.foldl (q6 p q) out).length≤out.length+l.length
 | [],out,h,_,_=>⟨h,fun x ab => .inl ab,cF _⟩
 | x::l,out,h,hw,al=>by
  have ak:=kj.1 al;rw[uc]
  by_cases ab:x≠p∧x≠q∧out.getLast?≠some x
  ·have e:q6 p q out x=out++[x]:=by unfold q6;rw[if_pos ab]
   rw[e]
   have aX:lm fx fy (out++[x]):=by
    unfold lm;rw[List.pairwise_append];refine⟨h,List.pairwise_singleton _ _,fun a aX b aa => ?_⟩;rw[je] at aa;subst aa;have h1:=hw a aX b (hE ..)
    by_cases oi:a=b
    ·subst oi;rcases List.eq_nil_or_concat out with aF|⟨fT,z,aF⟩
     ·subst aF;cases aX
     ·rw[List.concat_eq_append] at aF;subst aF;have aT:z≠a:=fun ba=>ab.2.2 (by rw[ba];simp)
      have tz:a∈fT:=by
       rcases kh.1 aX with aK|aK
       ·exact aK
       ·exact absurd (je.1 aK).symm aT
      have h2:=(List.pairwise_append.1 h).2.2 a tz z (je.2 rfl);have ar:=hw z (by simp) a (hE ..);rw[h2] at ar;cases ar
    ·exact(H3 oi).resolve_right (by rw[h1];decide)
   obtain⟨g1,g2,g3⟩:=IA l (out++[x]) aX (fun a tz b aa=>by
    rcases kh.1 tz with aK|aK
    ·exact hw a aK b (k8 _ aa)
    ·rw[je.1 aK];exact ak.1 b aa) ak.2
   refine⟨g1,fun y ai => ?_,by rw[c3,List.length_singleton] at g3;simp only[hX];omega⟩;rcases g2 y ai with aK|aK
   ·rcases kh.1 aK with aK|aK
    ·exact .inl aK
    ·rw[je.1 aK];exact .inr ⟨hE ..,ab.1,ab.2.1⟩
   ·exact .inr ⟨k8 _ aK.1,aK.2⟩
  ·have e:q6 p q out x=out:=by unfold q6;rw[if_neg ab]
   rw[e];obtain⟨g1,g2,g3⟩:=IA l out h (fun a tz b aa=>hw a tz b (k8 _ aa)) ak.2;refine⟨g1,fun y ai => ?_,by simp only[hX];omega⟩;rcases g2 y ai with aK|aK
   ·exact .inl aK
   ·exact .inr ⟨k8 _ aK.1,aK.2⟩
def tc(r:Nat)(l:List aq)(p q:aq):List aq:=OO p q (sX (decide ((2:Int)^r*q.1<2^r*p.1)) (decide ((2:Int)^r*q.2<2^r*p.2)) (sC (2^r*p.1) (2^r*p.2) (2^r*q.1) (2^r*q.2) r) l)
theorem D7{r:Nat}(ap:r≤28)(l:List aq)(p q:aq):lm (decide ((2:Int)^r*q.1<2^r*p.1)) (decide ((2:Int)^r*q.2<2^r*p.2)) (tc r l p q)∧(∀x∈tc r l p q,(x≠p∧x≠q)∧dW r x.1 x.2=true∧∃u,rV (2^r) p q u x)∧(tc r l p q).length≤l.length:=by
 obtain⟨g1,g2,g3⟩:=IA (p:=p) (q:=q) _ [] (List.Pairwise.nil:lm (decide ((2:Int)^r*q.1<2^r*p.1)) (decide ((2:Int)^r*q.2<2^r*p.2)) []) (fun a aX=>by cases aX) (alh _ _ (sC (2^r*p.1) (2^r*p.2) (2^r*q.1) (2^r*q.2) r) l);refine⟨g1,fun x ab => ?_,?_⟩
 ·rcases g2 x ab with h|⟨h1,h2⟩
  ·cases h
  ·have ar:=(List.mem_filter.1 ((G5 _ _ _ l).mem_iff.1 h1)).2;exact⟨h2,agq ap ar⟩
 ·refine eI g3 ?_;rw[List.length_nil,hZ];exact alg _ _ _ l
def gw(R:aq→aq→Prop):List aq→Prop
 | p::q::W=>R p q∧gw R (q::W)
 | _=>True
theorem Iv{R:aq→aq→Prop}:∀ {l:List aq},l.Pairwise R→gw R l
 | [],_=>trivial
 | [_],_=>trivial
 | p::q::W,h=>by
  have ak:=kj.1 h;exact⟨ak.1 q (hE ..),Iv ak.2⟩
theorem Iu{R:aq→aq→Prop}{q:aq}{W:List aq}:∀ {A:List aq},gw R (A++[q])→gw R (q::W)→gw R (A++q::W)
 | [],_,h=>h
 | [a],h,aK=>⟨h.1,aK⟩
 | a::b::A,h,aK=>⟨h.1,Iu (A:=b::A) h.2 aK⟩
theorem D8{r:Nat}(ap:r≤28)(l:List aq)(p q:aq){R:aq→aq→Prop}(aF:R p q)(h1:∀x,(∃u,rV (2^r) p q u x)→R p x∧R x q)(h2:∀x y u w,rV (2^r) p q u x→rV (2^r) p q w y→u≤w→R x y):gw R (p::(tc r l p q++[q])):=by
 obtain⟨s1,s2,_⟩:=D7 ap l p q;have hS:(0:Int)<2^r:=jE (by decide);refine Iv (kj.2 ⟨fun x ab => ?_,List.pairwise_append.2 ⟨s1.imp_of_mem fun{x y} ab ai mr => ?_,List.pairwise_singleton _ _,fun x ab y ai => ?_⟩⟩)
 ·rcases kh.1 ab with ab|ab
  ·exact(h1 x (s2 x ab).2.2).1
  ·rw[je.1 ab];exact aF
 ·obtain⟨u,hu⟩:=(s2 x ab).2.2;obtain⟨w,hw⟩:=(s2 y ai).2.2;exact h2 x y u w hu hw (Sj hS hu hw mr)
 ·rw[je.1 ai];exact(h1 x (s2 x ab).2.2).2
theorem Zd{r:Nat}(ap:r≤28)(l:List aq)(p q:aq)(h:p≠q):gw (· ≠ ·) (p::(tc r l p q++[q])):=by
 obtain⟨s1,s2,_⟩:=D7 ap l p q;refine Iv (kj.2 ⟨fun x ab => ?_,List.pairwise_append.2 ⟨s1.imp fun{x y} mr e => ?_,List.pairwise_singleton _ _,fun x ab y ai => ?_⟩⟩)
 ·rcases kh.1 ab with ab|ab
  ·exact fun e=>(s2 x ab).1.1 e.symm
  ·rw[je.1 ab];exact h
 ·subst e;rw[NA] at mr;cases mr
 ·rw[je.1 ai];exact(s2 x ab).1.2
def xD(r:Nat)(V:List aq)(D:List Int):Prop :=
 V≠[]∧V.length=D.length+1∧(∀v∈V,dW r v.1 v.2=true)∧gw (· ≠ ·) V∧(∀d∈D,1≤d∧d≤1048576) ∧
  (gw (fun p q=>p.1≤q.1) V∨gw (fun p q=>q.1≤p.1) V)∧(gw (fun p q=>p.2≤q.2) V∨gw (fun p q=>q.2≤p.2) V)
def G6(V:List aq)(j:Nat)(l:List aq):List aq:=V.take (j+1)++l++V.drop (j+1)
def C2(D:List Int)(j:Nat)(n:Nat):List Int:=D.take j++List.replicate (n+1) (D.getD j 0+1)++D.drop (j+1)
theorem aan{V:List aq}{j:Nat}{p q:aq}(hp:V[j]?=some p)(aj:V[j+1]?=some q):V.drop j=p::q::V.drop (j+2):=by
 obtain⟨h1,aI⟩:=bt.1 hp;obtain⟨h2,aO⟩:=bt.1 aj;rw[jU h1,aI,jU h2,aO]
end Go.Proofs.YtklpfooafbjnpaaGreat
namespace Go.Proofs.YtklpfooafbjnpaaGreat
open Go.RowKit
def qz(a b c d:Int):Int:=if dG a b c d=true then 0 else if a<c∨(a=c∧b<d) then -1 else 1
theorem aiQ{a b c d:Int}:aP ah 276 [bm a b,bm c d] (aL (qz a b c d)):=by
 have cs:(dG a b c d=true∧qz a b c d=0)∨(dG a b c d=false∧a<c∧qz a b c d = -1)∨(dG a b c d=false∧¬a<c∧a=c∧b<d∧qz a b c d = -1)∨(dG a b c d=false∧¬a<c∧a=c∧¬b<d∧qz a b c d=1)∨(dG a b c d=false∧¬a<c∧¬a=c∧qz a b c d=1):=by
  unfold qz;cases h:dG a b c d with
  | true=>simp
  | false =>
   by_cases h1:a<c <;> by_cases h2:a=c <;> by_cases ar:b<d <;> simp[h1,h2,ar] <;> omega
 rcases cs with ⟨h1,h⟩|⟨h1,h2,h⟩|⟨h1,h2,ar,aJ,h⟩|⟨h1,h2,ar,aJ,h⟩|⟨h1,h2,ar,h⟩ <;> rw[h] <;> clear h
 all_goals
  refine bq (f:=276) Tryz.func276 rfl rfl rfl rfl ?_;(repeat first|refine dd ?_|(with_reducible apply bU (c:=true));rfl;rfl;(exact cd (by omega))|(with_reducible apply bU (c:=false));rfl;rfl;(exact cb (by omega)))
  ((refine bn rfl (bb rfl aM) ?_))
  exact ag.aW.refl _
end Go.Proofs.YtklpfooafbjnpaaGreat
