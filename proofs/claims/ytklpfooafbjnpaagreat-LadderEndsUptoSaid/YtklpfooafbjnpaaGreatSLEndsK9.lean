/-
  My own texts,without what this claim does not need. My own text.
-/
import Derived.Deep.DrawnRows
import Derived.RegionTactic
import Derived.Deep.LoopGhost
import Derived.Deep.DeepCutAuto
import Derived.Test.YtklpfooafbjnpaaGreatProg
import Derived.ProofKit
import Derived.OpenShut
import Derived.Deep.DeepHandedRow
import Derived.Lib.LaidTab
import Derived.Lib.SmallJoins
import Derived.Test.YtklpfooafbjnpaaGreatSLEndsK8
set_option maxRecDepth 100000
set_option maxHeartbeats 64000000
set_option linter.unusedVariables false
set_option linter.unusedSimpArgs false
set_option linter.unusedSectionVars false
open Go.Proofs.Tryz renaming prog → ah
namespace Go.Proofs.YtklpfooafbjnpaaGreat
open Go.RowKit
def ib(w:World)(b:Nat)(u v x y:Value):Prop:=(w.cell? ⟨b,0,none⟩=some u∧w.cell? ⟨b,1,none⟩=some v∧w.cell? ⟨b,2,none⟩=some x∧w.cell? ⟨b,3,none⟩=some y)∧(w.frozen? ⟨b,0,none⟩=false∧w.frozen? ⟨b,1,none⟩=false∧w.frozen? ⟨b,2,none⟩=false∧w.frozen? ⟨b,3,none⟩=false)
section
variable{w W w1:World}{b g:Nat}{u v x y q:Value}
theorem ib.lt(h:ib w b u v x y):b<w.heap.size:=World.block_lt_of_cell? w _ h.1.1
theorem ib.call(h:ib W b u v x y)(aa:Below W.heap.size W w1):ib w1 b u v x y:=by
 have al:=h.lt;obtain⟨⟨h1,h2,ar,aK⟩,bB,cl,ju,lp⟩:=h;exact⟨⟨(aa.cell (p:=⟨b,0,none⟩) al).trans h1,(aa.cell (p:=⟨b,1,none⟩) al).trans h2,(aa.cell (p:=⟨b,2,none⟩) al).trans ar,(aa.cell (p:=⟨b,3,none⟩) al).trans aK⟩,(aa.frozen (p:=⟨b,0,none⟩) al).trans bB,(aa.frozen (p:=⟨b,1,none⟩) al).trans cl,(aa.frozen (p:=⟨b,2,none⟩) al).trans ju,(aa.frozen (p:=⟨b,3,none⟩) al).trans lp⟩
theorem ib.alloc(h:ib W b u v x y)(o:Obj):ib (W.alloc o) b u v x y:=h.call ((Below.refl _ _).alloc (cH _) o)
theorem ib.drew(h:ib W b u v x y):ib W.drew b u v x y:=h.call ((Below.refl _ _).drew)
theorem ib.new{t:TypeId}(e:b=W.heap.size):ib (W.alloc (.cells #[u,v,x,y] t)) b u v x y:=by
 subst e;unfold ib
 go_simp
theorem ib.set(h:ib W b u v x y)(o:Nat)(ne:g≠b):ib (W.setCell ⟨g,o,none⟩ q) b u v x y:=by
 obtain⟨⟨h1,h2,ar,aK⟩,bB,cl,ju,lp⟩:=h;have gE:∀i,(⟨g,o,none⟩:Addr)≠⟨b,i,none⟩:=fun i e=>ne (congrArg Addr.block e);refine⟨⟨?_,?_,?_,?_⟩,?_,?_,?_,?_⟩
 ·rw[World.cell?_setCell_other _ _ _ _ (gE 0)];exact h1
 ·rw[World.cell?_setCell_other _ _ _ _ (gE 1)];exact h2
 ·rw[World.cell?_setCell_other _ _ _ _ (gE 2)];exact ar
 ·rw[World.cell?_setCell_other _ _ _ _ (gE 3)];exact aK
 ·go_simp
 ·go_simp
 ·go_simp
 ·go_simp
end
section
variable{W:World}{b:Nat}{u v x y ru a8:Value}
end
theorem adQ(d:Int):decide (0<fj d 0)=decide (0<d):=by
 unfold fj;rw[oN];simp only[cS]
 repeat' split
 all_goals omega
end Go.Proofs.YtklpfooafbjnpaaGreat
namespace Go.Proofs.YtklpfooafbjnpaaGreat
open Go.RowKit
attribute [local go_sem ↓] Go.wp_at_zero Go.wp_at_succ
def oG(n d:Int):Int:=if n % d<d-n % d then n/d else n/d+1
theorem RZ{n d:Int}(aA:fits n=true)(hd:0<d)(A6:fits d=true):fits (d-n % d)=true∧(d-n % d≤n % d→fits (n/d+1)=true):=by
 unfold fits at *;rw[cS] at aA A6;have aF:=po n (show d≠0 by omega);have h1:=oO n hd;have h2:=rc n d;rw[cS,cS];refine⟨by omega,fun hle => ?_⟩;have yi:2≤d:=by omega
 have q1:n/d*2≤170141183460469231731687303715884105727 ∧ -170141183460469231731687303715884105728≤n/d:=by
  refine⟨?_,?_⟩
  ·rcases qp (n/d) 0 with q|q
   ·omega
   ·have:n/d*2≤n/d*d:=sB yi q;rw[kV (n/d) d] at this;omega
  ·rcases qp (n/d) 0 with q|q
   ·have:d*(n/d+1)≤1*(n/d+1):=Int.mul_le_mul_of_nonpos_right (by omega) (by omega);rw[Int.mul_add] at this;omega
   ·omega
 omega
end Go.Proofs.YtklpfooafbjnpaaGreat
namespace Go.Proofs.YtklpfooafbjnpaaGreat
open Go.RowKit
attribute [local go_sem ↓] Go.wp_at_zero Go.wp_at_succ
end Go.Proofs.YtklpfooafbjnpaaGreat
namespace Go.Proofs.YtklpfooafbjnpaaGreat
open Go.RowKit
attribute [local go_sem ↓] Go.wp_at_zero Go.wp_at_succ
theorem ib.cs{w:World}{b:Nat}{u v x y:Value}(h:ib w b u v x y):w.cell? ⟨b,0,none⟩=some u∧w.cell? ⟨b,1,none⟩=some v∧w.cell? ⟨b,2,none⟩=some x∧w.cell? ⟨b,3,none⟩=some y:=h.1
def mV(n d:Int)(k:Nat):Int:=if k=0 then oG n d else oG (n/d) (2^k)
theorem Tk{k:Nat}(h:k≤100):fits ((2:Int)^k)=true:=by
 have h1:=Nat.pow_le_pow_right (show 0<2 by decide) h;rw[show (2:Nat)^100=1267650600228229401496703205376 by decide] at h1;have h2:=(aiD k).1;have e:((2:Int)^k)=((2^k:Nat):Int):=by simp
 unfold fits;rw[e,cS];generalize (2:Nat)^k=P at *;omega
end Go.Proofs.YtklpfooafbjnpaaGreat
namespace Go.Proofs.YtklpfooafbjnpaaGreat
open Go.RowKit
attribute [local go_sem ↓] Go.wp_at_zero Go.wp_at_succ
end Go.Proofs.YtklpfooafbjnpaaGreat
namespace Go.Proofs.YtklpfooafbjnpaaGreat
open Go.RowKit
attribute [local go_sem ↓] Go.wp_at_zero Go.wp_at_succ
end Go.Proofs.YtklpfooafbjnpaaGreat
namespace Go.Proofs.YtklpfooafbjnpaaGreat
open Go.RowKit
attribute [local go_sem ↓] Go.wp_at_zero Go.wp_at_succ
section
variable{w W w1:World}{g cZ:Nat}{a b c d s t:Int}
end
end Go.Proofs.YtklpfooafbjnpaaGreat
namespace Go.Proofs.YtklpfooafbjnpaaGreat
open Go.RowKit
theorem xD{z:Int}(h:fits z=true):wf z = .cd [ob z,L3]:=by
 show ag.cd [ob (if fits z then z else 0),.one (.c (.bool (fits z)))]=_;rw[h];rfl
theorem VI{z:Int}(h:fits z=false):wf z = .cd [ob 0,.one (.c (.bool false))]:=by
 show ag.cd [ob (if fits z then z else 0),.one (.c (.bool (fits z)))]=_;rw[h];rfl
theorem QD(a b:Int):fj a b<0↔a<b:=by unfold fj;split <;> (try split) <;> omega
theorem SZ{n d:Int}(f:fits n=true)(g:fits d=true)(hd:0<d):aO ah 304 [gA n,gA d] (gA (oG n d)):=by
 obtain⟨fC,gy⟩:=RZ f hd g;have o0:=kI.1 f;have lG:=kI.1 g;have ho:=po n (show d≠0 by omega);have cr:=oO n hd;have uJ:fits (n % d)=true:=kI.2 (by omega);have bc:=SG f g hd;have bP:=Ta g uJ;have ec:=aij uJ fC;rw[xD fC] at bP;unfold oG
 by_cases h:n % d<d-n % d
 ·have ar:fj (n % d) (d-n % d)<0:=(QD ..).2 h;have nf:oG n d=n/d:=by unfold oG;first|rw[if_pos h]|(split <;> omega)
  unfold oG at nf;rw[nf];generalize fj (n % d) (d-n % d)=c at *;generalize n/d=q at *;generalize n % d=r at *;clear nf fC gy o0 lG ho cr uJ f g;refine bq (f:=304) Tryz.func304 rfl rfl rfl rfl ?_;(refine cQ ?_)
  ((refine bm rfl (c8 rfl rfl rfl aM) ?_))
  exact ag.aV.refl _
 ·have ar:¬fj (n % d) (d-n % d)<0:=fun aY=>h ((QD ..).1 aY);have nf:oG n d=n/d+1:=by unfold oG;first|rw[if_neg h]|(split <;> omega)
  unfold oG at nf;rw[nf];have f5:=gy (by omega)
  have OS:fits (n/d)=true:=by
   have q1:=rc n d;have bX:=kI.1 f5;refine kI.2 ?_
   by_cases aA:0≤n
   ·have:=oP aA (show 0≤d by omega);omega
   ·have fh:n*d≤n*1:=Int.mul_le_mul_of_nonpos_left (show n≤0 by omega) (show 1≤d by omega);have:=(pq (a:=n) (b:=n) hd).2 (by omega);omega
  have jN:=vk (n:=1) (by decide) (by decide);have oV:=aii OS (show fits 1=true by decide);rw[xD f5] at oV;generalize fj (n % d) (d-n % d)=c at *;generalize n/d=q at *;generalize n % d=r at *;clear nf fC gy o0 lG ho cr uJ f g OS f5;refine bq (f:=304) Tryz.func304 rfl rfl rfl rfl ?_;(refine cQ ?_)
  ((refine bm rfl (c8 rfl rfl rfl aM) ?_))
  exact ag.aV.refl _
abbrev Ep(n d:Int):bD := .agg [.c (.int .i64 (cw n)),.c (.int .u64 (dO n)),.c (.int .i64 (cw d)),.c (.int .u64 (dO d))]
abbrev fv(n d:Int):ag := .w (Ep n d)
abbrev fx(n d:Int):Value := .agg #[.int .i64 (cw n),.int .u64 (dO n),.int .i64 (cw d),.int .u64 (dO d)]
abbrev ug(n:Int):Value := .agg #[.int .i64 (cw n),.int .u64 (dO n)]
theorem QC(d:Int):(d<0→fj d 0 = -1)∧(d=0→fj d 0=0)∧(0<d→fj d 0=1):=by unfold fj;refine⟨fun h => ?_,fun h => ?_,fun h => ?_⟩ <;> split <;> (try split) <;> omega
section
set_option maxRecDepth 100000
set_option maxHeartbeats 4000000
theorem SM{k:Int}(aF : -9223372036854775808≤k)(h1:k<9223372036854775808):aO ah 244 [aL k] (fv k 1):=by
 have bc:=vk aF h1;have bP:=vk (n:=1) (by decide) (by decide);clear aF h1;refine bq (f:=244) Tryz.func244 rfl rfl rfl rfl ?_;(refine cQ ?_)
 ((refine bm rfl (c8 rfl rfl rfl aM) ?_))
 exact ag.aV.refl _
theorem ahb{n d:Int}(f:fits n=true)(g:fits d=true)(hd:0<d):aO ah 247 [gA n,gA d] (.cd [Ep n d,.one (.c (.bool true))]):=by
 have bc:=Ge g;rw[(QC d).2.2 hd] at bc;clear f g hd;refine bq (f:=247) Tryz.func247 rfl rfl rfl rfl ?_;(refine cQ ?_)
 ((refine bm rfl (c8 rfl rfl rfl (aZ rfl aM)) ?_))
 exact ag.aV.refl _
theorem aha{n d:Int}(f:fits n=true)(g:fits d=true)(hd:d<0){s:Bool}{x y:Int}(hs:(fits (-n)&&fits (-d))=s)(ab:x=if s then -n else 0)(ai:y=if s then -d else 0):aO ah 247 [gA n,gA d] (.cd [Ep x y,.one (.c (.bool s))]):=by
 have bc:=Ge g;rw[(QC d).1 hd] at bc;have bP:=S9 f;have ec:=S9 g;subst hs;clear f g hd;cases h1:fits (-n) with
 | true =>
  rw[h1] at ab ai;cases h2:fits (-d) with
  | true =>
   rw[h2] at ab ai;rw[xD h1] at bP;rw[xD h2] at ec;obtain rfl:x = -n:=ab;obtain rfl:y = -d:=ai;clear h1 h2;refine bq (f:=247) Tryz.func247 rfl rfl rfl rfl ?_;(refine cQ ?_)
   ((refine bm rfl (c8 rfl rfl rfl (aZ rfl aM)) ?_))
   exact ag.aV.refl _
  | false =>
   rw[h2] at ab ai;rw[xD h1] at bP;rw[VI h2] at ec;obtain rfl:x=0:=ab;obtain rfl:y=0:=ai;clear h1 h2;refine bq (f:=247) Tryz.func247 rfl rfl rfl rfl ?_;(refine cQ ?_)
   ((refine bm rfl (c8 rfl rfl rfl (aZ rfl aM)) ?_))
   exact ag.aV.refl _
 | false =>
  rw[h1] at ab ai;rw[VI h1] at bP;obtain rfl:x=0:=ab;obtain rfl:y=0:=ai;obtain⟨z,b,e⟩:∃z b,wf (-d) = .cd [ob z,.one (.c (.bool b))]:=⟨_,_,rfl⟩;rw[e] at ec;clear h1 e;refine bq (f:=247) Tryz.func247 rfl rfl rfl rfl ?_;(refine cQ ?_)
  ((refine bm rfl (c8 rfl rfl rfl (aZ rfl aM)) ?_))
  exact ag.aV.refl _
theorem SI{n d:Int}(g:fits d=true):aO ah 303 [fv n d] (bl (decide (0<d))):=by
 have bc:=Ge g;rw[←adQ d];generalize fj d 0=c at *;clear g;refine bq (f:=303) Tryz.func303 rfl rfl rfl rfl ?_;(refine cQ ?_)
 ((refine bm rfl (aZ rfl aM) ?_))
 exact ag.aV.refl _
theorem ag4{n d:Int}(f:fits n=true)(g:fits d=true)(hd:0<d):aO ah 306 [fv n d] (gA (n/d)):=by
 have bc:=SG f g hd;clear f g hd;refine bq (f:=306) Tryz.func306 rfl rfl rfl rfl ?_;(refine cQ ?_)
 ((refine bm rfl (c8 rfl rfl rfl aM) ?_))
 exact ag.aV.refl _
theorem IA{n d:Int}(f:fits n=true)(hd:0<d):fits (n/d)=true:=by
 have o0:=kI.1 f;refine kI.2 ?_
 by_cases aA:0≤n
 ·have:=oP aA (show 0≤d by omega);have:=Int.ediv_le_self d aA;omega
 ·have fh:n*d≤n*1:=Int.mul_le_mul_of_nonpos_left (show n≤0 by omega) (show 1≤d by omega);have:=(pq (a:=n) (b:=n) hd).2 (by omega);have:=Int.ediv_lt_of_lt_mul (a:=n) (b:=0) hd (by omega);omega
theorem OO{n d:Int}(aA:fits n=true)(hd:0<d)(A6:fits d=true):fits (oG n d)=true:=by
 unfold oG
 split
 ·exact IA aA hd
 ·exact(RZ aA hd A6).2 (by omega)
theorem aan{n d:Int}{k:Nat}(aA:fits n=true)(hd:0<d)(A6:fits d=true)(ae:k≤100):fits (mV n d k)=true:=by
 unfold mV
 split
 ·exact OO aA hd A6
 ·exact OO (IA aA hd) (jj (by decide)) (Tk ae)
theorem ahO{n d:Int}{k:Nat}(f:fits n=true)(g:fits d=true)(hd:0<d)(ae:k≤100):aO ah 274 [fv n d,aL k] (.cd [ob (mV n d k),.one (.c (.bool true))]):=by
 have bc:=SI (n:=n) g;rw[ca hd] at bc;unfold mV
 by_cases aF:k=0
 ·subst aF;have bP:=SZ f g hd;rw[if_pos rfl];clear f g hd;refine bq (f:=274) Tryz.func274 rfl rfl rfl rfl ?_;(refine cQ ?_)
  ((refine bm rfl (c8 rfl rfl rfl (aZ rfl aM)) ?_))
  exact ag.aV.refl _
 ·rw[if_neg aF];have hp:=Tk ae;have bP:=vk (n:=1) (by decide) (by decide);have ec:=aik (n:=1) (k:=(k:Int)) (by decide) (by omega) (by omega);rw[Int.one_mul,kz,xD hp] at ec;have jN:=ag4 f g hd;have oV:=SZ (IA f hd) hp (jj (by decide));have h1:¬(k:Int)=0:=by omega
  have h2:¬(k:Int)<0:=by omega
  have ar:¬(k:Int)>100:=by omega
  clear f g hd hp;refine bq (f:=274) Tryz.func274 rfl rfl rfl rfl ?_;(refine cQ ?_)
  ((refine bm rfl (c8 rfl rfl rfl (aZ rfl aM)) ?_))
  exact ag.aV.refl _
theorem ahP{n d k:Int}(f:fits n=true)(g:fits d=true)(ll:¬(0<d)∨(k<0∨100<k)):aO ah 274 [fv n d,aL k] (.cd [.agg [.c (.int .i64 0),.c (.int .u64 0)],.one (.c (.bool false))]):=by
 have bc:=SI (n:=n) g
 by_cases hd:0<d
 ·rw[ca hd] at bc;have h1:k<0∨(¬k<0∧k>100):=by omega
  clear f g ll hd;rcases h1 with h1|⟨h1,h2⟩
  ·refine bq (f:=274) Tryz.func274 rfl rfl rfl rfl ?_;(repeat first|refine db ?_|refine fA ?_|(with_reducible apply bT (c:=true));rfl;rfl;(exact ca (by omega)))
   ((refine bm rfl (c8 rfl rfl rfl (aZ rfl aM)) ?_))
   exact ag.aV.refl _
  ·refine bq (f:=274) Tryz.func274 rfl rfl rfl rfl ?_;(repeat first|refine db ?_|refine fA ?_|(with_reducible apply bT (c:=false));rfl;rfl;(exact cm (by omega)))
   ((refine bm rfl (c8 rfl rfl rfl (aZ rfl aM)) ?_))
   exact ag.aV.refl _
 ·rw[cm hd] at bc;clear f g ll hd;refine bq (f:=274) Tryz.func274 rfl rfl rfl rfl ?_;(refine cQ ?_)
  ((refine bm rfl (c8 rfl rfl rfl (aZ rfl aM)) ?_))
  exact ag.aV.refl _
end
theorem RY{n d:Int}(hd:0<d):oG n d=(n+n+d)/(d*2):=by
 have h1:=rc n d;have h2:=po n (show d≠0 by omega);have ar:=oO n hd;unfold oG;generalize n/d=q at *;generalize n % d=r at *;have e:n+n+d=(r+r+d)+q*(d*2):=by rw[←h1,kV q (d*2),kW,Int.mul_left_comm d 2 q];omega
 rw[e,Int.add_mul_ediv_right _ _ (by omega)]
 split
 ·rw[Int.ediv_eq_zero_of_lt (by omega) (by omega)];omega
 ·have:(r+r+d)/(d*2)=1:=by
   rw[show r+r+d=(r+r-d)+1*(d*2) by omega,Int.add_mul_ediv_right _ _ (by omega),Int.ediv_eq_zero_of_lt (by omega) (by omega)];omega
  rw[this];omega
theorem akw{n d:Int}(k:Nat)(hd:0<d):(n+n+d*2^k)/(d*2^(k+1))=mV n d k:=by
 unfold mV;rcases k with _|k
 ·rw[if_pos rfl,RY hd];simp
 ·rw[if_neg (by omega),RY (jj (by decide))];have hp:(0:Int)<2^k:=jj (by decide);rw[Int.pow_succ 2 (k+1),Int.pow_succ 2 k];generalize (2:Int)^k=Q at *
  have aI:(n+n+d*(Q*2))/(d*(Q*2*2))=(n+d*Q)/(d*(Q*2)):=by
   rw[show n+n+d*(Q*2)=2*(n+d*Q) by rw[kV Q 2,Int.mul_left_comm];omega,show d*(Q*2*2)=2*(d*(Q*2)) by rw[kV (Q*2) 2,Int.mul_left_comm],Int.mul_ediv_mul_of_pos _ _ (by decide)]
  have aN:(n/d+n/d+Q*2)/(Q*2*2)=(n/d+Q)/(Q*2):=by
   rw[show n/d+n/d+Q*2=2*(n/d+Q) by omega,kV (Q*2) 2,Int.mul_ediv_mul_of_pos _ _ (by decide)]
  rw[aI,aN,←y4 (by omega),kV d Q,Int.add_mul_ediv_right _ _ (by omega)]
def gY(k:Int)(r:Nat):Prop:=r≤28∧((k<0∧r=0)∨(28<k∧r=28)∨(r:Int)=k)
theorem ad5(k:Int):∃r,gY k r:=by
 by_cases h:k<0
 ·exact⟨0,by omega,.inl ⟨h,rfl⟩⟩
 ·by_cases aJ:28<k
  ·exact⟨28,by omega,.inr (.inl ⟨aJ,rfl⟩)⟩
  ·exact⟨k.toNat,by omega,.inr (.inr (by omega))⟩
theorem xp{a b:Int}{w w':World}(e:a=b)(h:Below w.heap.size w w'):mu (.int .i64 b) w (.returned (.int .i64 a)) w':=⟨by rw[e],h⟩
theorem zd{a b:Bool}{w w':World}(e:a=b)(h:Below w.heap.size w w'):mu (.bool b) w (.returned (.bool a)) w':=⟨by rw[e],h⟩
theorem B6(k:Int)(r:Nat)(w:World)(h:gY k r):Calls ah 165 #[.int .i64 k] w (mu (.int .i64 r) w):=by
 have qx:=Lib.hid h;clear h
 go_enter Tryz.func165,Tryz.ntmps165
 go_wp2
 all_goals
  go_ret
  refine xp ?_ (Below.refl _ _);have h1:=qx.out;unfold gY at h1;omega
theorem VP(n:Int)(h : -9223372036854775808≤n∧n≤9223372036854775807):wrap64 n=n:=by unfold wrap64;omega
theorem Lc{r:Nat}(h:r≤28):(1:Int)≤2^r∧(2:Int)^r≤268435456:=by
 have h1:=Nat.pow_le_pow_right (show 0<2 by decide) h;have h2:=Nat.pow_pos (show 0<2 by decide) (n:=r);have e:((2:Int)^r)=((2^r:Nat):Int):=by simp
 rw[show (2:Nat)^28=268435456 by decide] at h1;rw[e];omega
def b7(v:Int)(r:Nat):Int:=(2*v+2^r)/(2*2^r)
theorem aa6(v:Int):b7 v 0=v:=by unfold b7;omega
theorem aa5(v:Int)(r:Nat):b7 v (r+1)=v/2^(r+1)+v/2^r % 2:=by
 unfold b7;have hp:(0:Int)<2^r:=jj (by decide);rw[Int.pow_succ];generalize (2:Int)^r=P at *
 have aI:(2*v+P*2)/(2*(P*2))=(v+P)/(P*2):=by
  rw[show 2*v+P*2=2*(v+P) by omega,Int.mul_ediv_mul_of_pos _ _ (by decide)]
 rw[aI,←y4 (by omega),←y4 (by omega),show v+P=v+1*P by omega,Int.add_mul_ediv_right _ _ (by omega)];omega
theorem YB(x:Int):bits BinOp.and IntKind.i64 x 1=x % 2:=by
 unfold bits
 have h:(BitVec.ofInt 64 x &&& BitVec.ofInt 64 1).toNat=(x % 2).toNat:=by
  rw[BitVec.toNat_and,BitVec.toNat_ofInt,BitVec.toNat_ofInt,show ((1:Int) % ((2^64:Nat):Int)).toNat=1 by decide,Nat.and_one_is_mod];omega
 show IntKind.i64.wrap ((BitVec.ofInt 64 x &&& BitVec.ofInt 64 1).toNat:Int)=x % 2;rw[h];have h2:((x % 2).toNat:Int)=x % 2:=by omega
 rw[h2];rcases (show x % 2=0∨x % 2=1 by omega) with e|e <;> rw[e] <;> decide
theorem akx{v:Int}(r:Nat)(v0 : -9223372036854775808≤v)(v1:v<9223372036854775808):wrap64 (v/2^(r+1)+v/2^r % 2)=b7 v (r+1):=by
 rw[aa5];refine VP _ ?_;have hp:(0:Int)<2^r:=jj (by decide);rw[Int.pow_succ,←y4 (by omega)]
 have h1 : -9223372036854775808≤v/2^r:=by
  rw[pq hp];have:=sB (show (1:Int)≤2^r by omega) (show (0:Int)≤9223372036854775808 by omega);omega
 have h2:v/2^r≤9223372036854775807:=by
  by_cases h:0≤v
  ·have:=Int.ediv_le_self (2^r) h;omega
  ·have:=Int.ediv_neg_of_neg_of_pos (show v<0 by omega) hp;omega
 generalize v/2^r=q at *;omega
theorem aaJ(v k:Int)(w:World)(h:gY k 0):Calls ah 106 #[.int .i64 v,.int .i64 k] w (mu (.int .i64 v) w):=by
 have qx:=Lib.hid (fun w=>B6 k 0 w h);clear h
 go_enter Tryz.func106,Tryz.ntmps106
 go_wp2_with (go_at_call 165;((with_reducible refine(qx.out _).mono ?_);rintro e w1 ⟨rfl,aa⟩))
 go_ret
 exact xp rfl (by(repeat first|with_reducible assumption))
theorem aaI(v k:Int)(r:Nat)(w:World)(h:gY k (r+1))(v0 : -9223372036854775808≤v)(v1:v<9223372036854775808):Calls ah 106 #[.int .i64 v,.int .i64 k] w (mu (.int .i64 (b7 v (r+1))) w):=by
 have qx:=Lib.hid (fun w=>B6 k (r+1) w h);have De:=Lib.hid (akx r v0 v1);have ao:r<28:=by unfold gY at h;omega
 clear h v0 v1
 go_enter Tryz.func106,Tryz.ntmps106
 go_wp2_with (go_at_call 165;((with_reducible refine(qx.out _).mono ?_);rintro e w1 ⟨rfl,aa⟩))
 go_region
 go_wp2
 go_ret
 exact xp (by rw[YB];exact De.out) (by(repeat first|with_reducible assumption|with_reducible refine Below.drew ?_))
theorem aaH(v k:Int)(r:Nat)(w:World)(h:gY k r)(v0 : -9223372036854775808≤v)(v1:v<9223372036854775808):Calls ah 106 #[.int .i64 v,.int .i64 k] w (mu (.int .i64 (b7 v r)) w):=by
 rcases r with _|r
 ·rw[aa6];exact aaJ v k w h
 ·exact aaI v k r w h v0 v1
theorem alv{r:Nat}(h:r≤28):wrap64 (2^r)=2^r:=VP _ (by have:=Lc h;omega)
theorem akj(k:Int)(r:Nat)(w:World)(h:gY k r):Calls ah 252 #[.int .i64 k] w (mu (.int .i64 (2^r)) w):=by
 have qx:=Lib.hid (fun w=>B6 k r w h);have ao:r≤28:=h.1;clear h
 go_enter Tryz.func252,Tryz.ntmps252
 go_wp2_with (go_at_call 165;((with_reducible refine(qx.out _).mono ?_);rintro e w1 ⟨rfl,aa⟩))
 go_ret
 exact xp (alv ao) (by(repeat first|with_reducible assumption))
def W3(m:Int)(w:World)(e:Ending)(w':World):Prop:=∃b,e = .returned (.func (Fn.func 253) #[] #[.pointer (some ⟨b,0,none⟩)])∧w'.cell? ⟨b,0,none⟩=some (.int .i64 m)∧Below w.heap.size w w'
theorem Sb(k:Int)(r:Nat)(w:World)(h:gY k r):Calls ah 202 #[.int .i64 k] w (W3 (134217728/2^r) w):=by
 have qx:=Lib.hid (fun w=>B6 k r w h);have ao:r≤28:=h.1;clear h
 go_enter Tryz.func202,Tryz.ntmps202
 go_wp2_with (go_at_call 165;((with_reducible refine(qx.out _).mono ?_);rintro e w1 ⟨rfl,aa⟩))
 go_ret
 exact⟨_,rfl,by go_simp,by(repeat first|with_reducible assumption|with_reducible refine e3 ?_ _)⟩
def wi(m n:Int):Bool:=decide (-m≤n)&&decide (n≤m)
theorem FT(b:Nat)(m n:Int)(w:World)(ak:w.cell? ⟨b,0,none⟩=some (.int .i64 m))(m0:0≤m)(m1:m≤134217728):Calls ah 253 #[.int .i64 n,.pointer (some ⟨b,0,none⟩)] w (mu (.bool (wi m n)) w):=by
 go_enter Tryz.func253,Tryz.ntmps253
 go_wp2
 ·go_ret
  exact zd (by unfold wi;rw[ca (show -m≤n by assumption)];rfl) (Below.refl _ _)
 ·go_ret
  exact zd (by unfold wi;rw[cm (show ¬(-m≤n) by omega)];rfl) (Below.refl _ _)
def dU(r:Nat)(x y:Int):Bool:=wi (134217728/2^r) x&&wi (134217728/2^r) y
theorem Eo(r:Nat):(0:Int)≤134217728/2^r∧(134217728:Int)/2^r≤134217728:=by
 have hp:(0:Int)<2^r:=jj (by decide);exact⟨oP (by decide) (by omega),Int.ediv_le_self _ (by decide)⟩
theorem VK(r:Nat)(n:Int):wi (134217728/2^r) n=decide (-134217728≤2^r*n∧2^r*n≤134217728):=by
 have hp:(0:Int)<2^r:=jj (by decide);unfold wi;rw[oN,eb,cS,cS,cS,kV];generalize (2:Int)^r=P at *;have h1:=pq (a:=n) (b:=134217728) hp;have h2:=pq (a := -n) (b:=134217728) hp;rw[Int.neg_mul] at h2
 constructor
 ·intro ⟨q1,q2⟩;exact⟨by have:=h2.1 (by omega);omega,h1.1 q2⟩
 ·intro ⟨q1,q2⟩;exact⟨by have:=h2.2 (by omega);omega,h1.2 q2⟩
theorem Fs(r:Nat)(x y:Int):dU r x y=true↔(-134217728≤2^r*x∧2^r*x≤134217728)∧(-134217728≤2^r*y∧2^r*y≤134217728):=by
 unfold dU;rw[VK,VK,eb,cS,cS]
theorem WH(x y k:Int)(r:Nat)(w:World)(h:gY k r):Calls ah 145 #[.agg #[.int .i64 x,.int .i64 y],.int .i64 k] w (mu (.bool (dU r x y)) w):=by
 have qx:=Lib.hid (fun w=>Sb k r w h);obtain⟨m0,m1⟩:=Eo r;have MC:=Lib.hid (show dU r x y=(wi (134217728/2^r) x&&wi (134217728/2^r) y) from rfl);clear h;generalize (134217728:Int)/2^r=M at *;have zK:=Lib.hid m0;have zL:=Lib.hid m1;clear m0 m1
 go_enter Tryz.func145,Tryz.ntmps145
 go_wp2_with (first
  | (go_at_call 202;((with_reducible refine(qx.out _).mono ?_);rintro e w1 ⟨b,rfl,ak,aa⟩;have V2:eY w1 (w.heap.size) (.int .i64 x) (.int .i64 y):=(by(repeat first|focus ((with_reducible refine eY.new ?_);simp;done)|with_reducible refine eY.call ?_ aa));obtain⟨⟨alZ,al7⟩,amj,amn⟩:=id V2))
  | (go_at_call 253;((with_reducible refine(FT b M x _ ak zK.out zL.out).mono ?_);rintro e w2 ⟨rfl,l5⟩;have hA:=(l5.cell (p:=⟨b,0,none⟩) (World.block_lt_of_cell? _ _ ak)).trans ak;clear ak;have V3:eY w2 (w.heap.size) (.int .i64 x) (.int .i64 y):=(by(repeat first|with_reducible assumption|with_reducible refine eY.call ?_ l5));obtain⟨⟨al0,al8⟩,amk,amo⟩:=id V3))
  | (go_at_call 253;((with_reducible refine(FT b M y _ hA zK.out zL.out).mono ?_);rintro e w3 ⟨rfl,Jd⟩)))
 ·go_ret
  exact zd (by rw[MC.out];simp_all) (by(repeat first|with_reducible exact Below.refl _ _|with_reducible refine e3 ?_ _|with_reducible refine gZ ?_ Jd|with_reducible refine gZ ?_ l5|with_reducible refine gZ ?_ aa))
 ·go_ret
  exact zd (by rw[MC.out];simp_all) (by(repeat first|with_reducible exact Below.refl _ _|with_reducible refine e3 ?_ _|with_reducible refine gZ ?_ l5|with_reducible refine gZ ?_ aa))
theorem aaG(k:Int)(w:World):Calls ah 80 #[.int .i64 k] w (mu (.bool (decide (0≤k)&&decide (k≤28))) w):=by
 go_enter Tryz.func80,Tryz.ntmps80
 go_wp2
 ·go_ret
  exact zd (by rw[ca (show 0≤k by assumption)];rfl) (Below.refl _ _)
 ·go_ret
  exact zd (by rw[cm (show ¬(0≤k) by omega)];rfl) (Below.refl _ _)
theorem Hb(n m:Int)(w:World):Calls ah 319 #[.int .i64 n,.int .i64 m] w (mu (.int .i64 (fj n m)) w):=by
 go_enter Tryz.func319,Tryz.ntmps319
 go_wp2
 all_goals
  go_ret
  refine xp ?_ (Below.refl _ _);unfold fj
  repeat' split
  all_goals omega
def nC(x y x' y':Int):Int:=if x=x' then fj y y' else fj x x'
theorem aaw(x y x' y':Int)(w:World):Calls ah 295 #[.agg #[.int .i64 x,.int .i64 y],.agg #[.int .i64 x',.int .i64 y']] w (mu (.int .i64 (nC x y x' y')) w):=by
 have bc:=Lib.hid (fun w=>Hb x x' w);have bP:=Lib.hid (fun w=>Hb y y' w);have mv:Hid (x=x'→fj y y'=nC x y x' y'):=fun h=>by unfold nC;rw[if_pos h]
 have mw:Hid (¬(x=x')→fj x x'=nC x y x' y'):=fun h=>by unfold nC;rw[if_neg h]
 go_enter Tryz.func295,Tryz.ntmps295
 go_wp2_with (first
  | (go_at_call 319;((with_reducible refine(bc.out _).mono ?_);rintro e w1 ⟨rfl,aa⟩))
  | (go_at_call 319;((with_reducible refine(bP.out _).mono ?_);rintro e w1 ⟨rfl,aa⟩)))
 ·go_ret
  exact xp (mw.out (by simpa using ‹(x != x')=true›)) (by(repeat first|with_reducible exact Below.refl _ _|with_reducible refine e3 ?_ _|with_reducible refine gZ ?_ aa))
 ·go_ret
  exact xp (mv.out (by simpa using ‹(x != x')=false›)) (by(repeat first|with_reducible exact Below.refl _ _|with_reducible refine e3 ?_ _|with_reducible refine gZ ?_ aa))
end Go.Proofs.YtklpfooafbjnpaaGreat
namespace Go.Proofs.YtklpfooafbjnpaaGreat
open Go.RowKit
attribute [local go_sem ↓] Go.wp_at_zero Go.wp_at_succ
end Go.Proofs.YtklpfooafbjnpaaGreat
namespace Go.Proofs.YtklpfooafbjnpaaGreat
open Go.RowKit
attribute [local go_sem ↓] Go.wp_at_zero Go.wp_at_succ
def MP(s:Bool)(z:Int)(w:World)(e:Ending)(w':World):Prop:=∃H L,e = .returned (.tuple #[.agg #[.int .i64 H,.int .u64 L],.bool s])∧c5 H L z∧Below w.heap.size w w'
def Dq(v:Int)(b:Bool)(w:World)(e:Ending)(w':World):Prop:=e = .returned (.tuple #[.int .i64 v,.bool b])∧Below w.heap.size w w'
def Xi(w:World)(s:Bool)(z:Int)(u v:Value)(W:World):Prop:=∃g tg lG,u = .pointer (some ⟨g,0,none⟩)∧v = .bool s∧c5 tg lG z∧eY W g (.int .i64 tg) (.int .u64 lG)∧Below w.heap.size w W
theorem LR(aX sc aJ hg k:Int)(r:Nat)(s:Bool)(z v:Int)(b:Bool)(w:World)(h:gY k r)
  (MB:∀w,Calls ah 274 #[.agg #[.int .i64 aX,.int .u64 sc,.int .i64 aJ,.int .u64 hg],.int .i64 r] w (MP s z w))
  (hv:(s=false∧v=0∧b=false)∨(s=true∧small z=false∧v=0∧b=false)∨(s=true∧small z=true∧wi (134217728/2^r) z=false∧v=0∧b=false)∨(s=true∧small z=true∧wi (134217728/2^r) z=true∧v=z∧b=true)) :
  Calls ah 239 #[.agg #[.int .i64 aX,.int .u64 sc,.int .i64 aJ,.int .u64 hg],.int .i64 k] w (Dq v b w):=by
 have MA:=Lib.hid (fun w=>B6 k r w h);have He:=Lib.hid (fun w=>Sb k r w h);have De:=Lib.hid MB;obtain⟨m0,m1⟩:=Eo r;clear h MB;generalize (134217728:Int)/2^r=M at *;have zK:=Lib.hid m0;have zL:=Lib.hid m1;have sR:=Lib.hid hv;clear m0 m1 hv
 go_enter Tryz.func239,Tryz.ntmps239
 go_upto_region 1 with fail
 have fH:ib (w.alloc (.cells #[.int .i64 aX,.int .u64 sc,.int .i64 aJ,.int .u64 hg] 182)) w.heap.size (.int .i64 aX) (.int .u64 sc) (.int .i64 aJ) (.int .u64 hg):=(by(repeat first|focus ((with_reducible refine ib.new ?_);simp;done)));have HX:Below w.heap.size w (w.alloc (.cells #[.int .i64 aX,.int .u64 sc,.int .i64 aJ,.int .u64 hg] 182)):=(by(repeat first|with_reducible exact Below.refl _ _|with_reducible refine e3 ?_ _))
 go_cut [6,7] (fun u v ug=>Xi w s z u v ug)
 case first =>
  clear sR He
  go_region_held3 (fun w'=>w'.cell? ⟨w.heap.size,0,none⟩=some (.int .i64 aX)∧w'.cell? ⟨w.heap.size,1,none⟩=some (.int .u64 sc)∧w'.cell? ⟨w.heap.size,2,none⟩=some (.int .i64 aJ)∧w'.cell? ⟨w.heap.size,3,none⟩=some (.int .u64 hg))
   (((refine ib.cs ?_);((repeat first|with_reducible assumption|with_reducible refine ib.alloc ?_ _|with_reducible refine ib.drew ?_|focus ((with_reducible refine ib.set ?_ _ ?_);rotate_left;omega)|with_reducible refine ib.call ?_ l5|with_reducible refine ib.call ?_ mH);done)))
   (first
    | (go_at_call 165;((with_reducible refine(MA.out _).mono ?_);rintro e w1 ⟨rfl,mH⟩;have adJ:=Below.size mH;(try simp at adJ)))
    | (go_at_call 274;((with_reducible refine(De.out _).mono ?_);rintro e w2 ⟨alg,alh,rfl,hu,l5⟩;have Ka:=Below.size l5;(try simp at Ka);(try ((refine Ob (p:=eY w2 (w.heap.size+1) (.int .i64 0) (.int .u64 0)) ?_ ?_);(repeat first|focus ((with_reducible refine eY.new ?_);simp;done)|with_reducible refine eY.alloc ?_ _|with_reducible refine eY.drew ?_|with_reducible refine eY.call ?_ l5|with_reducible refine eY.call ?_ mH);intro C4;obtain⟨⟨al1,al9⟩,aml,amp⟩:=id C4;have ank:=eY.lt C4;have ans:=Nat.ne_of_gt (eY.lt C4);have anq:=Nat.ne_of_lt (eY.lt C4)));(try ((refine Ob (p:=eY w2 (w1.heap.size) (.int .i64 0) (.int .u64 0)) ?_ ?_);(repeat first|focus ((with_reducible refine eY.new ?_);simp;done)|with_reducible refine eY.alloc ?_ _|with_reducible refine eY.drew ?_|with_reducible refine eY.call ?_ l5|with_reducible refine eY.call ?_ mH);intro C5;obtain⟨⟨al2,ama⟩,amm,amq⟩:=id C5;have anl:=eY.lt C5;have ant:=Nat.ne_of_gt (eY.lt C5);have anr:=Nat.ne_of_lt (eY.lt C5))))))
  all_goals
   go_wp2_with fail
   go_meet
   refine⟨_,alg,alh,rfl,rfl,hu,?_,?_⟩
   ·(repeat first|focus ((with_reducible refine eY.new ?_);simp;done)|with_reducible refine eY.put ?_|focus ((with_reducible apply xI.of);with_reducible assumption))
   ·(repeat first|with_reducible assumption|with_reducible refine e3 ?_ _|focus ((with_reducible refine pJ ?_ _ _ _ ?_);rotate_left;omega)|with_reducible refine Below.drew ?_|with_reducible refine gZ ?_ l5|with_reducible refine gZ ?_ mH)
 case rest =>
  obtain⟨g,tg,lG,rfl,rfl,au,ev,dj⟩:=hcut;clear fH HX De MA;obtain⟨⟨qs,da⟩,de,k2⟩:=id ev;rcases sR.out with ⟨rfl,rfl,rfl⟩|⟨rfl,q,rfl,rfl⟩|⟨rfl,q,cG,rfl,rfl⟩|⟨rfl,q,cG,rfl,rfl⟩
  ·clear sR
   go_wp2
   go_ret2
   exact⟨rfl,by(repeat first|with_reducible assumption)⟩
  ·have zH:Hid (∀w,Calls ah 275 #[.agg #[.int .i64 tg,.int .u64 lG]] w (Dq 0 false w)):=fun w=>(Hy tg lG z w au).mono fun e w' k=>by unfold xP at k;rw[q] at k;exact k
   clear sR q
   go_wp2_with (first
    | (go_at_call 275;((with_reducible refine(zH.out _).mono ?_);rintro e zq ⟨rfl,wz⟩)))
   go_ret2
   exact⟨rfl,by(repeat first|with_reducible assumption|with_reducible refine gZ ?_ wz)⟩
  ·have zH:Hid (∀w,Calls ah 275 #[.agg #[.int .i64 tg,.int .u64 lG]] w (Dq z true w)):=fun w=>(Hy tg lG z w au).mono fun e w' k=>by unfold xP at k;rw[q] at k;exact k
   have Hd:Hid (∀b w,w.cell? ⟨b,0,none⟩=some (.int .i64 M)→Calls ah 253 #[.int .i64 z,.pointer (some ⟨b,0,none⟩)] w (mu (.bool false) w)):=fun b w ak=>by have:=FT b M z w ak zK.out zL.out;rw[cG] at this;exact this
   clear sR q cG
   go_wp2_with (first
    | (go_at_call 275;((with_reducible refine(zH.out _).mono ?_);rintro e zq ⟨rfl,wz⟩))
    | (go_at_call 202;((with_reducible refine(He.out _).mono ?_);rintro e Mf ⟨b,rfl,ak,Je⟩))
    | (go_at_call 253;((with_reducible refine(Hd.out _ _ ak).mono ?_);rintro e Mg ⟨rfl,Jf⟩)))
   go_ret2
   exact⟨rfl,by(repeat first|with_reducible assumption|with_reducible refine gZ ?_ Jf|with_reducible refine gZ ?_ Je|with_reducible refine gZ ?_ wz)⟩
  ·have zH:Hid (∀w,Calls ah 275 #[.agg #[.int .i64 tg,.int .u64 lG]] w (Dq v true w)):=fun w=>(Hy tg lG v w au).mono fun e w' k=>by unfold xP at k;rw[q] at k;exact k
   have Hd:Hid (∀b w,w.cell? ⟨b,0,none⟩=some (.int .i64 M)→Calls ah 253 #[.int .i64 v,.pointer (some ⟨b,0,none⟩)] w (mu (.bool true) w)):=fun b w ak=>by have:=FT b M v w ak zK.out zL.out;rw[cG] at this;exact this
   clear sR q cG
   go_wp2_with (first
    | (go_at_call 275;((with_reducible refine(zH.out _).mono ?_);rintro e zq ⟨rfl,wz⟩))
    | (go_at_call 202;((with_reducible refine(He.out _).mono ?_);rintro e Mf ⟨b,rfl,ak,Je⟩))
    | (go_at_call 253;((with_reducible refine(Hd.out _ _ ak).mono ?_);rintro e Mg ⟨rfl,Jf⟩)))
   go_ret2
   exact⟨rfl,by(repeat first|with_reducible assumption|with_reducible refine gZ ?_ Jf|with_reducible refine gZ ?_ Je|with_reducible refine gZ ?_ wz)⟩
theorem alu{r:Nat}{z:Int}(h:wi (134217728/2^r) z=true):small z=true:=by
 obtain⟨m0,m1⟩:=Eo r;unfold wi at h;rw[eb,cS,cS] at h;unfold small;rw[cS];omega
end Go.Proofs.YtklpfooafbjnpaaGreat
namespace Go.Proofs.YtklpfooafbjnpaaGreat
open Go.RowKit
section
variable{U:Nat→Prop}{ad:Nat→Nat}{W:World}
theorem Ub:∀(xs:List AC) (r vs:List Value),uH xs=some r→bQ U ad W xs vs→vs=r
 | [],r,vs,h,hv=>by cases h;exact mR hv.1.symm
 | .c v::xs,r,vs,h,hv=>by
  simp only[uH] at h
  split at h
  ·rename_i bd ao;cases h
   match vs,hv with
   | [],hv=>exact absurd hv.1 (by simp)
   | u::vs,hv =>
    have aF:=(hv.2 0 _ u rfl rfl).1;have ck:=Ub xs bd vs ao ⟨by have:=hv.1;simp at this;exact this,fun i x w ab hw=>hv.2 (i+1) x w (by simpa using ab) (by simpa using hw)⟩;rw[aF,ck]
  ·cases h
 | .own _ _::_,_,_,h,_=>by cases h
 | .p _::_,_,_,h,_=>by cases h
theorem Ug{x:bD}{u v:Value}(h:ng x=some u)(hv:gM U ad W x v):v=u:=by
 cases x with
 | one y=>cases y with
  | c w=>cases h;exact hv.1
  | own=>cases h
  | p=>cases h
 | agg xs =>
  simp only[ng] at h
  split at h
  ·rename_i r ao;cases h;obtain⟨vs,rfl,al⟩:=hv;rw[Ub xs r vs ao al]
  ·cases h
theorem Ud:∀(xs:List bD) (r vs:List Value),x8 xs=some r→xs.length=vs.length→(∀(i:Nat) (x:bD) (v:Value),xs[i]?=some x→vs[i]?=some v→gM U ad W x v)→vs=r
 | [],r,vs,h,al,_=>by cases h;exact mR al.symm
 | x::xs,r,vs,h,al,hv=>by
  simp only[x8] at h
  split at h
  ·rename_i v bd h1 ao;cases h
   match vs,al,hv with
   | u::vs,al,hv =>
    rw[Ug h1 (hv 0 x u rfl rfl),Ud xs bd vs ao (by simpa using al) fun i y w ai hw=>hv (i+1) y w (by simpa using ai) (by simpa using hw)]
  ·cases h
theorem ajp{x:ag}{u v:Value}(h:rW x=some u)(hv:cR U ad W x v):v=u:=by
 cases x with
 | w y=>exact Ug h hv
 | cd xs =>
  simp only[rW] at h
  split at h
  ·rename_i r ao;cases h;obtain⟨vs,rfl,al,ab⟩:=hv;rw[Ud xs r vs ao al ab]
  ·cases h
end
theorem NP{P:Program}{f:FuncId}{args:List ag}{r:ag}(h:aO P f args r)(ke:List Value)(bx:Value)(he:args.map rW=ke.map some)(ok:args.all KV=true)(ao:rW r=some bx)(W:World):Calls P f ke.toArray W fun e W'=>e = .returned bx∧Below W.heap.size W W' :=
 (h.call (fun _=>True) W ke ⟨by have:=congrArg List.length he;simpa using this,fun i x v ab hv=>by
  have h1:(args.map rW)[i]?=some (rW x):=by rw[dx,ab];rfl
  rw[he,dx,hv] at h1;have h2:some v=rW x:=lO h1;exact Ue h2.symm (b5.1 ok x (cP ab))⟩).mono fun e W' ⟨v,pZ,hv,aa⟩=>by
  rw[ajp ao hv] at pZ;exact⟨pZ,aa⟩
theorem SQ{v k:Int}{r:Nat}(h:gY k r)(v0 : -9223372036854775808≤v)(v1:v<9223372036854775808):aO ah 106 [aL v,aL k] (aL (b7 v r)) :=
 iz [.int .i64 v,.int .i64 k] (.int .i64 (b7 v r)) rfl rfl rfl rfl rfl fun W=>aaH v k r W h v0 v1
theorem S6{k:Int}{r:Nat}(h:gY k r):aO ah 252 [aL k] (aL (2^r)) :=
 iz [.int .i64 k] (.int .i64 (2^r)) rfl rfl rfl rfl rfl fun W=>akj k r W h
theorem Ga{k:Int}:aO ah 80 [aL k] (bl (decide (0≤k)&&decide (k≤28))) :=
 iz [.int .i64 k] (.bool (decide (0≤k)&&decide (k≤28))) rfl rfl rfl rfl rfl fun W=>aaG k W
theorem tN{x y k:Int}{r:Nat}{b:Bool}(h:gY k r)(aa:dU r x y=b):aO ah 145 [bn x y,aL k] (bl b):=by
 subst aa;exact iz [.agg #[.int .i64 x,.int .i64 y],.int .i64 k] (.bool (dU r x y)) rfl rfl rfl rfl rfl fun W=>WH x y k r W h
theorem ahQ{x y x' y':Int}:aO ah 295 [bn x y,bn x' y'] (aL (nC x y x' y')) :=
 iz [.agg #[.int .i64 x,.int .i64 y],.agg #[.int .i64 x',.int .i64 y']] (.int .i64 (nC x y x' y')) rfl rfl rfl rfl rfl fun W=>aaw x y x' y' W
theorem F9{x y k:Int}{r:Nat}(h:gY k r)(qs : -9223372036854775808≤x)(da:x<9223372036854775808)(k4 : -9223372036854775808≤y)(jJ:y<9223372036854775808):aO ah 58 [bn x y,aL k] (bn (b7 x r) (b7 y r)):=by
 refine bq (f:=58) Tryz.func58 rfl rfl rfl rfl ?_;(repeat first|refine db ?_|refine uf (SQ h qs da) ?_|refine uf (SQ h k4 jJ) ?_)
 ((refine bm rfl (c8 rfl rfl rfl aM) ?_))
 exact ag.aV.refl _
theorem tM{x y k:Int}{r:Nat}(h:gY k r)(aa:dU r x y=true):aO ah 200 [bn x y,aL k] (bn (2^r*x) (2^r*y)):=by
 obtain⟨⟨q1,q2⟩,q3,q4⟩:=(Fs r x y).1 aa;have bc:=tN h aa;have bP:=S6 h;clear h aa;generalize (2:Int)^r=P at *;refine bq (f:=200) Tryz.func200 rfl rfl rfl rfl ?_;(refine cQ ?_)
 ((refine bm rfl (c8 rfl rfl rfl aM) ?_))
 exact ag.aV.refl _
theorem ahm{x y k:Int}{r:Nat}(h:gY k r)(aa:dU r x y=true):aO ah 249 [bn x y,aL k] (.cd [.agg [.c (.int .i64 (2*(2^r*x)-2^r)),.c (.int .i64 (2*(2^r*y)-2^r))],.agg [.c (.int .i64 (2*(2^r*x)+2^r)),.c (.int .i64 (2*(2^r*y)+2^r))]]):=by
 obtain⟨⟨q1,q2⟩,q3,q4⟩:=(Fs r x y).1 aa;obtain⟨ra,Li⟩:=Lc h.1;have bc:=tN h aa;have bP:=S6 h;have ec:=tM h aa;clear h aa;generalize (2:Int)^r=P at *;generalize P*x=X at *;generalize P*y=Y at *;refine bq (f:=249) Tryz.func249 rfl rfl rfl rfl ?_;(refine cQ ?_)
 ((refine bm rfl (c8 rfl rfl rfl (c8 rfl rfl rfl aM)) ?_))
 exact ag.aV.refl _
def ud(n d:Int)(r:Nat):Bool:=decide (0<d)&&wi (134217728/2^r) (mV n d r)
def GI(n d:Int)(r:Nat):Int:=if ud n d r then mV n d r else 0
theorem S7{n d k:Int}{r:Nat}(h:gY k r)(f:fits n=true)(g:fits d=true):aO ah 239 [fv n d,aL k] (.cd [.one (.c (.int .i64 (GI n d r))),.one (.c (.bool (ud n d r)))]):=by
 refine iz [fx n d,.int .i64 k] (.tuple #[.int .i64 (GI n d r),.bool (ud n d r)]) rfl rfl rfl rfl rfl fun W => ?_;unfold GI ud
 by_cases hd:0<d
 ·have MV:∀w,Calls ah 274 #[fx n d,.int .i64 r] w (MP true (mV n d r) w):=fun w=>(NP (ahO f g hd (by have:=h.1;omega)) [fx n d,.int .i64 r] (.tuple #[ug (mV n d r),.bool true]) rfl rfl rfl w).mono fun e w' k=>⟨_,_,k.1,mO (aan f hd g (by have:=h.1;omega)),k.2⟩;rw[ca hd,pr];cases hw:wi (134217728/2^r) (mV n d r) with
  | true=>exact LR _ _ _ _ k r true _ _ true W h MV (.inr (.inr (.inr ⟨rfl,alu hw,hw,rfl,rfl⟩)))
  | false =>
   refine LR _ _ _ _ k r true _ 0 false W h MV ?_;cases hs:small (mV n d r)
   ·exact .inr (.inl ⟨rfl,rfl,rfl,rfl⟩)
   ·exact .inr (.inr (.inl ⟨rfl,rfl,hw,rfl,rfl⟩))
 ·rw[cm hd,Bool.false_and];exact LR _ _ _ _ k r false 0 0 false W h (fun w=>(NP (ahP (k:=r) f g (.inl hd)) [fx n d,.int .i64 r] (.tuple #[ug 0,.bool false]) rfl rfl rfl w).mono fun e w' k=>⟨_,_,k.1,yE,k.2⟩) (.inl ⟨rfl,rfl,rfl⟩)
theorem agZ{n d n' d' k:Int}{r:Nat}{b:Bool}(h:gY k r)(f:fits n=true)(g:fits d=true)(OJ:fits n'=true)(cZ:fits d'=true)(aa:(ud n d r&&ud n' d' r)=b) :
  aO ah 184 [fv n d,fv n' d',aL k] (.cd [.agg [.c (.int .i64 (if b then mV n d r else 0)),.c (.int .i64 (if b then mV n' d' r else 0))],.one (.c (.bool b))]):=by
 have bc:=S7 h f g;have bP:=S7 h OJ cZ;clear h f g OJ cZ;unfold GI at bc bP;cases q1:ud n d r <;> cases q2:ud n' d' r <;> rw[q1] at bc <;> rw[q2] at bP <;> rw[q1,q2] at aa <;> subst aa <;> clear q1 q2
 all_goals
  generalize mV n d r=X at *;generalize mV n' d' r=Y at *;refine bq (f:=184) Tryz.func184 rfl rfl rfl rfl ?_;(refine cQ ?_)
  ((refine bm rfl (c8 rfl rfl rfl (aZ rfl aM)) ?_))
  exact ag.aV.refl _
end Go.Proofs.YtklpfooafbjnpaaGreat
namespace Go.Proofs.YtklpfooafbjnpaaGreat
abbrev dC:=Int×Int×Int
def nB(x y z w:Int):Bool:=decide (x<z)||(decide (x=z)&&decide (y<w))
theorem qf{x y z w:Int}:nB x y z w=true↔x<z∨(x=z∧y<w):=by
 unfold nB;simp
def vl(l:List dC)(x y:Int):List dC:=l.filter fun e=>nB e.1 e.2.1 x y
def Gh(l:List dC)(x y:Int):List dC:=l.filter fun e=>nB x y e.1 e.2.1
def tP(l:List dC)(x y v:Int):List dC:=vl l x y++(x,y,v)::Gh l x y
def uN(l:List dC)(x y:Int):Int:=match l.findIdx? fun e=>decide (e.1=x)&&decide (e.2.1=y) with
 | some k=>k
 | none => -1
def lb(l:List dC):Prop:=l.Pairwise fun a b=>nB a.1 a.2.1 b.1 b.2.1=true
theorem agW{a b c d e f:Int}(h1:nB a b c d=true)(h2:nB c d e f=true):nB a b e f=true:=by
 rw[qf] at *;omega
theorem aiJ{l:List dC}(h:lb l)(x y v:Int):lb (tP l x y v):=by
 unfold tP vl Gh lb;rw[List.pairwise_append,j9];refine⟨h.filter _,⟨fun e he => ?_,h.filter _⟩,fun a aX b aa => ?_⟩
 ·exact(List.mem_filter.1 he).2
 ·have h1:=(List.mem_filter.1 aX).2;rcases fe.1 aa with rfl|aa
  ·exact h1
  ·exact agW h1 (List.mem_filter.1 aa).2
def il(l:List dC)(x y:Int):Bool:=l.any fun e=>decide (e.1=x)&&decide (e.2.1=y)
theorem O8(l:List dC)(x y:Int):decide (0≤uN l x y)=il l x y:=by
 unfold uN il;cases h:l.findIdx? fun e=>decide (e.1=x)&&decide (e.2.1=y) with
 | none =>
  rw[List.findIdx?_eq_none_iff] at h
  have:(l.any fun e=>decide (e.1=x)&&decide (e.2.1=y))=false:=by
   rw[List.any_eq_false];intro e he;rw[h e he];decide
  rw[this];rfl
 | some k =>
  have aF:=List.findIdx?_eq_some_iff_getElem.1 h;obtain⟨ae,h1,_⟩:=aF;have:(l.any fun e=>decide (e.1=x)&&decide (e.2.1=y))=true:=List.any_eq_true.2 ⟨l[k],List.getElem_mem ae,h1⟩;rw[this];simp
theorem aaR{l:List dC}{x y:Int}(h:0≤uN l x y):∃k v,uN l x y=(k:Nat)∧k<l.length∧l[k]?=some (x,y,v):=by
 unfold uN at h ⊢;cases ay:l.findIdx? fun e=>decide (e.1=x)&&decide (e.2.1=y) with
 | none=>rw[ay] at h;simp at h
 | some k =>
  obtain⟨ae,h1,_⟩:=List.findIdx?_eq_some_iff_getElem.1 ay;simp only[eb,cS] at h1;refine⟨k,l[k].2.2,rfl,ae,?_⟩;rw[bG ae];congr 1;exact Prod.ext h1.1 (Prod.ext h1.2 rfl)
def py(l:List dC)(x y:Int):Int:=match l.findIdx? fun e=>decide (e.1=x)&&decide (e.2.1=y) with
 | some k=>(l.getD k (0,0,0)).2.2
 | none=>0
theorem alq{l:List dC}{x y v:Int}{k:Nat}(h:uN l x y=k)(al:l[k]?=some (x,y,v)):py l x y=v:=by
 unfold uN at h;unfold py;cases ay:l.findIdx? fun e=>decide (e.1=x)&&decide (e.2.1=y) with
 | none=>rw[ay] at h;simp at h
 | some j =>
  rw[ay] at h;have:j=k:=by simp at h;omega
  subst this;simp only[xh,al];rfl
theorem alo{l:List dC}{x y:Int}(h:il l x y=false):py l x y=0:=by
 have h2:=O8 l x y;rw[h] at h2;unfold uN at h2;unfold py;cases ay:l.findIdx? fun e=>decide (e.1=x)&&decide (e.2.1=y) with
 | none=>rfl
 | some j=>rw[ay] at h2;simp at h2
theorem aiH(l:List dC)(x y:Int):(vl l x y).length≤l.length:=List.length_filter_le _ _
theorem Vt{l:List dC}(h:lb l){x y v:Int}(hm:(x,y,v)∈l):il l x y=true∧py l x y=v:=by
 have aY:il l x y=true:=List.any_eq_true.2 ⟨_,hm,by simp⟩;have au:=O8 l x y;rw[aY] at au;obtain⟨k,u,h1,h2,ar⟩:=aaR (of_decide_eq_true au);refine⟨aY,?_⟩;rw[alq h1 ar];obtain⟨j,af⟩:=kx hm;have Bb:=(br.1 af).1;have hU:l[k]=(x,y,u):=(br.1 ar).2;have lF:l[j]=(x,y,v):=(br.1 af).2;unfold lb at h;rw[List.pairwise_iff_getElem] at h;rcases Nat.lt_trichotomy k j with q|q|q
 ·have:=h k j h2 Bb q;rw[hU,lF,qf] at this;simp at this
 ·subst q;rw[hU] at lF;cases lF;rfl
 ·have:=h j k Bb h2 q;rw[hU,lF,qf] at this;simp at this
end Go.Proofs.YtklpfooafbjnpaaGreat
namespace Go.Proofs.YtklpfooafbjnpaaGreat
open Go.RowKit
def eA:List dC→List AC
 | []=>[]
 | e::l => .c (.int .i64 e.1) :: .c (.int .i64 e.2.1) :: .c (.int .i64 e.2.2)::eA l
theorem It:∀(l:List dC) (i:Nat) (e:dC),l[i]?=some e→((eA l).drop (i*3)).take 3=[.c (.int .i64 e.1),.c (.int .i64 e.2.1),.c (.int .i64 e.2.2)]
 | [],i,p,h=>by simp at h
 | q::l,0,p,h=>by simp at h;subst h;simp[eA]
 | q::l,i+1,p,h=>by
  have e:(i+1)*3=i*3+1+1+1:=by omega
  rw[e];simp only[eA,List.drop_succ_cons];exact It l i p (by simpa using h)
theorem OC{l:List dC}{j:Int}{i:Nat}{x y v:Int}(af:j=i)(h:l[i]?=some (x,y,v)):((eA l).drop (j.toNat*3)).take 3=[.c (.int .i64 x),.c (.int .i64 y),.c (.int .i64 v)]:=by
 subst af;exact It l i (x,y,v) h
theorem Ay:∀(l:List dC),(eA l).length=l.length*3
 | []=>rfl
 | p::l=>by simp only[eA,hJ,Ay l];omega
theorem Ax:∀(l m:List dC),eA (l++m)=eA l++eA m
 | [],_=>rfl
 | p::l,m=>by simp only[tS,eA,Ax l m]
theorem Oy:∀(l:List dC),(eA l).all AC.aW=true
 | []=>rfl
 | p::l=>by simp only[eA,kA,Oy l];rfl
abbrev FJ(x y:Int):List AC:=[.c (.int .i64 x),.c (.int .i64 y)]
abbrev Vq(k:Nat):ag := .w (.one (.own k 0))
def rp(n:Int):Int:=if n<1 then 1 else if 1024<n then 1024 else n
def hk(l:List aq)(x y:Int):Int:=match l.findIdx? fun e=>decide (e.1=x)&&decide (e.2=y) with
 | some k=>k
 | none => -1
def wq(n:Int):Bool:=decide (-134217728≤n)&&decide (n≤134217728)
theorem SO{n:Int}{b:Bool}(aa:wq n=b):aO ah 240 [aL n] (bl b):=by
 have cs:(-134217728≤n∧n≤134217728∧b=true)∨(-134217728≤n∧¬n≤134217728∧b=false)∨(¬ -134217728≤n∧b=false):=by
  rw[←aa];unfold wq
  by_cases h1 : -134217728≤n <;> by_cases h2:n≤134217728 <;> simp[h1,h2]
 clear aa;rcases cs with ⟨h1,h2,rfl⟩|⟨h1,h2,rfl⟩|⟨h1,rfl⟩
 all_goals
  refine bq (f:=240) Tryz.func240 rfl rfl rfl rfl ?_;(repeat first|refine db ?_|(with_reducible apply bT (c:=true));rfl;rfl;(exact ca (by omega))|(with_reducible apply bT (c:=false));rfl;rfl;(exact cm (by omega)))
  ((refine bm rfl (aZ rfl aM) ?_))
  first|exact ag.aV.refl _|exact ag.aV.of_eq (by rw[ca h2];rfl)|exact ag.aV.of_eq (by rw[cm h2];rfl)
theorem aiR(x y:Int):c4 x y=(wq x&&wq y):=by
 unfold c4 wq;rw[oN];simp only[eb,cS];omega
theorem ml{x y:Int}(h:c4 x y=true):eC x y=true:=by rw[tY] at h;rw[TH];omega
theorem qg{x y:Int}{b:Bool}(aa:c4 x y=b):aO ah 185 [bn x y] (bl b):=by
 have bc:=SO (n:=x) rfl;have bP:=SO (n:=y) rfl;rw[aiR] at aa;cases q1:wq x <;> cases q2:wq y <;> rw[q1] at bc <;> rw[q2] at bP <;> rw[q1,q2] at aa <;> subst aa <;> clear q1 q2
 all_goals
  refine bq (f:=185) Tryz.func185 rfl rfl rfl rfl ?_;(refine cQ ?_)
  ((refine bm rfl (aZ rfl aM) ?_))
  exact ag.aV.refl _
theorem ag0{n m:Int}:aO ah 319 [aL n,aL m] (aL (fj n m)) :=
 iz [.int .i64 n,.int .i64 m] (.int .i64 (fj n m)) rfl rfl rfl rfl rfl fun W=>Hb n m W
abbrev k0(n d:Int)(o:Bool):ag := .w (.agg [.c (.int .i64 n),.c (.int .i64 d),.c (.bool o)])
abbrev vA(x:iE):ag:=k0 x.n x.d x.own
def mX(x:iE):Prop:=(-2000000000≤x.n∧x.n≤2000000000)∧0<x.d∧x.d≤2000000000
theorem af0{x y:Int}(h1 : -2000000000≤x)(h2:x≤2000000000)(ar:0≤y)(aK:y≤2000000000) : -4000000000000000000≤x*y∧x*y≤4000000000000000000:=by
 have a1:x*y≤2000000000*y:=qo h2 ar;have a2 : -2000000000*y≤x*y:=qo h1 ar;omega
theorem NF{x y:iE}(ab:mX x)(ai:mX y):IntKind.i64.wrap (x.n*y.d)=x.n*y.d:=by
 obtain⟨⟨a1,a2⟩,a3,a4⟩:=ab;obtain⟨⟨b1,b2⟩,dF,dc⟩:=ai;have:=af0 a1 a2 (by omega:(0:Int)≤y.d) dc;exact jd (by omega)
theorem ail{n d m e c:Int}{o q:Bool}(bc:aO ah 319 [aL (n*e),aL (m*d)] (aL c))(w1:IntKind.i64.wrap (n*e)=n*e)(w2:IntKind.i64.wrap (m*d)=m*d):aO ah 318 [k0 n d o,k0 m e q] (aL c):=by
 refine bq (f:=318) Tryz.func318 rfl rfl rfl rfl ?_;(refine cQ ?_)
 ((refine bm rfl (aZ rfl aM) ?_))
 exact ag.aV.refl _
theorem K8{x y:iE}(ab:mX x)(ai:mX y):aO ah 318 [vA x,vA y] (aL (ij x y)) :=
 ail ag0 (NF ab ai) (NF ai ab)
theorem ah4{n d m e c:Int}{o q:Bool}{cr dK:Int}{ka:Bool}(bc:aO ah 318 [k0 n d o,k0 m e q] (aL c))(cs:(0<c∧cr=n∧dK=d∧ka=o)∨(¬ 0<c∧c=0∧q=true∧cr=n∧dK=d∧ka=o)∨(¬ 0<c∧c=0∧q=false∧cr=m∧dK=e∧ka=q)∨(¬ 0<c∧¬c=0∧cr=m∧dK=e∧ka=q)):aO ah 328 [k0 n d o,k0 m e q] (k0 cr dK ka):=by
 rcases cs with ⟨q1,rfl,rfl,rfl⟩|⟨q1,q2,rfl,rfl,rfl,rfl⟩|⟨q1,q2,rfl,rfl,rfl,rfl⟩|⟨q1,q2,rfl,rfl,rfl⟩
 all_goals
  refine bq (f:=328) Tryz.func328 rfl rfl rfl rfl ?_;(repeat first|refine db ?_|refine fA ?_|(with_reducible apply bT (c:=true));rfl;rfl;(exact ca (by omega))|(with_reducible apply bT (c:=false));rfl;rfl;(exact cm (by omega)))
  ((refine bm rfl (c8 rfl rfl rfl aM) ?_))
  exact ag.aV.refl _
theorem ah3{x y:iE}(ab:mX x)(ai:mX y):aO ah 328 [vA x,vA y] (vA (sd x y)):=by
 refine ah4 (K8 ab ai) ?_;rcases Ri x y with ⟨e,h⟩|⟨e,h⟩ <;> rw[e]
 ·by_cases h1:0<ij x y
  ·exact .inl ⟨h1,rfl,rfl,rfl⟩
  ·rcases h with h|⟨h,k⟩
   ·exact absurd h h1
   ·exact .inr (.inl ⟨h1,h,k,rfl,rfl,rfl⟩)
 ·have h1:¬ 0<ij x y:=fun k=>h (.inl k)
  by_cases h2:ij x y=0
  ·refine .inr (.inr (.inl ⟨h1,h2,?_,rfl,rfl,rfl⟩));cases ai:y.own with
   | false=>rfl
   | true=>exact absurd (.inr ⟨h2,ai⟩) h
  ·exact .inr (.inr (.inr ⟨h1,h2,rfl,rfl,rfl⟩))
theorem ahM{n d m e c:Int}{o q:Bool}{cr dK:Int}{ka:Bool}(bc:aO ah 318 [k0 n d o,k0 m e q] (aL c))(cs:(c<0∧cr=n∧dK=d∧ka=o)∨(¬c<0∧c=0∧q=true∧cr=n∧dK=d∧ka=o)∨(¬c<0∧c=0∧q=false∧cr=m∧dK=e∧ka=q)∨(¬c<0∧¬c=0∧cr=m∧dK=e∧ka=q)):aO ah 329 [k0 n d o,k0 m e q] (k0 cr dK ka):=by
 rcases cs with ⟨q1,rfl,rfl,rfl⟩|⟨q1,q2,rfl,rfl,rfl,rfl⟩|⟨q1,q2,rfl,rfl,rfl,rfl⟩|⟨q1,q2,rfl,rfl,rfl⟩
 all_goals
  refine bq (f:=329) Tryz.func329 rfl rfl rfl rfl ?_;(repeat first|refine db ?_|refine fA ?_|(with_reducible apply bT (c:=true));rfl;rfl;(exact ca (by omega))|(with_reducible apply bT (c:=false));rfl;rfl;(exact cm (by omega)))
  ((refine bm rfl (c8 rfl rfl rfl aM) ?_))
  exact ag.aV.refl _
theorem ahL{x y:iE}(ab:mX x)(ai:mX y):aO ah 329 [vA x,vA y] (vA (rT x y)):=by
 refine ahM (K8 ab ai) ?_;rcases Ov x y with ⟨e,h⟩|⟨e,h⟩ <;> rw[e]
 ·by_cases h1:ij x y<0
  ·exact .inl ⟨h1,rfl,rfl,rfl⟩
  ·rcases h with h|⟨h,k⟩
   ·exact absurd h h1
   ·exact .inr (.inl ⟨h1,h,k,rfl,rfl,rfl⟩)
 ·have h1:¬ij x y<0:=fun k=>h (.inl k)
  by_cases h2:ij x y=0
  ·refine .inr (.inr (.inl ⟨h1,h2,?_,rfl,rfl,rfl⟩));cases ai:y.own with
   | false=>rfl
   | true=>exact absurd (.inr ⟨h2,ai⟩) h
  ·exact .inr (.inr (.inr ⟨h1,h2,rfl,rfl,rfl⟩))
abbrev ht(a1 a2 b1 b2 n d:Int)(o:Bool)(m e:Int)(q:Bool):ag := .w (.agg [.c (.int .i64 a1),.c (.int .i64 a2),.c (.int .i64 b1),.c (.int .i64 b2),.c (.int .i64 n),.c (.int .i64 d),.c (.bool o),.c (.int .i64 m),.c (.int .i64 e),.c (.bool q)])
abbrev GV(a1 a2 b1 b2:Int)(p:Pa):ag:=ht a1 a2 b1 b2 p.f.n p.f.d p.f.own p.t.n p.t.d p.t.own
def zQ(p:Pa):Prop:=mX p.f∧mX p.t
theorem ah2{a1 a2 b1 b2 n d m e u v:Int}{o q w:Bool}{n' d' aG e':Int}{fM cG:Bool}(hu : -1100000000≤u∧u≤1100000000)(hv : -1100000000≤v∧v≤1100000000)
  (cs:(0<v-u∧aO ah 328 [k0 n d o,k0 (-u) (v-u) w] (k0 n' d' fM)∧aG=m∧e'=e∧cG=q)∨(¬ 0<v-u∧v-u<0∧aO ah 329 [k0 m e q,k0 u (-(v-u)) w] (k0 aG e' cG)∧n'=n∧d'=d∧fM=o)
   ∨ (¬ 0<v-u∧¬v-u<0∧u<0∧n'=1∧d'=1∧fM=false∧aG=0∧e'=1∧cG=false)∨(¬ 0<v-u∧¬v-u<0∧¬u<0∧u=0∧w=false∧n'=1∧d'=1∧fM=false∧aG=0∧e'=1∧cG=false)
   ∨ (¬ 0<v-u∧¬v-u<0∧¬u<0∧u=0∧w=true∧n'=n∧d'=d∧fM=o∧aG=m∧e'=e∧cG=q)∨(¬ 0<v-u∧¬v-u<0∧¬u<0∧¬u=0∧n'=n∧d'=d∧fM=o∧aG=m∧e'=e∧cG=q)) :
  aO ah 317 [ht a1 a2 b1 b2 n d o m e q,aL u,aL v,bl w] (ht a1 a2 b1 b2 n' d' fM aG e' cG):=by
 rcases cs with ⟨q1,bc,rfl,rfl,rfl⟩|⟨q1,q2,bc,rfl,rfl,rfl⟩|⟨q1,q2,q3,rfl,rfl,rfl,rfl,rfl,rfl⟩|⟨q1,q2,q3,q4,rfl,rfl,rfl,rfl,rfl,rfl,rfl⟩|⟨q1,q2,q3,q4,rfl,rfl,rfl,rfl,rfl,rfl,rfl⟩|⟨q1,q2,q3,q4,rfl,rfl,rfl,rfl,rfl,rfl⟩
 ·refine bq (f:=317) Tryz.func317 rfl rfl rfl rfl ?_;(refine cQ ?_)
  ((refine bm rfl (c8 rfl rfl rfl aM) ?_))
  exact ag.aV.refl _
 ·refine bq (f:=317) Tryz.func317 rfl rfl rfl rfl ?_;(refine cQ ?_)
  ((refine bm rfl (c8 rfl rfl rfl aM) ?_))
  exact ag.aV.refl _
 all_goals
  refine bq (f:=317) Tryz.func317 rfl rfl rfl rfl ?_;(repeat first|refine db ?_|(with_reducible apply bT (c:=true));rfl;rfl;(exact ca (by omega))|(with_reducible apply bT (c:=false));rfl;rfl;(exact cm (by omega)))
  ((refine bm rfl (c8 rfl rfl rfl aM) ?_))
  exact ag.aV.refl _
theorem afa{x y:iE}(ab:mX x)(ai:mX y):mX (sd x y):=by unfold sd;split <;> assumption
theorem ZW{x y:iE}(ab:mX x)(ai:mX y):mX (rT x y):=by unfold rT;split <;> assumption
theorem FF{p:Pa}{u v:Int}{w:Bool}(hp:zQ p)(hu : -900000000≤u∧u≤900000000)(hv : -900000000≤v∧v≤900000000):zQ (pg p u v w):=by
 unfold pg
 by_cases h1:0<v-u
 ·rw[if_pos h1];exact⟨afa hp.1 ⟨by simp only;omega,by simp only;omega⟩,hp.2⟩
 ·rw[if_neg h1]
  by_cases h2:v-u<0
  ·rw[if_pos h2];exact⟨hp.1,ZW hp.2 ⟨by simp only;omega,by simp only;omega⟩⟩
  ·rw[if_neg h2]
   split
   ·exact⟨⟨by decide,by decide⟩,⟨by decide,by decide⟩⟩
   ·exact hp
theorem Gc{a1 a2 b1 b2 u v:Int}{w:Bool}{p:Pa}(hp:zQ p)(hu : -900000000≤u∧u≤900000000)(hv : -900000000≤v∧v≤900000000):aO ah 317 [GV a1 a2 b1 b2 p,aL u,aL v,bl w] (GV a1 a2 b1 b2 (pg p u v w)):=by
 refine ah2 (by omega) (by omega) ?_;unfold pg
 by_cases h1:0<v-u
 ·rw[if_pos h1];exact .inl ⟨h1,ah3 hp.1 (y:=⟨-u,v-u,w⟩) ⟨by simp only;omega,by simp only;omega⟩,rfl,rfl,rfl⟩
 ·rw[if_neg h1]
  by_cases h2:v-u<0
  ·rw[if_pos h2];exact .inr (.inl ⟨h1,h2,ahL hp.2 (y:=⟨u,-(v-u),w⟩) ⟨by simp only;omega,by simp only;omega⟩,rfl,rfl,rfl⟩)
  ·rw[if_neg h2]
   by_cases ar:u<0
   ·rw[if_pos (.inl ar)];exact .inr (.inr (.inl ⟨h1,h2,ar,rfl,rfl,rfl,rfl,rfl,rfl⟩))
   ·by_cases aK:u=0
    ·cases w with
     | false=>rw[if_pos (.inr ⟨aK,rfl⟩)];exact .inr (.inr (.inr (.inl ⟨h1,h2,ar,aK,rfl,rfl,rfl,rfl,rfl,rfl,rfl⟩)))
     | true=>rw[if_neg (by simp[ar])];exact .inr (.inr (.inr (.inr (.inl ⟨h1,h2,ar,aK,rfl,rfl,rfl,rfl,rfl,rfl,rfl⟩))))
    ·rw[if_neg (by simp[ar,aK])];exact .inr (.inr (.inr (.inr (.inr ⟨h1,h2,ar,aK,rfl,rfl,rfl,rfl,rfl,rfl⟩))))
instance ana:Hi ah 326 4 false 1:=⟨by kernel_rfl⟩
abbrev vB(l1 l2 h1 h2:Int)(o p:Bool):ag := .w (.agg [.c (.int .i64 l1),.c (.int .i64 l2),.c (.int .i64 h1),.c (.int .i64 h2),.c (.bool o),.c (.bool p)])
def uy(n:Int):Bool:=decide (-536870912≤n)&&decide (n≤536870912)
theorem NS{n:Int}:uy n=true ↔ -536870912≤n∧n≤536870912:=by unfold uy;simp
def uz(x y:Int):Bool:=uy x&&uy y
theorem D8{x y:Int}:uz x y=true↔(-536870912≤x∧x≤536870912) ∧ -536870912≤y∧y≤536870912:=by unfold uz;rw[eb,NS,NS]
def FC(k:Int):Bool:=decide (0≤k)&&decide (k≤2)
theorem ahI{a1 a2 b1 b2 l1 l2 h1 h2 n d m e n' d' aG e':Int}{o p q r cG bd:Bool}(aX : -134217728≤a1∧a1≤134217728)(aa : -134217728≤b1∧b1≤134217728)(al : -536870912≤l1∧l1≤536870912)
  (bc:aO ah 317 [ht a1 a2 b1 b2 n d q m e r,aL (2*a1-l1),aL (2*b1-l1),bl o] (ht a1 a2 b1 b2 n' d' cG aG e' bd)):aO ah 286 [vB l1 l2 h1 h2 o p,ht a1 a2 b1 b2 n d q m e r] (ht a1 a2 b1 b2 n' d' cG aG e' bd):=by
 refine bq (f:=286) Tryz.func286 rfl rfl rfl rfl ?_;(refine cQ ?_)
 ((refine bm rfl (c8 rfl rfl rfl aM) ?_))
 exact ag.aV.refl _
theorem ahH{a1 a2 b1 b2 l1 l2 h1 h2 n d m e n' d' aG e':Int}{o p q r cG bd:Bool}(aX : -134217728≤a2∧a2≤134217728)(aa : -134217728≤b2∧b2≤134217728)(al : -536870912≤l2∧l2≤536870912)
  (bc:aO ah 317 [ht a1 a2 b1 b2 n d q m e r,aL (2*a2-l2),aL (2*b2-l2),bl o] (ht a1 a2 b1 b2 n' d' cG aG e' bd)):aO ah 287 [vB l1 l2 h1 h2 o p,ht a1 a2 b1 b2 n d q m e r] (ht a1 a2 b1 b2 n' d' cG aG e' bd):=by
 refine bq (f:=287) Tryz.func287 rfl rfl rfl rfl ?_;(refine cQ ?_)
 ((refine bm rfl (c8 rfl rfl rfl aM) ?_))
 exact ag.aV.refl _
theorem ahJ{a1 a2 b1 b2 l1 l2 h1 h2 n d m e n' d' aG e':Int}{o p q r cG bd:Bool}(aX : -134217728≤a1∧a1≤134217728)(aa : -134217728≤b1∧b1≤134217728)(al : -536870912≤h1∧h1≤536870912)
  (bc:aO ah 317 [ht a1 a2 b1 b2 n d q m e r,aL (h1-2*a1),aL (h1-2*b1),bl p] (ht a1 a2 b1 b2 n' d' cG aG e' bd)):aO ah 288 [vB l1 l2 h1 h2 o p,ht a1 a2 b1 b2 n d q m e r] (ht a1 a2 b1 b2 n' d' cG aG e' bd):=by
 refine bq (f:=288) Tryz.func288 rfl rfl rfl rfl ?_;(refine cQ ?_)
 ((refine bm rfl (c8 rfl rfl rfl aM) ?_))
 exact ag.aV.refl _
theorem ahG{a1 a2 b1 b2 l1 l2 h1 h2 n d m e n' d' aG e':Int}{o p q r cG bd:Bool}(aX : -134217728≤a2∧a2≤134217728)(aa : -134217728≤b2∧b2≤134217728)(al : -536870912≤h2∧h2≤536870912)
  (bc:aO ah 317 [ht a1 a2 b1 b2 n d q m e r,aL (h2-2*a2),aL (h2-2*b2),bl p] (ht a1 a2 b1 b2 n' d' cG aG e' bd)):aO ah 289 [vB l1 l2 h1 h2 o p,ht a1 a2 b1 b2 n d q m e r] (ht a1 a2 b1 b2 n' d' cG aG e' bd):=by
 refine bq (f:=289) Tryz.func289 rfl rfl rfl rfl ?_;(refine cQ ?_)
 ((refine bm rfl (c8 rfl rfl rfl aM) ?_))
 exact ag.aV.refl _
theorem ahq{a1 a2 b1 b2:Int}:aO ah 285 [bn a1 a2,bn b1 b2] (GV a1 a2 b1 b2 vU):=by
 refine bq (f:=285) Tryz.func285 rfl rfl rfl rfl ?_;(refine fs ?_)
 ((refine bm rfl (c8 rfl rfl rfl aM) ?_))
 exact ag.aV.refl _
theorem ahU{a1 a2 b1 b2 n d m e c:Int}{o q r:Bool}(bc:aO ah 318 [k0 n d o,k0 m e q] (aL c))(cs:(c<0∧r=true)∨(¬c<0∧c=0∧o=true∧r=q)∨(¬c<0∧c=0∧o=false∧r=false)∨(¬c<0∧¬c=0∧r=false)):aO ah 290 [ht a1 a2 b1 b2 n d o m e q] (bl r):=by
 rcases cs with ⟨q1,rfl⟩|⟨q1,q2,rfl,rfl⟩|⟨q1,q2,rfl,rfl⟩|⟨q1,q2,rfl⟩
 all_goals
  refine bq (f:=290) Tryz.func290 rfl rfl rfl rfl ?_;(repeat first|refine db ?_|refine fA ?_|(with_reducible apply bT (c:=true));rfl;rfl;(exact ca (by omega))|(with_reducible apply bT (c:=false));rfl;rfl;(exact cm (by omega)))
  ((refine bm rfl (aZ rfl aM) ?_))
  exact ag.aV.refl _
theorem ahT{a1 a2 b1 b2:Int}{p:Pa}(hp:zQ p):aO ah 290 [GV a1 a2 b1 b2 p] (bl (xY p)):=by
 refine ahU (K8 hp.1 hp.2) ?_;unfold xY
 by_cases h1:ij p.f p.t<0
 ·exact .inl ⟨h1,by rw[ca h1];rfl⟩
 ·rw[cm h1]
  by_cases h2:ij p.f p.t=0
  ·rw[ca h2];cases ar:p.f.own with
   | true=>exact .inr (.inl ⟨h1,h2,rfl,rfl⟩)
   | false=>exact .inr (.inr (.inl ⟨h1,h2,rfl,rfl⟩))
  ·exact .inr (.inr (.inr ⟨h1,h2,by rw[cm h2];rfl⟩))
theorem SP{n:Int}{b:Bool}(aa:uy n=b):aO ah 316 [aL n] (bl b):=by
 have cs:(-536870912≤n∧n≤536870912∧b=true)∨(-536870912≤n∧¬n≤536870912∧b=false)∨(¬ -536870912≤n∧b=false):=by
  rw[←aa];unfold uy
  by_cases h1 : -536870912≤n <;> by_cases h2:n≤536870912 <;> simp[h1,h2]
 clear aa;rcases cs with ⟨h1,h2,rfl⟩|⟨h1,h2,rfl⟩|⟨h1,rfl⟩
 all_goals
  refine bq (f:=316) Tryz.func316 rfl rfl rfl rfl ?_;(repeat first|refine db ?_|(with_reducible apply bT (c:=true));rfl;rfl;(exact ca (by omega))|(with_reducible apply bT (c:=false));rfl;rfl;(exact cm (by omega)))
  ((refine bm rfl (aZ rfl aM) ?_))
  first|exact ag.aV.refl _|exact ag.aV.of_eq (by rw[ca h2];rfl)|exact ag.aV.of_eq (by rw[cm h2];rfl)
theorem Gb{x y:Int}{b:Bool}(aa:uz x y=b):aO ah 283 [bn x y] (bl b):=by
 have bc:=SP (n:=x) rfl;have bP:=SP (n:=y) rfl;unfold uz at aa;cases q1:uy x <;> cases q2:uy y <;> rw[q1] at bc <;> rw[q2] at bP <;> rw[q1,q2] at aa <;> subst aa <;> clear q1 q2
 all_goals
  refine bq (f:=283) Tryz.func283 rfl rfl rfl rfl ?_;(refine cQ ?_)
  ((refine bm rfl (aZ rfl aM) ?_))
  exact ag.aV.refl _
theorem SS{k:Int}{b:Bool}(aa:FC k=b):aO ah 284 [aL k] (bl b):=by
 have cs:(k=0∧b=true)∨(¬k=0∧k=1∧b=true)∨(¬k=0∧¬k=1∧k=2∧b=true)∨(¬k=0∧¬k=1∧¬k=2∧b=false):=by
  rw[←aa];unfold FC
  by_cases h1:k=0
  ·exact .inl ⟨h1,by subst h1;rfl⟩
  ·by_cases h2:k=1
   ·exact .inr (.inl ⟨h1,h2,by subst h2;rfl⟩)
   ·by_cases ar:k=2
    ·exact .inr (.inr (.inl ⟨h1,h2,ar,by subst ar;rfl⟩))
    ·refine .inr (.inr (.inr ⟨h1,h2,ar,?_⟩));rw[Bool.and_eq_false_iff,ky,ky];omega
 clear aa;rcases cs with ⟨h1,rfl⟩|⟨h1,h2,rfl⟩|⟨h1,h2,ar,rfl⟩|⟨h1,h2,ar,rfl⟩
 all_goals
  refine bq (f:=284) Tryz.func284 rfl rfl rfl rfl ?_;(repeat first|refine db ?_|(with_reducible apply bT (c:=true));rfl;rfl;(exact ca (by omega))|(with_reducible apply bT (c:=false));rfl;rfl;(exact cm (by omega)))
  ((refine bm rfl (aZ rfl aM) ?_))
  first|exact ag.aV.refl _|exact ag.aV.of_eq (by rw[ca ar];rfl)|exact ag.aV.of_eq (by rw[cm ar];rfl)
theorem ahe{a1 a2 b1 b2 l1 l2 h1 h2 k:Int}{o p r:Bool}{fC d1 m1 aI gy d2 m2 aN q5 d3 m3 cc q6 d4 m4 ed:Int}{q1 cr q2 dK q3 ka q4 sC:Bool}(bf:aO ah 185 [bn a1 a2] (bl true))(dL:aO ah 185 [bn b1 b2] (bl true))(vP:aO ah 283 [bn l1 l2] (bl true))(MF:aO ah 283 [bn h1 h2] (bl true))(WM:aO ah 284 [aL k] (bl true))
  (Z9:(!decide (k=2))=o) (tb:decide (k=1)=p) (aP:aO ah 285 [bn a1 a2,bn b1 b2] (ht a1 a2 b1 b2 0 1 true 1 1 true))
  (bc:aO ah 286 [vB l1 l2 h1 h2 o p,ht a1 a2 b1 b2 0 1 true 1 1 true] (ht a1 a2 b1 b2 fC d1 q1 m1 aI cr))
  (bP:aO ah 287 [vB l1 l2 h1 h2 o p,ht a1 a2 b1 b2 fC d1 q1 m1 aI cr] (ht a1 a2 b1 b2 gy d2 q2 m2 aN dK))
  (ec:aO ah 288 [vB l1 l2 h1 h2 o p,ht a1 a2 b1 b2 gy d2 q2 m2 aN dK] (ht a1 a2 b1 b2 q5 d3 q3 m3 cc ka))
  (jN:aO ah 289 [vB l1 l2 h1 h2 o p,ht a1 a2 b1 b2 q5 d3 q3 m3 cc ka] (ht a1 a2 b1 b2 q6 d4 q4 m4 ed sC))
  (H1:aO ah 290 [ht a1 a2 b1 b2 q6 d4 q4 m4 ed sC] (bl r)) :
  aO ah 250 [bn a1 a2,bn b1 b2,bn l1 l2,bn h1 h2,aL k] (bl r):=by
 subst Z9;subst tb;refine bq (f:=250) Tryz.func250 rfl rfl rfl rfl ?_;(refine cQ ?_);refine YJ 5 ?_;(refine cQ ?_)
 ((refine bm rfl (aZ rfl aM) ?_))
 exact ag.aV.refl _
def du(a1 a2 b1 b2 l1 l2 h1 h2 k:Int):Pa:=uB (2*a1-l1) (2*b1-l1) (2*a2-l2) (2*b2-l2) (h1-2*a1) (h1-2*b1) (h2-2*a2) (h2-2*b2) (!decide (k=2)) (decide (k=1))
def yK(a1 a2 b1 b2 l1 l2 h1 h2 k:Int):Bool:=c4 a1 a2&&c4 b1 b2&&uz l1 l2&&uz h1 h2&&FC k
def yJ(a1 a2 b1 b2 l1 l2 h1 h2 k:Int):Bool:=yK a1 a2 b1 b2 l1 l2 h1 h2 k&&xY (du a1 a2 b1 b2 l1 l2 h1 h2 k)
theorem ahf{a1 a2 b1 b2 l1 l2 h1 h2 k:Int}{cr dK ka sC Gm:Bool}(bf:aO ah 185 [bn a1 a2] (bl cr))(dL:aO ah 185 [bn b1 b2] (bl dK))(vP:aO ah 283 [bn l1 l2] (bl ka))(MF:aO ah 283 [bn h1 h2] (bl sC))(WM:aO ah 284 [aL k] (bl Gm))(h:(cr&&dK&&ka&&sC&&Gm)=false) :
  aO ah 250 [bn a1 a2,bn b1 b2,bn l1 l2,bn h1 h2,aL k] (bl false):=by
 have cs:cr=false∨(cr=true∧dK=false)∨(cr=true∧dK=true∧ka=false)∨(cr=true∧dK=true∧ka=true∧sC=false)∨(cr=true∧dK=true∧ka=true∧sC=true∧Gm=false):=by
  cases cr <;> cases dK <;> cases ka <;> cases sC <;> cases Gm <;> simp_all
 clear h;rcases cs with rfl|⟨rfl,rfl⟩|⟨rfl,rfl,rfl⟩|⟨rfl,rfl,rfl,rfl⟩|⟨rfl,rfl,rfl,rfl,rfl⟩
 all_goals
  refine bq (f:=250) Tryz.func250 rfl rfl rfl rfl ?_;(refine cQ ?_)
  ((refine bm rfl (aZ rfl aM) ?_))
  exact ag.aV.refl _
theorem M6:zQ vU:=⟨⟨by decide,by decide⟩,⟨by decide,by decide⟩⟩
theorem ahd{a1 a2 b1 b2 l1 l2 h1 h2 k:Int}:aO ah 250 [bn a1 a2,bn b1 b2,bn l1 l2,bn h1 h2,aL k] (bl (yJ a1 a2 b1 b2 l1 l2 h1 h2 k)):=by
 unfold yJ;cases ao:yK a1 a2 b1 b2 l1 l2 h1 h2 k with
 | false=>exact ahf (qg rfl) (qg rfl) (Gb rfl) (Gb rfl) (SS rfl) ao
 | true =>
  rw[pr];unfold yK at ao;simp only[eb] at ao;obtain⟨⟨⟨⟨TI,TJ⟩,T5⟩,T2⟩,ajh⟩:=ao;have Fp:=tY.1 TI;have Fq:=tY.1 TJ;have QF:=D8.1 T5;have ck:=D8.1 T2;unfold du uB;have o1:=FF (u:=2*a1-l1) (v:=2*b1-l1) (w := !decide (k=2)) M6 (by omega) (by omega);have o2:=FF (u:=2*a2-l2) (v:=2*b2-l2) (w := !decide (k=2)) o1 (by omega) (by omega);have Sj:=FF (u:=h1-2*a1) (v:=h1-2*b1) (w:=decide (k=1)) o2 (by omega) (by omega);have agv:=FF (u:=h2-2*a2) (v:=h2-2*b2) (w:=decide (k=1)) Sj (by omega) (by omega);exact ahe (qg TI) (qg TJ) (Gb T5) (Gb T2) (SS ajh) rfl rfl ahq (ahI Fp.1 Fq.1 QF.1 (Gc M6 (by omega) (by omega))) (ahH Fp.2 Fq.2 QF.2 (Gc o1 (by omega) (by omega))) (ahJ Fp.1 Fq.1 ck.1 (Gc o2 (by omega) (by omega))) (ahG Fp.2 Fq.2 ck.2 (Gc Sj (by omega) (by omega))) (ahT agv)
theorem SH{a1 a2 b1 b2 x y k:Int}{cr dK:Bool}(vI:aO ah 80 [aL k] (bl cr))(Wv:aO ah 145 [bn x y,aL k] (bl dK))(h:(cr&&dK)=false):aO ah 193 [bn a1 a2,bn b1 b2,bn x y,aL k] (bl false):=by
 have cs:cr=false∨(cr=true∧dK=false):=by cases cr <;> cases dK <;> simp_all
 clear h;rcases cs with rfl|⟨rfl,rfl⟩
 all_goals
  refine bq (f:=193) Tryz.func193 rfl rfl rfl rfl ?_;(refine cQ ?_)
  ((refine bm rfl (aZ rfl aM) ?_))
  exact ag.aV.refl _
theorem ag6{a1 a2 b1 b2 x y k l1 l2 h1 h2:Int}{r:Bool}(vI:aO ah 80 [aL k] (bl true))(Wv:aO ah 145 [bn x y,aL k] (bl true))(alG:aO ah 249 [bn x y,aL k] (.cd [.agg [.c (.int .i64 l1),.c (.int .i64 l2)],.agg [.c (.int .i64 h1),.c (.int .i64 h2)]]))(M:aO ah 250 [bn a1 a2,bn b1 b2,bn l1 l2,bn h1 h2,aL 0] (bl r)):aO ah 193 [bn a1 a2,bn b1 b2,bn x y,aL k] (bl r):=by
 refine bq (f:=193) Tryz.func193 rfl rfl rfl rfl ?_;(refine cQ ?_)
 ((refine bm rfl (aZ rfl aM) ?_))
 exact ag.aV.refl _
def ym(a1 a2 b1 b2 x y k:Int):Bool:=decide (0≤k)&&decide (k≤28)&&dU k.toNat x y&&yJ a1 a2 b1 b2 (2*(2^k.toNat*x)-2^k.toNat) (2*(2^k.toNat*y)-2^k.toNat) (2*(2^k.toNat*x)+2^k.toNat) (2*(2^k.toNat*y)+2^k.toNat) 0
theorem ad6{k:Int}(h:(decide (0≤k)&&decide (k≤28))=true):gY k k.toNat:=by
 simp only[eb,cS] at h;unfold gY;omega
theorem ag5{a1 a2 b1 b2 x y k:Int}:aO ah 193 [bn a1 a2,bn b1 b2,bn x y,aL k] (bl (ym a1 a2 b1 b2 x y k)):=by
 unfold ym;have vI:=Ga (k:=k);cases ae:(decide (0≤k)&&decide (k≤28)) with
 | false =>
  rw[ae] at vI;obtain⟨r,ao⟩:=ad5 k;exact SH vI (tN ao rfl) rfl
 | true =>
  rw[ae] at vI;have ao:=ad6 ae;cases hi:dU k.toNat x y with
  | false=>exact SH vI (tN ao hi) rfl
  | true=>exact ag6 vI (tN ao hi) (ahm ao hi) ahd
end Go.Proofs.YtklpfooafbjnpaaGreat
namespace Go.Proofs.YtklpfooafbjnpaaGreat
def MJ(a1 a2 b1 b2 l1 l2 h1 h2 k:Int):Prop:=Met (2*a1-l1) (2*b1-l1) (2*a2-l2) (2*b2-l2) (h1-2*a1) (h1-2*b1) (h2-2*a2) (h2-2*b2) (!decide (k=2)) (decide (k=1))
theorem Kz{a1 a2 b1 b2 l1 l2 h1 h2 k:Int}:yJ a1 a2 b1 b2 l1 l2 h1 h2 k=true↔yK a1 a2 b1 b2 l1 l2 h1 h2 k=true∧MJ a1 a2 b1 b2 l1 l2 h1 h2 k:=by
 unfold yJ du MJ;rw[eb,Zw]
theorem afE{a1 a2 b1 b2 l1 l2 h1 h2 k:Int}:yK a1 a2 b1 b2 l1 l2 h1 h2 k=true↔c4 a1 a2=true∧c4 b1 b2=true∧uz l1 l2=true∧uz h1 h2=true∧FC k=true:=by
 unfold yK;simp only[eb,and_assoc]
end Go.Proofs.YtklpfooafbjnpaaGreat
namespace Go.Proofs.YtklpfooafbjnpaaGreat
open Go.ChangeShapes Go.WideShapes Go.ChangeAt Go.RowKit Go.Joins
theorem agS:ownKnob ah.godebug=none:=by kernel_rfl
section
variable{H:Type}{enc:TypeId×Value→H}{P:Program}
end
section
variable{P:Program}{W:World}{r:Reach}{b:Nat}{t:TypeId}{v:Value}
end
end Go.Proofs.YtklpfooafbjnpaaGreat
namespace Go.Proofs.YtklpfooafbjnpaaGreat
open Go.RowKit
theorem aa4{P v:Int}(eT:0<P):2*((2*v+P)/(2*P)*P)≤2*v+P∧2*v+P<2*((2*v+P)/(2*P)*P)+2*P:=by
 have h1:=rc (2*v+P) (2*P);have h2:=po (2*v+P) (show 2*P≠0 by omega);have ar:=oO (2*v+P) (show 0<2*P by omega);have e:2*P*((2*v+P)/(2*P))=2*((2*v+P)/(2*P)*P):=by rw[kW,kV P]
 omega
theorem Jv{a1 a2 b1 b2 q1 q2:Int}{r:Nat}(ao:r≤28):ym a1 a2 b1 b2 q1 q2 r=true↔dU r q1 q2=true∧yJ a1 a2 b1 b2 (2*(2^r*q1)-2^r) (2*(2^r*q2)-2^r) (2*(2^r*q1)+2^r) (2*(2^r*q2)+2^r) 0=true:=by
 unfold ym;have g1:decide ((0:Int)≤(r:Int))=true:=ca (by omega);have g2:decide ((r:Int)≤28)=true:=ca (by omega);rw[g1,g2,kz,Bool.and_self,pr,eb]
def Di(p:aq):Prop:=(-9223372036854775808≤p.1∧p.1≤9223372036854775807) ∧ -9223372036854775808≤p.2∧p.2≤9223372036854775807
def sj(a1 a2 b1 b2 k:Int)(p:aq):Bool:=ym a1 a2 b1 b2 p.1 p.2 k
end Go.Proofs.YtklpfooafbjnpaaGreat
namespace Go.Proofs.YtklpfooafbjnpaaGreat
def tK(a b x AJ t:Rat):Prop := -AJ≤2*a+t*(2*(b-a))-x∧2*a+t*(2*(b-a))-x≤AJ
def oF(S p q x u:Rat):Prop:=2*(S*x)-S≤2*(S*p+u*(S*q-S*p))∧2*(S*p+u*(S*q-S*p))<2*(S*x)+S
theorem Se{a b p q x S d t1 t2 u:Rat}(h1:tK a b (2*(S*p)) (d*S) t1)(h2:tK a b (2*(S*q)) (d*S) t2)(kZ:0≤u)(cM:u≤1)(hm:oF S p q x u):tK a b (2*(S*x)) ((d+1)*S) (t1+u*(t2-t1)):=by
 obtain⟨a1,a2⟩:=h1;obtain⟨b1,b2⟩:=h2;obtain⟨m1,m2⟩:=hm;have v0:0≤1-u:=by grind
 have bB:=lu v0 (show 0≤2*a+t1*(2*(b-a))-2*(S*p)+d*S by grind);have cl:=lu v0 (show 0≤d*S-(2*a+t1*(2*(b-a))-2*(S*p)) by grind);have ju:=lu kZ (show 0≤2*a+t2*(2*(b-a))-2*(S*q)+d*S by grind);have lp:=lu kZ (show 0≤d*S-(2*a+t2*(2*(b-a))-2*(S*q)) by grind)
 constructor
 ·grind
 ·grind
theorem Sf{a b x f g t:Rat}(yk:f≤g)(h:tK a b x f t):tK a b x g t:=by
 obtain⟨h1,h2⟩:=h
 constructor <;> grind
abbrev bw(n:Int):Rat:=(n:Rat)
def yT(a1 a2 b1 b2 S:Int)(AJ t:Rat)(v:aq):Prop:=tK (bw a1) (bw b1) (2*(bw S*bw v.1)) AJ t∧tK (bw a2) (bw b2) (2*(bw S*bw v.2)) AJ t
def rH(S:Int)(p q:aq)(u:Rat)(x:aq):Prop:=(0≤u∧u≤1)∧oF (bw S) (bw p.1) (bw q.1) (bw x.1) u∧oF (bw S) (bw p.2) (bw q.2) (bw x.2) u
theorem agp{a1 a2 b1 b2 S:Int}{d t1 t2 u:Rat}{p q x:aq}(h1:yT a1 a2 b1 b2 S (d*bw S) t1 p)(h2:yT a1 a2 b1 b2 S (d*bw S) t2 q)(hm:rH S p q u x):yT a1 a2 b1 b2 S ((d+1)*bw S) (t1+u*(t2-t1)) x :=
 ⟨Se h1.1 h2.1 hm.1.1 hm.1.2 hm.2.1,Se h1.2 h2.2 hm.1.1 hm.1.2 hm.2.2⟩
theorem agq{a1 a2 b1 b2 S:Int}{f g t:Rat}{v:aq}(yk:f≤g)(h:yT a1 a2 b1 b2 S f t v):yT a1 a2 b1 b2 S g t v:=⟨Sf yk h.1,Sf yk h.2⟩
theorem sD{a b:Int}:bw a≤bw b↔a≤b:=Rat.intCast_le_intCast
theorem Lm{a b:Int}:bw a<bw b↔a<b:=Rat.intCast_lt_intCast
theorem rf{a:Int}(h:0<a):0<bw a:=by have:=Lm.2 h;simpa [bw] using this
theorem Gp{a b:Int}(h:a<b):bw a+1≤bw b:=by
 have:=sD.2 (show a+1≤b from h);simpa [bw,tX] using this
theorem RQ{S p q x y:Int}{u w:Rat}(hS:0<S)(ab:oF (bw S) (bw p) (bw q) (bw x) u)(ai:oF (bw S) (bw p) (bw q) (bw y) w)(me:x<y)(jb:p≤q):u≤w:=by
 have eF:=rf hS;obtain⟨da,de⟩:=ab;obtain⟨jJ,mr⟩:=ai;have h1:=Gp me;have h2:=sD.2 jb;have bB:=lu (Rat.le_of_lt eF) (show 0≤bw y-(bw x+1) by grind);refine Rat.not_lt.1 fun adD => ?_;have cl:=lu (show 0≤u-w by grind) (lu (Rat.le_of_lt eF) (show 0≤bw q-bw p by grind));grind
theorem RP{S p q x y:Int}{u w:Rat}(hS:0<S)(ab:oF (bw S) (bw p) (bw q) (bw x) u)(ai:oF (bw S) (bw p) (bw q) (bw y) w)(me:y<x)(jb:q≤p):u≤w:=by
 have eF:=rf hS;obtain⟨da,de⟩:=ab;obtain⟨jJ,mr⟩:=ai;have h1:=Gp me;have h2:=sD.2 jb;have bB:=lu (Rat.le_of_lt eF) (show 0≤bw x-(bw y+1) by grind);refine Rat.not_lt.1 fun adD => ?_;have cl:=lu (show 0≤u-w by grind) (lu (Rat.le_of_lt eF) (show 0≤bw p-bw q by grind));grind
theorem FO{S p q x y:Int}{u w:Rat}(hS:0<S)(ab:oF (bw S) (bw p) (bw q) (bw x) u)(ai:oF (bw S) (bw p) (bw q) (bw y) w)(tx:u≤w)(jb:p≤q):x≤y:=by
 have eF:=rf hS;obtain⟨da,de⟩:=ab;obtain⟨jJ,mr⟩:=ai;refine Int.not_lt.1 fun Kb => ?_;have h1:=Gp Kb;have h2:=sD.2 jb;have bB:=lu (Rat.le_of_lt eF) (show 0≤bw x-(bw y+1) by grind);have cl:=lu (show 0≤w-u by grind) (lu (Rat.le_of_lt eF) (show 0≤bw q-bw p by grind));grind
theorem FN{S p q x y:Int}{u w:Rat}(hS:0<S)(ab:oF (bw S) (bw p) (bw q) (bw x) u)(ai:oF (bw S) (bw p) (bw q) (bw y) w)(tx:u≤w)(jb:q≤p):y≤x:=by
 have eF:=rf hS;obtain⟨da,de⟩:=ab;obtain⟨jJ,mr⟩:=ai;refine Int.not_lt.1 fun Kb => ?_;have h1:=Gp Kb;have h2:=sD.2 jb;have bB:=lu (Rat.le_of_lt eF) (show 0≤bw y-(bw x+1) by grind);have cl:=lu (show 0≤w-u by grind) (lu (Rat.le_of_lt eF) (show 0≤bw p-bw q by grind));grind
theorem RN{S p q:Int}(hS:0<S):oF (bw S) (bw p) (bw q) (bw p) 0:=by
 have eF:=rf hS
 constructor <;> grind
theorem RO{S p q:Int}(hS:0<S):oF (bw S) (bw p) (bw q) (bw q) 1:=by
 have eF:=rf hS
 constructor <;> grind
theorem FM{S p q x:Int}{u:Rat}(hS:0<S)(aF:0≤u)(h1:u≤1)(ab:oF (bw S) (bw p) (bw q) (bw x) u):(p≤q→p≤x∧x≤q)∧(q≤p→q≤x∧x≤p) :=
 ⟨fun h=>⟨FO hS (RN hS) ab aF h,FO hS ab (RO hS) h1 h⟩,fun h=>⟨FN hS ab (RO hS) h1 h,FN hS (RN hS) ab aF h⟩⟩
theorem RJ{S:Int}{p q x y:aq}{u w:Rat}(hS:0<S)(ab:rH S p q u x)(ai:rH S p q w y)(h:dX (decide (S*q.1<S*p.1)) (decide (S*q.2<S*p.2)) x y=true):u≤w:=by
 have aI:(S*q.1<S*p.1)↔q.1<p.1:=⟨fun h=>Int.lt_of_mul_lt_mul_left h (by omega),fun h=>Int.mul_lt_mul_of_pos_left h hS⟩;have aN:(S*q.2<S*p.2)↔q.2<p.2:=⟨fun h=>Int.lt_of_mul_lt_mul_left h (by omega),fun h=>Int.mul_lt_mul_of_pos_left h hS⟩;rw[Aa] at h;simp only[cS,aI,aN] at h;rcases h with h|⟨he,h⟩
 ·by_cases g:q.1<p.1
  ·rw[if_pos g] at h;exact RP hS ab.2.1 ai.2.1 h (by omega)
  ·rw[if_neg g] at h;exact RQ hS ab.2.1 ai.2.1 h (by omega)
 ·by_cases g:q.2<p.2
  ·rw[if_pos g] at h;exact RP hS ab.2.2 ai.2.2 h (by omega)
  ·rw[if_neg g] at h;exact RQ hS ab.2.2 ai.2.2 h (by omega)
theorem acZ{a b l n d u:Rat}(d0:0<d)(hu:u*d=n)(h:0≤(2*a-l)*(d-n)+(2*b-l)*n):l≤2*(a+u*(b-a)):=by
 subst hu;refine Rat.not_lt.1 fun bb => ?_;have k:=Rat.mul_pos d0 (show 0<l-2*(a+u*(b-a)) by grind);grind
theorem ac0{a b l n d u:Rat}(d0:0<d)(hu:u*d=n)(h:0<(l-2*a)*(d-n)+(l-2*b)*n):2*(a+u*(b-a))<l:=by
 subst hu;refine Rat.not_le.1 fun bb => ?_;have k:=lu (Rat.le_of_lt d0) (show 0≤2*(a+u*(b-a))-l by grind);grind
theorem Gn{n d:Int}(hd:0<d):bw n/bw d*bw d=bw n:=Rat.div_mul_cancel (by have:=rf hd;grind)
theorem P4{a b l:Int}{n d:Int}(hd:0<d)(h:kF (2*a-l) (2*b-l) true n d):bw l≤2*(bw a+bw n/bw d*(bw b-bw a)):=by
 have h1:0≤(2*a-l)*(d-n)+(2*b-l)*n:=by rcases h with h|⟨_,h⟩ <;> omega
 refine acZ (rf hd) (Gn hd) ?_;have:=sD.2 h1;simpa [bw,tX,Rat.intCast_mul,Rat.intCast_sub] using this
theorem P5{a b l:Int}{n d:Int}(hd:0<d)(h:kF (l-2*a) (l-2*b) false n d):2*(bw a+bw n/bw d*(bw b-bw a))<bw l:=by
 have h1:0<(l-2*a)*(d-n)+(l-2*b)*n:=by
  rcases h with h|⟨h,_⟩
  ·exact h
  ·cases h
 refine ac0 (rf hd) (Gn hd) ?_;have:=Lm.2 h1;simpa [bw,tX,Rat.intCast_mul,Rat.intCast_sub] using this
theorem afN{r:Nat}(ao:r≤28){p q x:aq}(h:sj (2^r*p.1) (2^r*p.2) (2^r*q.1) (2^r*q.2) r x=true):dU r x.1 x.2=true∧∃u,rH (2^r) p q u x:=by
 unfold sj at h;rw[Jv ao] at h;refine⟨h.1,?_⟩;obtain⟨_,n,d,hd,⟨Bh,wK⟩,g1,g2,g3,g4⟩:=Kz.1 h.2;have d0:=rf hd;refine⟨bw n/bw d,⟨?_,?_⟩,⟨?_,?_⟩,?_,?_⟩
 ·refine Rat.not_lt.1 fun bb => ?_;have k:=Rat.mul_pos d0 (show 0 < -(bw n/bw d) by grind);have e:=Gn (n:=n) hd;have gE:=sD.2 Bh;have z:bw 0=0:=by simp[bw]
  rw[z] at gE;generalize bw n/bw d=u at *;grind
 ·refine Rat.not_lt.1 fun bb => ?_;have k:=Rat.mul_pos d0 (show 0<bw n/bw d-1 by grind);have e:=Gn (n:=n) hd;have fC:=sD.2 wK;generalize bw n/bw d=u at *;grind
 ·have:=P4 hd g1;simpa [bw,tX,Rat.intCast_mul,Rat.intCast_sub] using this
 ·have:=P5 hd g3;simpa [bw,tX,Rat.intCast_mul,Rat.intCast_sub] using this
 ·have:=P4 hd g2;simpa [bw,tX,Rat.intCast_mul,Rat.intCast_sub] using this
 ·have:=P5 hd g4;simpa [bw,tX,Rat.intCast_mul,Rat.intCast_sub] using this
def qN(p q:aq)(out:List aq)(x:aq):List aq:=if x≠p∧x≠q∧out.getLast?≠some x then out++[x] else out
def Og(p q:aq)(l:List aq):List aq:=l.foldl (qN p q) []
theorem QN{fx fy:Bool}{q:aq}:∀ {l:List aq},l.Pairwise (fun a b=>dX fx fy b a=false)→(nx fx fy q l).Pairwise fun a b=>dX fx fy b a=false
 | [],_=>by unfold nx;simp
 | p::l,h=>by
  have ak:=j9.1 h;unfold nx
  split
  ·rename_i aj;refine j9.2 ⟨fun r ao => ?_,h⟩;rcases fe.1 ao with rfl|ao
   ·exact M4 aj
   ·cases aY:dX fx fy r q with
    | false=>rfl
    | true=>have:=ak.1 r ao;rw[Ab aY aj] at this;cases this
  ·rename_i aj;refine j9.2 ⟨fun r ao => ?_,QN ak.2⟩;rcases fe.1 ((BH fx fy q l).mem_iff.1 ao) with rfl|ao
   ·simpa using aj
   ·exact ak.1 r ao
theorem akB(fx fy:Bool)(f:aq→Bool)(l:List aq):(sK fx fy f l).Pairwise fun a b=>dX fx fy b a=false:=by
 have key:∀(l out:List aq),out.Pairwise (fun a b=>dX fx fy b a=false)→(l.foldl (fun out q=>if f q then nx fx fy q out else out) out).Pairwise fun a b=>dX fx fy b a=false:=by
  intro l
  induction l with
  | nil=>intro out h;exact h
  | cons q l ck =>
   intro out h;rw[tR];refine ck _ ?_
   split
   ·exact QN h
   ·exact h
 exact key l [] .nil
theorem Ia{fx fy:Bool}{p q:aq}:∀(l out:List aq),k5 fx fy out→(∀a∈out,∀b∈l,dX fx fy b a=false)→l.Pairwise (fun a b=>dX fx fy b a=false)→k5 fx fy (l.foldl (qN p q) out)∧(∀x∈l.foldl (qN p q) out,x∈out∨(x∈l∧x≠p∧x≠q))∧(l.foldl (qN p q) out).length≤out.length+l.length
 | [],out,h,_,_=>⟨h,fun x ab => .inl ab,cH _⟩
 | x::l,out,h,hw,al=>by
  have ak:=j9.1 al;rw[tR]
  by_cases ab:x≠p∧x≠q∧out.getLast?≠some x
  ·have e:qN p q out x=out++[x]:=by unfold qN;rw[if_pos ab]
   rw[e]
   have aX:k5 fx fy (out++[x]):=by
    unfold k5;rw[List.pairwise_append];refine⟨h,List.pairwise_singleton _ _,fun a aX b aa => ?_⟩;rw[jD] at aa;subst aa;have h1:=hw a aX b (hn ..)
    by_cases o4:a=b
    ·subst o4;rcases List.eq_nil_or_concat out with aF|⟨fM,z,aF⟩
     ·subst aF;cases aX
     ·rw[List.concat_eq_append] at aF;subst aF;have aR:z≠a:=fun aY=>ab.2.2 (by rw[aY];simp)
      have tl:a∈fM:=by
       rcases j7.1 aX with aJ|aJ
       ·exact aJ
       ·exact absurd (jD.1 aJ).symm aR
      have h2:=(List.pairwise_append.1 h).2.2 a tl z (jD.2 rfl);have ar:=hw z (by simp) a (hn ..);rw[h2] at ar;cases ar
    ·exact(HE o4).resolve_right (by rw[h1];decide)
   obtain⟨g1,g2,g3⟩:=Ia l (out++[x]) aX (fun a tl b aa=>by
    rcases j7.1 tl with aJ|aJ
    ·exact hw a aJ b (kU _ aa)
    ·rw[jD.1 aJ];exact ak.1 b aa) ak.2
   refine⟨g1,fun y ai => ?_,by rw[cY,List.length_singleton] at g3;simp only[hJ];omega⟩;rcases g2 y ai with aJ|aJ
   ·rcases j7.1 aJ with aJ|aJ
    ·exact .inl aJ
    ·rw[jD.1 aJ];exact .inr ⟨hn ..,ab.1,ab.2.1⟩
   ·exact .inr ⟨kU _ aJ.1,aJ.2⟩
  ·have e:qN p q out x=out:=by unfold qN;rw[if_neg ab]
   rw[e];obtain⟨g1,g2,g3⟩:=Ia l out h (fun a tl b aa=>hw a tl b (kU _ aa)) ak.2;refine⟨g1,fun y ai => ?_,by simp only[hJ];omega⟩;rcases g2 y ai with aJ|aJ
   ·exact .inl aJ
   ·exact .inr ⟨kU _ aJ.1,aJ.2⟩
def sZ(r:Nat)(l:List aq)(p q:aq):List aq:=Og p q (sK (decide ((2:Int)^r*q.1<2^r*p.1)) (decide ((2:Int)^r*q.2<2^r*p.2)) (sj (2^r*p.1) (2^r*p.2) (2^r*q.1) (2^r*q.2) r) l)
theorem DM{r:Nat}(ao:r≤28)(l:List aq)(p q:aq):k5 (decide ((2:Int)^r*q.1<2^r*p.1)) (decide ((2:Int)^r*q.2<2^r*p.2)) (sZ r l p q)∧(∀x∈sZ r l p q,(x≠p∧x≠q)∧dU r x.1 x.2=true∧∃u,rH (2^r) p q u x)∧(sZ r l p q).length≤l.length:=by
 obtain⟨g1,g2,g3⟩:=Ia (p:=p) (q:=q) _ [] (List.Pairwise.nil:k5 (decide ((2:Int)^r*q.1<2^r*p.1)) (decide ((2:Int)^r*q.2<2^r*p.2)) []) (fun a aX=>by cases aX) (akB _ _ (sj (2^r*p.1) (2^r*p.2) (2^r*q.1) (2^r*q.2) r) l);refine⟨g1,fun x ab => ?_,?_⟩
 ·rcases g2 x ab with h|⟨h1,h2⟩
  ·cases h
  ·have ar:=(List.mem_filter.1 ((GJ _ _ _ l).mem_iff.1 h1)).2;exact⟨h2,afN ao ar⟩
 ·refine eL g3 ?_;rw[List.length_nil,iR];exact akA _ _ _ l
def gj(R:aq→aq→Prop):List aq→Prop
 | p::q::W=>R p q∧gj R (q::W)
 | _=>True
theorem H4{R:aq→aq→Prop}:∀ {l:List aq},l.Pairwise R→gj R l
 | [],_=>trivial
 | [_],_=>trivial
 | p::q::W,h=>by
  have ak:=j9.1 h;exact⟨ak.1 q (hn ..),H4 ak.2⟩
theorem H3{R:aq→aq→Prop}{q:aq}{W:List aq}:∀ {A:List aq},gj R (A++[q])→gj R (q::W)→gj R (A++q::W)
 | [],_,h=>h
 | [a],h,aJ=>⟨h.1,aJ⟩
 | a::b::A,h,aJ=>⟨h.1,H3 (A:=b::A) h.2 aJ⟩
theorem DN{r:Nat}(ao:r≤28)(l:List aq)(p q:aq){R:aq→aq→Prop}(aF:R p q)(h1:∀x,(∃u,rH (2^r) p q u x)→R p x∧R x q)(h2:∀x y u w,rH (2^r) p q u x→rH (2^r) p q w y→u≤w→R x y):gj R (p::(sZ r l p q++[q])):=by
 obtain⟨s1,s2,_⟩:=DM ao l p q;have hS:(0:Int)<2^r:=jj (by decide);refine H4 (j9.2 ⟨fun x ab => ?_,List.pairwise_append.2 ⟨s1.imp_of_mem fun{x y} ab ai me => ?_,List.pairwise_singleton _ _,fun x ab y ai => ?_⟩⟩)
 ·rcases j7.1 ab with ab|ab
  ·exact(h1 x (s2 x ab).2.2).1
  ·rw[jD.1 ab];exact aF
 ·obtain⟨u,hu⟩:=(s2 x ab).2.2;obtain⟨w,hw⟩:=(s2 y ai).2.2;exact h2 x y u w hu hw (RJ hS hu hw me)
 ·rw[jD.1 ai];exact(h1 x (s2 x ab).2.2).2
theorem YD{r:Nat}(ao:r≤28)(l:List aq)(p q:aq)(h:p≠q):gj (· ≠ ·) (p::(sZ r l p q++[q])):=by
 obtain⟨s1,s2,_⟩:=DM ao l p q;refine H4 (j9.2 ⟨fun x ab => ?_,List.pairwise_append.2 ⟨s1.imp fun{x y} me e => ?_,List.pairwise_singleton _ _,fun x ab y ai => ?_⟩⟩)
 ·rcases j7.1 ab with ab|ab
  ·exact fun e=>(s2 x ab).1.1 e.symm
  ·rw[jD.1 ab];exact h
 ·subst e;rw[M5] at me;cases me
 ·rw[jD.1 ai];exact(s2 x ab).1.2
def xm(r:Nat)(V:List aq)(D:List Int):Prop :=
 V≠[]∧V.length=D.length+1∧(∀v∈V,dU r v.1 v.2=true)∧gj (· ≠ ·) V∧(∀d∈D,1≤d∧d≤1048576) ∧
  (gj (fun p q=>p.1≤q.1) V∨gj (fun p q=>q.1≤p.1) V)∧(gj (fun p q=>p.2≤q.2) V∨gj (fun p q=>q.2≤p.2) V)
def GK(V:List aq)(j:Nat)(l:List aq):List aq:=V.take (j+1)++l++V.drop (j+1)
def CJ(D:List Int)(j:Nat)(n:Nat):List Int:=D.take j++List.replicate (n+1) (D.getD j 0+1)++D.drop (j+1)
theorem ZP{V:List aq}{j:Nat}{p q:aq}(hp:V[j]?=some p)(aj:V[j+1]?=some q):V.drop j=p::q::V.drop (j+2):=by
 obtain⟨h1,aI⟩:=br.1 hp;obtain⟨h2,aN⟩:=br.1 aj;rw[jE h1,aI,jE h2,aN]
end Go.Proofs.YtklpfooafbjnpaaGreat
namespace Go.Proofs.YtklpfooafbjnpaaGreat
open Go.RowKit
def qi(a b c d:Int):Int:=if dG a b c d=true then 0 else if a<c∨(a=c∧b<d) then -1 else 1
theorem aib{a b c d:Int}:aO ah 276 [bn a b,bn c d] (aL (qi a b c d)):=by
 have cs:(dG a b c d=true∧qi a b c d=0)∨(dG a b c d=false∧a<c∧qi a b c d = -1)∨(dG a b c d=false∧¬a<c∧a=c∧b<d∧qi a b c d = -1)∨(dG a b c d=false∧¬a<c∧a=c∧¬b<d∧qi a b c d=1)∨(dG a b c d=false∧¬a<c∧¬a=c∧qi a b c d=1):=by
  unfold qi;cases h:dG a b c d with
  | true=>simp
  | false =>
   by_cases h1:a<c <;> by_cases h2:a=c <;> by_cases ar:b<d <;> simp[h1,h2,ar] <;> omega
 rcases cs with ⟨h1,h⟩|⟨h1,h2,h⟩|⟨h1,h2,ar,aK,h⟩|⟨h1,h2,ar,aK,h⟩|⟨h1,h2,ar,h⟩ <;> rw[h] <;> clear h
 all_goals
  refine bq (f:=276) Tryz.func276 rfl rfl rfl rfl ?_;(repeat first|refine db ?_|(with_reducible apply bT (c:=true));rfl;rfl;(exact ca (by omega))|(with_reducible apply bT (c:=false));rfl;rfl;(exact cm (by omega)))
  ((refine bm rfl (aZ rfl aM) ?_))
  exact ag.aV.refl _
end Go.Proofs.YtklpfooafbjnpaaGreat
