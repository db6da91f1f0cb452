/-
  My own texts,without what this claim does not need. My own text.
-/
import Derived.Deep.DrawnRows
import Derived.RegionTactic
import Derived.Deep.LoopGhost
import Derived.Deep.DeepCutAuto
import Derived.Test.YtklpfooafbjnpaaGreatProg
import Derived.ProofKit
import Derived.OpenShut
import Derived.Deep.DeepHandedRow
import Derived.Lib.LaidTab
import Derived.Lib.SmallJoins
import Derived.Test.YtklpfooafbjnpaaGreatSLRoomsK8
set_option maxRecDepth 100000
set_option maxHeartbeats 64000000
set_option linter.unusedVariables false
set_option linter.unusedSimpArgs false
set_option linter.unusedSectionVars false
open Go.Proofs.Tryz renaming prog → ah
namespace Go.Proofs.YtklpfooafbjnpaaGreat
open Go.RowKit
def ik(w:World)(b:Nat)(u v x y:Value):Prop:=(w.cell? ⟨b,0,none⟩=some u∧w.cell? ⟨b,1,none⟩=some v∧w.cell? ⟨b,2,none⟩=some x∧w.cell? ⟨b,3,none⟩=some y)∧(w.frozen? ⟨b,0,none⟩=false∧w.frozen? ⟨b,1,none⟩=false∧w.frozen? ⟨b,2,none⟩=false∧w.frozen? ⟨b,3,none⟩=false)
section
variable{w W w1:World}{b g:Nat}{u v x y q:Value}
theorem ik.lt(h:ik w b u v x y):b<w.heap.size:=World.block_lt_of_cell? w _ h.1.1
theorem ik.call(h:ik W b u v x y)(aa:Below W.heap.size W w1):ik w1 b u v x y:=by
 have al:=h.lt;obtain⟨⟨h1,h2,ar,aJ⟩,bD,cp,jE,lA⟩:=h;exact⟨⟨(aa.cell (p:=⟨b,0,none⟩) al).trans h1,(aa.cell (p:=⟨b,1,none⟩) al).trans h2,(aa.cell (p:=⟨b,2,none⟩) al).trans ar,(aa.cell (p:=⟨b,3,none⟩) al).trans aJ⟩,(aa.frozen (p:=⟨b,0,none⟩) al).trans bD,(aa.frozen (p:=⟨b,1,none⟩) al).trans cp,(aa.frozen (p:=⟨b,2,none⟩) al).trans jE,(aa.frozen (p:=⟨b,3,none⟩) al).trans lA⟩
theorem ik.alloc(h:ik W b u v x y)(o:Obj):ik (W.alloc o) b u v x y:=h.call ((Below.refl _ _).alloc (cF _) o)
theorem ik.drew(h:ik W b u v x y):ik W.drew b u v x y:=h.call ((Below.refl _ _).drew)
theorem ik.new{t:TypeId}(e:b=W.heap.size):ik (W.alloc (.cells #[u,v,x,y] t)) b u v x y:=by
 subst e;unfold ik
 go_simp
theorem ik.set(h:ik W b u v x y)(o:Nat)(ne:g≠b):ik (W.setCell ⟨g,o,none⟩ q) b u v x y:=by
 obtain⟨⟨h1,h2,ar,aJ⟩,bD,cp,jE,lA⟩:=h;have gL:∀i,(⟨g,o,none⟩:Addr)≠⟨b,i,none⟩:=fun i e=>ne (congrArg Addr.block e);refine⟨⟨?_,?_,?_,?_⟩,?_,?_,?_,?_⟩
 ·rw[World.cell?_setCell_other _ _ _ _ (gL 0)];exact h1
 ·rw[World.cell?_setCell_other _ _ _ _ (gL 1)];exact h2
 ·rw[World.cell?_setCell_other _ _ _ _ (gL 2)];exact ar
 ·rw[World.cell?_setCell_other _ _ _ _ (gL 3)];exact aJ
 ·go_simp
 ·go_simp
 ·go_simp
 ·go_simp
end
section
variable{W:World}{b:Nat}{u v x y rP ba:Value}
end
theorem aeI(d:Int):decide (0<fm d 0)=decide (0<d):=by
 unfold fm;rw[o6];simp only[cU]
 repeat' split
 all_goals omega
end Go.Proofs.YtklpfooafbjnpaaGreat
namespace Go.Proofs.YtklpfooafbjnpaaGreat
open Go.RowKit
attribute [local go_sem ↓] Go.wp_at_zero Go.wp_at_succ
def oX(n d:Int):Int:=if n % d<d-n % d then n/d else n/d+1
theorem SH{n d:Int}(aA:fits n=true)(hd:0<d)(Bw:fits d=true):fits (d-n % d)=true∧(d-n % d≤n % d→fits (n/d+1)=true):=by
 unfold fits at *;rw[cU] at aA Bw;have aF:=pE n (show d≠0 by omega);have h1:=o7 n hd;have h2:=rD n d;rw[cU,cU];refine⟨by omega,fun hle => ?_⟩;have yK:2≤d:=by omega
 have q1:n/d*2≤170141183460469231731687303715884105727 ∧ -170141183460469231731687303715884105728≤n/d:=by
  refine⟨?_,?_⟩
  ·rcases qC (n/d) 0 with q|q
   ·omega
   ·have:n/d*2≤n/d*d:=s0 yK q;rw[k6 (n/d) d] at this;omega
  ·rcases qC (n/d) 0 with q|q
   ·have:d*(n/d+1)≤1*(n/d+1):=Int.mul_le_mul_of_nonpos_right (by omega) (by omega);rw[Int.mul_add] at this;omega
   ·omega
 omega
end Go.Proofs.YtklpfooafbjnpaaGreat
namespace Go.Proofs.YtklpfooafbjnpaaGreat
open Go.RowKit
attribute [local go_sem ↓] Go.wp_at_zero Go.wp_at_succ
end Go.Proofs.YtklpfooafbjnpaaGreat
namespace Go.Proofs.YtklpfooafbjnpaaGreat
open Go.RowKit
attribute [local go_sem ↓] Go.wp_at_zero Go.wp_at_succ
theorem ik.cs{w:World}{b:Nat}{u v x y:Value}(h:ik w b u v x y):w.cell? ⟨b,0,none⟩=some u∧w.cell? ⟨b,1,none⟩=some v∧w.cell? ⟨b,2,none⟩=some x∧w.cell? ⟨b,3,none⟩=some y:=h.1
def ng(n d:Int)(k:Nat):Int:=if k=0 then oX n d else oX (n/d) (2^k)
theorem T1{k:Nat}(h:k≤100):fits ((2:Int)^k)=true:=by
 have h1:=Nat.pow_le_pow_right (show 0<2 by decide) h;rw[show (2:Nat)^100=1267650600228229401496703205376 by decide] at h1;have h2:=(ajG k).1;have e:((2:Int)^k)=((2^k:Nat):Int):=by simp
 unfold fits;rw[e,cU];generalize (2:Nat)^k=P at *;omega
end Go.Proofs.YtklpfooafbjnpaaGreat
namespace Go.Proofs.YtklpfooafbjnpaaGreat
open Go.RowKit
attribute [local go_sem ↓] Go.wp_at_zero Go.wp_at_succ
end Go.Proofs.YtklpfooafbjnpaaGreat
namespace Go.Proofs.YtklpfooafbjnpaaGreat
open Go.RowKit
attribute [local go_sem ↓] Go.wp_at_zero Go.wp_at_succ
end Go.Proofs.YtklpfooafbjnpaaGreat
namespace Go.Proofs.YtklpfooafbjnpaaGreat
open Go.RowKit
attribute [local go_sem ↓] Go.wp_at_zero Go.wp_at_succ
section
variable{w W w1:World}{g c3:Nat}{a b c d s t:Int}
end
end Go.Proofs.YtklpfooafbjnpaaGreat
namespace Go.Proofs.YtklpfooafbjnpaaGreat
open Go.RowKit
theorem x4{z:Int}(h:fits z=true):wf z = .cl [ou z,MC]:=by
 show ag.cl [ou (if fits z then z else 0),.one (.c (.bool (fits z)))]=_;rw[h];rfl
theorem Wp{z:Int}(h:fits z=false):wf z = .cl [ou 0,.one (.c (.bool false))]:=by
 show ag.cl [ou (if fits z then z else 0),.one (.c (.bool (fits z)))]=_;rw[h];rfl
theorem Rh(a b:Int):fm a b<0↔a<b:=by unfold fm;split <;> (try split) <;> omega
theorem TG{n d:Int}(f:fits n=true)(g:fits d=true)(hd:0<d):aP ah 304 [gF n,gF d] (gF (oX n d)):=by
 obtain⟨fG,gC⟩:=SH f hd g;have pj:=kS.1 f;have lP:=kS.1 g;have hB:=pE n (show d≠0 by omega);have cf:=o7 n hd;have u5:fits (n % d)=true:=kS.2 (by omega);have a8:=Tn f g hd;have bL:=TR g u5;have eb:=ajm u5 fG;rw[x4 fG] at bL;unfold oX
 by_cases h:n % d<d-n % d
 ·have ar:fm (n % d) (d-n % d)<0:=(Rh ..).2 h;have nr:oX n d=n/d:=by unfold oX;first|rw[if_pos h]|(split <;> omega)
  unfold oX at nr;rw[nr];generalize fm (n % d) (d-n % d)=c at *;generalize n/d=q at *;generalize n % d=r at *;clear nr fG gC pj lP hB cf u5 f g;refine bp (f:=304) Tryz.func304 rfl rfl rfl rfl ?_;(refine cI ?_)
  ((refine bk rfl (c7 rfl rfl rfl aM) ?_))
  exact ag.aU.refl _
 ·have ar:¬fm (n % d) (d-n % d)<0:=fun aZ=>h ((Rh ..).1 aZ);have nr:oX n d=n/d+1:=by unfold oX;first|rw[if_neg h]|(split <;> omega)
  unfold oX at nr;rw[nr];have f5:=gC (by omega)
  have Py:fits (n/d)=true:=by
   have q1:=rD n d;have bR:=kS.1 f5;refine kS.2 ?_
   by_cases aA:0≤n
   ·have:=o8 aA (show 0≤d by omega);omega
   ·have fb:n*d≤n*1:=Int.mul_le_mul_of_nonpos_left (show n≤0 by omega) (show 1≤d by omega);have:=(pG (a:=n) (b:=n) hd).2 (by omega);omega
  have jx:=vG (n:=1) (by decide) (by decide);have pc:=ajl Py (show fits 1=true by decide);rw[x4 f5] at pc;generalize fm (n % d) (d-n % d)=c at *;generalize n/d=q at *;generalize n % d=r at *;clear nr fG gC pj lP hB cf u5 f g Py f5;refine bp (f:=304) Tryz.func304 rfl rfl rfl rfl ?_;(refine cI ?_)
  ((refine bk rfl (c7 rfl rfl rfl aM) ?_))
  exact ag.aU.refl _
abbrev ET(n d:Int):bG := .agg [.c (.int .i64 (cx n)),.c (.int .u64 (dV n)),.c (.int .i64 (cx d)),.c (.int .u64 (dV d))]
abbrev fv(n d:Int):ag := .w (ET n d)
abbrev fx(n d:Int):Value := .agg #[.int .i64 (cx n),.int .u64 (dV n),.int .i64 (cx d),.int .u64 (dV d)]
abbrev uF(n:Int):Value := .agg #[.int .i64 (cx n),.int .u64 (dV n)]
theorem Rg(d:Int):(d<0→fm d 0 = -1)∧(d=0→fm d 0=0)∧(0<d→fm d 0=1):=by unfold fm;refine⟨fun h => ?_,fun h => ?_,fun h => ?_⟩ <;> split <;> (try split) <;> omega
section
set_option maxRecDepth 100000
set_option maxHeartbeats 4000000
theorem Tu{k:Int}(aF : -9223372036854775808≤k)(h1:k<9223372036854775808):aP ah 244 [aL k] (fv k 1):=by
 have a8:=vG aF h1;have bL:=vG (n:=1) (by decide) (by decide);clear aF h1;refine bp (f:=244) Tryz.func244 rfl rfl rfl rfl ?_;(refine cI ?_)
 ((refine bk rfl (c7 rfl rfl rfl aM) ?_))
 exact ag.aU.refl _
theorem aib{n d:Int}(f:fits n=true)(g:fits d=true)(hd:0<d):aP ah 247 [gF n,gF d] (.cl [ET n d,.one (.c (.bool true))]):=by
 have a8:=GI g;rw[(Rg d).2.2 hd] at a8;clear f g hd;refine bp (f:=247) Tryz.func247 rfl rfl rfl rfl ?_;(refine cI ?_)
 ((refine bk rfl (c7 rfl rfl rfl (aX rfl aM)) ?_))
 exact ag.aU.refl _
theorem aia{n d:Int}(f:fits n=true)(g:fits d=true)(hd:d<0){s:Bool}{x y:Int}(hs:(fits (-n)&&fits (-d))=s)(ab:x=if s then -n else 0)(ai:y=if s then -d else 0):aP ah 247 [gF n,gF d] (.cl [ET x y,.one (.c (.bool s))]):=by
 have a8:=GI g;rw[(Rg d).1 hd] at a8;have bL:=TQ f;have eb:=TQ g;subst hs;clear f g hd;cases h1:fits (-n) with
 | true =>
  rw[h1] at ab ai;cases h2:fits (-d) with
  | true =>
   rw[h2] at ab ai;rw[x4 h1] at bL;rw[x4 h2] at eb;obtain rfl:x = -n:=ab;obtain rfl:y = -d:=ai;clear h1 h2;refine bp (f:=247) Tryz.func247 rfl rfl rfl rfl ?_;(refine cI ?_)
   ((refine bk rfl (c7 rfl rfl rfl (aX rfl aM)) ?_))
   exact ag.aU.refl _
  | false =>
   rw[h2] at ab ai;rw[x4 h1] at bL;rw[Wp h2] at eb;obtain rfl:x=0:=ab;obtain rfl:y=0:=ai;clear h1 h2;refine bp (f:=247) Tryz.func247 rfl rfl rfl rfl ?_;(refine cI ?_)
   ((refine bk rfl (c7 rfl rfl rfl (aX rfl aM)) ?_))
   exact ag.aU.refl _
 | false =>
  rw[h1] at ab ai;rw[Wp h1] at bL;obtain rfl:x=0:=ab;obtain rfl:y=0:=ai;obtain⟨z,b,e⟩:∃z b,wf (-d) = .cl [ou z,.one (.c (.bool b))]:=⟨_,_,rfl⟩;rw[e] at eb;clear h1 e;refine bp (f:=247) Tryz.func247 rfl rfl rfl rfl ?_;(refine cI ?_)
  ((refine bk rfl (c7 rfl rfl rfl (aX rfl aM)) ?_))
  exact ag.aU.refl _
theorem Tq{n d:Int}(g:fits d=true):aP ah 303 [fv n d] (bl (decide (0<d))):=by
 have a8:=GI g;rw[←aeI d];generalize fm d 0=c at *;clear g;refine bp (f:=303) Tryz.func303 rfl rfl rfl rfl ?_;(refine cI ?_)
 ((refine bk rfl (aX rfl aM) ?_))
 exact ag.aU.refl _
theorem ah4{n d:Int}(f:fits n=true)(g:fits d=true)(hd:0<d):aP ah 306 [fv n d] (gF (n/d)):=by
 have a8:=Tn f g hd;clear f g hd;refine bp (f:=306) Tryz.func306 rfl rfl rfl rfl ?_;(refine cI ?_)
 ((refine bk rfl (c7 rfl rfl rfl aM) ?_))
 exact ag.aU.refl _
theorem I9{n d:Int}(f:fits n=true)(hd:0<d):fits (n/d)=true:=by
 have pj:=kS.1 f;refine kS.2 ?_
 by_cases aA:0≤n
 ·have:=o8 aA (show 0≤d by omega);have:=Int.ediv_le_self d aA;omega
 ·have fb:n*d≤n*1:=Int.mul_le_mul_of_nonpos_left (show n≤0 by omega) (show 1≤d by omega);have:=(pG (a:=n) (b:=n) hd).2 (by omega);have:=Int.ediv_lt_of_lt_mul (a:=n) (b:=0) hd (by omega);omega
theorem Pt{n d:Int}(aA:fits n=true)(hd:0<d)(Bw:fits d=true):fits (oX n d)=true:=by
 unfold oX
 split
 ·exact I9 aA hd
 ·exact(SH aA hd Bw).2 (by omega)
theorem abb{n d:Int}{k:Nat}(aA:fits n=true)(hd:0<d)(Bw:fits d=true)(ae:k≤100):fits (ng n d k)=true:=by
 unfold ng
 split
 ·exact Pt aA hd Bw
 ·exact Pt (I9 aA hd) (ju (by decide)) (T1 ae)
theorem aiQ{n d:Int}{k:Nat}(f:fits n=true)(g:fits d=true)(hd:0<d)(ae:k≤100):aP ah 274 [fv n d,aL k] (.cl [ou (ng n d k),.one (.c (.bool true))]):=by
 have a8:=Tq (n:=n) g;rw[b5 hd] at a8;unfold ng
 by_cases aF:k=0
 ·subst aF;have bL:=TG f g hd;rw[if_pos rfl];clear f g hd;refine bp (f:=274) Tryz.func274 rfl rfl rfl rfl ?_;(refine cI ?_)
  ((refine bk rfl (c7 rfl rfl rfl (aX rfl aM)) ?_))
  exact ag.aU.refl _
 ·rw[if_neg aF];have hp:=T1 ae;have bL:=vG (n:=1) (by decide) (by decide);have eb:=ajn (n:=1) (k:=(k:Int)) (by decide) (by omega) (by omega);rw[Int.one_mul,kH,x4 hp] at eb;have jx:=ah4 f g hd;have pc:=TG (I9 f hd) hp (ju (by decide));have h1:¬(k:Int)=0:=by omega
  have h2:¬(k:Int)<0:=by omega
  have ar:¬(k:Int)>100:=by omega
  clear f g hd hp;refine bp (f:=274) Tryz.func274 rfl rfl rfl rfl ?_;(refine cI ?_)
  ((refine bk rfl (c7 rfl rfl rfl (aX rfl aM)) ?_))
  exact ag.aU.refl _
theorem aiR{n d k:Int}(f:fits n=true)(g:fits d=true)(ly:¬(0<d)∨(k<0∨100<k)):aP ah 274 [fv n d,aL k] (.cl [.agg [.c (.int .i64 0),.c (.int .u64 0)],.one (.c (.bool false))]):=by
 have a8:=Tq (n:=n) g
 by_cases hd:0<d
 ·rw[b5 hd] at a8;have h1:k<0∨(¬k<0∧k>100):=by omega
  clear f g ly hd;rcases h1 with h1|⟨h1,h2⟩
  ·refine bp (f:=274) Tryz.func274 rfl rfl rfl rfl ?_;(repeat first|refine dd ?_|refine fs ?_|(with_reducible apply bT (c:=true));rfl;rfl;(exact b5 (by omega)))
   ((refine bk rfl (c7 rfl rfl rfl (aX rfl aM)) ?_))
   exact ag.aU.refl _
  ·refine bp (f:=274) Tryz.func274 rfl rfl rfl rfl ?_;(repeat first|refine dd ?_|refine fs ?_|(with_reducible apply bT (c:=false));rfl;rfl;(exact b8 (by omega)))
   ((refine bk rfl (c7 rfl rfl rfl (aX rfl aM)) ?_))
   exact ag.aU.refl _
 ·rw[b8 hd] at a8;clear f g ly hd;refine bp (f:=274) Tryz.func274 rfl rfl rfl rfl ?_;(refine cI ?_)
  ((refine bk rfl (c7 rfl rfl rfl (aX rfl aM)) ?_))
  exact ag.aU.refl _
end
theorem SG{n d:Int}(hd:0<d):oX n d=(n+n+d)/(d*2):=by
 have h1:=rD n d;have h2:=pE n (show d≠0 by omega);have ar:=o7 n hd;unfold oX;generalize n/d=q at *;generalize n % d=r at *;have e:n+n+d=(r+r+d)+q*(d*2):=by rw[←h1,k6 q (d*2),k7,Int.mul_left_comm d 2 q];omega
 rw[e,Int.add_mul_ediv_right _ _ (by omega)]
 split
 ·rw[Int.ediv_eq_zero_of_lt (by omega) (by omega)];omega
 ·have:(r+r+d)/(d*2)=1:=by
   rw[show r+r+d=(r+r-d)+1*(d*2) by omega,Int.add_mul_ediv_right _ _ (by omega),Int.ediv_eq_zero_of_lt (by omega) (by omega)];omega
  rw[this];omega
theorem alC{n d:Int}(k:Nat)(hd:0<d):(n+n+d*2^k)/(d*2^(k+1))=ng n d k:=by
 unfold ng;rcases k with _|k
 ·rw[if_pos rfl,SG hd];simp
 ·rw[if_neg (by omega),SG (ju (by decide))];have hp:(0:Int)<2^k:=ju (by decide);rw[Int.pow_succ 2 (k+1),Int.pow_succ 2 k];generalize (2:Int)^k=Q at *
  have aH:(n+n+d*(Q*2))/(d*(Q*2*2))=(n+d*Q)/(d*(Q*2)):=by
   rw[show n+n+d*(Q*2)=2*(n+d*Q) by rw[k6 Q 2,Int.mul_left_comm];omega,show d*(Q*2*2)=2*(d*(Q*2)) by rw[k6 (Q*2) 2,Int.mul_left_comm],Int.mul_ediv_mul_of_pos _ _ (by decide)]
  have aN:(n/d+n/d+Q*2)/(Q*2*2)=(n/d+Q)/(Q*2):=by
   rw[show n/d+n/d+Q*2=2*(n/d+Q) by omega,k6 (Q*2) 2,Int.mul_ediv_mul_of_pos _ _ (by decide)]
  rw[aH,aN,←zw (by omega),k6 d Q,Int.add_mul_ediv_right _ _ (by omega)]
def hj(k:Int)(r:Nat):Prop:=r≤28∧((k<0∧r=0)∨(28<k∧r=28)∨(r:Int)=k)
theorem aeX(k:Int):∃r,hj k r:=by
 by_cases h:k<0
 ·exact⟨0,by omega,.inl ⟨h,rfl⟩⟩
 ·by_cases aK:28<k
  ·exact⟨28,by omega,.inr (.inl ⟨aK,rfl⟩)⟩
  ·exact⟨k.toNat,by omega,.inr (.inr (by omega))⟩
theorem xO{a b:Int}{w w':World}(e:a=b)(h:Below w.heap.size w w'):mC (.int .i64 b) w (.returned (.int .i64 a)) w':=⟨by rw[e],h⟩
theorem zF{a b:Bool}{w w':World}(e:a=b)(h:Below w.heap.size w w'):mC (.bool b) w (.returned (.bool a)) w':=⟨by rw[e],h⟩
theorem Cx(k:Int)(r:Nat)(w:World)(h:hj k r):Calls ah 165 #[.int .i64 k] w (mC (.int .i64 r) w):=by
 have qJ:=Lib.hid h;clear h
 go_enter Tryz.func165,Tryz.ntmps165
 go_wp2
 all_goals
  go_ret
  refine xO ?_ (Below.refl _ _);have h1:=qJ.out;unfold hj at h1;omega
theorem Ww(n:Int)(h : -9223372036854775808≤n∧n≤9223372036854775807):wrap64 n=n:=by unfold wrap64;omega
theorem LO{r:Nat}(h:r≤28):(1:Int)≤2^r∧(2:Int)^r≤268435456:=by
 have h1:=Nat.pow_le_pow_right (show 0<2 by decide) h;have h2:=Nat.pow_pos (show 0<2 by decide) (n:=r);have e:((2:Int)^r)=((2^r:Nat):Int):=by simp
 rw[show (2:Nat)^28=268435456 by decide] at h1;rw[e];omega
def ca(v:Int)(r:Nat):Int:=(2*v+2^r)/(2*2^r)
theorem abW(v:Int):ca v 0=v:=by unfold ca;omega
theorem abV(v:Int)(r:Nat):ca v (r+1)=v/2^(r+1)+v/2^r % 2:=by
 unfold ca;have hp:(0:Int)<2^r:=ju (by decide);rw[Int.pow_succ];generalize (2:Int)^r=P at *
 have aH:(2*v+P*2)/(2*(P*2))=(v+P)/(P*2):=by
  rw[show 2*v+P*2=2*(v+P) by omega,Int.mul_ediv_mul_of_pos _ _ (by decide)]
 rw[aH,←zw (by omega),←zw (by omega),show v+P=v+1*P by omega,Int.add_mul_ediv_right _ _ (by omega)];omega
theorem Zn(x:Int):bits BinOp.and IntKind.i64 x 1=x % 2:=by
 unfold bits
 have h:(BitVec.ofInt 64 x &&& BitVec.ofInt 64 1).toNat=(x % 2).toNat:=by
  rw[BitVec.toNat_and,BitVec.toNat_ofInt,BitVec.toNat_ofInt,show ((1:Int) % ((2^64:Nat):Int)).toNat=1 by decide,Nat.and_one_is_mod];omega
 show IntKind.i64.wrap ((BitVec.ofInt 64 x &&& BitVec.ofInt 64 1).toNat:Int)=x % 2;rw[h];have h2:((x % 2).toNat:Int)=x % 2:=by omega
 rw[h2];rcases (show x % 2=0∨x % 2=1 by omega) with e|e <;> rw[e] <;> decide
theorem alD{v:Int}(r:Nat)(v0 : -9223372036854775808≤v)(v1:v<9223372036854775808):wrap64 (v/2^(r+1)+v/2^r % 2)=ca v (r+1):=by
 rw[abV];refine Ww _ ?_;have hp:(0:Int)<2^r:=ju (by decide);rw[Int.pow_succ,←zw (by omega)]
 have h1 : -9223372036854775808≤v/2^r:=by
  rw[pG hp];have:=s0 (show (1:Int)≤2^r by omega) (show (0:Int)≤9223372036854775808 by omega);omega
 have h2:v/2^r≤9223372036854775807:=by
  by_cases h:0≤v
  ·have:=Int.ediv_le_self (2^r) h;omega
  ·have:=Int.ediv_neg_of_neg_of_pos (show v<0 by omega) hp;omega
 generalize v/2^r=q at *;omega
theorem abz(v k:Int)(w:World)(h:hj k 0):Calls ah 106 #[.int .i64 v,.int .i64 k] w (mC (.int .i64 v) w):=by
 have qJ:=Lib.hid (fun w=>Cx k 0 w h);clear h
 go_enter Tryz.func106,Tryz.ntmps106
 go_wp2_with (go_at_call 165;((with_reducible refine(qJ.out _).mono ?_);rintro e w1 ⟨rfl,aa⟩))
 go_ret
 exact xO rfl (by(repeat first|with_reducible assumption))
theorem aby(v k:Int)(r:Nat)(w:World)(h:hj k (r+1))(v0 : -9223372036854775808≤v)(v1:v<9223372036854775808):Calls ah 106 #[.int .i64 v,.int .i64 k] w (mC (.int .i64 (ca v (r+1))) w):=by
 have qJ:=Lib.hid (fun w=>Cx k (r+1) w h);have DG:=Lib.hid (alD r v0 v1);have ao:r<28:=by unfold hj at h;omega
 clear h v0 v1
 go_enter Tryz.func106,Tryz.ntmps106
 go_wp2_with (go_at_call 165;((with_reducible refine(qJ.out _).mono ?_);rintro e w1 ⟨rfl,aa⟩))
 go_region
 go_wp2
 go_ret
 exact xO (by rw[Zn];exact DG.out) (by(repeat first|with_reducible assumption|with_reducible refine Below.drew ?_))
theorem abx(v k:Int)(r:Nat)(w:World)(h:hj k r)(v0 : -9223372036854775808≤v)(v1:v<9223372036854775808):Calls ah 106 #[.int .i64 v,.int .i64 k] w (mC (.int .i64 (ca v r)) w):=by
 rcases r with _|r
 ·rw[abW];exact abz v k w h
 ·exact aby v k r w h v0 v1
theorem amy{r:Nat}(h:r≤28):wrap64 (2^r)=2^r:=Ww _ (by have:=LO h;omega)
theorem alp(k:Int)(r:Nat)(w:World)(h:hj k r):Calls ah 252 #[.int .i64 k] w (mC (.int .i64 (2^r)) w):=by
 have qJ:=Lib.hid (fun w=>Cx k r w h);have ao:r≤28:=h.1;clear h
 go_enter Tryz.func252,Tryz.ntmps252
 go_wp2_with (go_at_call 165;((with_reducible refine(qJ.out _).mono ?_);rintro e w1 ⟨rfl,aa⟩))
 go_ret
 exact xO (amy ao) (by(repeat first|with_reducible assumption))
def XO(m:Int)(w:World)(e:Ending)(w':World):Prop:=∃b,e = .returned (.func (Fn.func 253) #[] #[.pointer (some ⟨b,0,none⟩)])∧w'.cell? ⟨b,0,none⟩=some (.int .i64 m)∧Below w.heap.size w w'
theorem SR(k:Int)(r:Nat)(w:World)(h:hj k r):Calls ah 202 #[.int .i64 k] w (XO (134217728/2^r) w):=by
 have qJ:=Lib.hid (fun w=>Cx k r w h);have ao:r≤28:=h.1;clear h
 go_enter Tryz.func202,Tryz.ntmps202
 go_wp2_with (go_at_call 165;((with_reducible refine(qJ.out _).mono ?_);rintro e w1 ⟨rfl,aa⟩))
 go_ret
 exact⟨_,rfl,by go_simp,by(repeat first|with_reducible assumption|with_reducible refine e8 ?_ _)⟩
def wi(m n:Int):Bool:=decide (-m≤n)&&decide (n≤m)
theorem Gl(b:Nat)(m n:Int)(w:World)(ak:w.cell? ⟨b,0,none⟩=some (.int .i64 m))(m0:0≤m)(m1:m≤134217728):Calls ah 253 #[.int .i64 n,.pointer (some ⟨b,0,none⟩)] w (mC (.bool (wi m n)) w):=by
 go_enter Tryz.func253,Tryz.ntmps253
 go_wp2
 ·go_ret
  exact zF (by unfold wi;rw[b5 (show -m≤n by assumption)];rfl) (Below.refl _ _)
 ·go_ret
  exact zF (by unfold wi;rw[b8 (show ¬(-m≤n) by omega)];rfl) (Below.refl _ _)
def dZ(r:Nat)(x y:Int):Bool:=wi (134217728/2^r) x&&wi (134217728/2^r) y
theorem ES(r:Nat):(0:Int)≤134217728/2^r∧(134217728:Int)/2^r≤134217728:=by
 have hp:(0:Int)<2^r:=ju (by decide);exact⟨o8 (by decide) (by omega),Int.ediv_le_self _ (by decide)⟩
theorem Wr(r:Nat)(n:Int):wi (134217728/2^r) n=decide (-134217728≤2^r*n∧2^r*n≤134217728):=by
 have hp:(0:Int)<2^r:=ju (by decide);unfold wi;rw[o6,ef,cU,cU,cU,k6];generalize (2:Int)^r=P at *;have h1:=pG (a:=n) (b:=134217728) hp;have h2:=pG (a := -n) (b:=134217728) hp;rw[Int.neg_mul] at h2
 constructor
 ·intro ⟨q1,q2⟩;exact⟨by have:=h2.1 (by omega);omega,h1.1 q2⟩
 ·intro ⟨q1,q2⟩;exact⟨by have:=h2.2 (by omega);omega,h1.2 q2⟩
theorem FU(r:Nat)(x y:Int):dZ r x y=true↔(-134217728≤2^r*x∧2^r*x≤134217728)∧(-134217728≤2^r*y∧2^r*y≤134217728):=by
 unfold dZ;rw[Wr,Wr,ef,cU,cU]
theorem Xu(x y k:Int)(r:Nat)(w:World)(h:hj k r):Calls ah 145 #[.agg #[.int .i64 x,.int .i64 y],.int .i64 k] w (mC (.bool (dZ r x y)) w):=by
 have qJ:=Lib.hid (fun w=>SR k r w h);obtain⟨m0,m1⟩:=ES r;have Nf:=Lib.hid (show dZ r x y=(wi (134217728/2^r) x&&wi (134217728/2^r) y) from rfl);clear h;generalize (134217728:Int)/2^r=M at *;have Ag:=Lib.hid m0;have Ah:=Lib.hid m1;clear m0 m1
 go_enter Tryz.func145,Tryz.ntmps145
 go_wp2_with (first
  | (go_at_call 202;((with_reducible refine(qJ.out _).mono ?_);rintro e w1 ⟨b,rfl,ak,aa⟩;have WL:e1 w1 (w.heap.size) (.int .i64 x) (.int .i64 y):=(by(repeat first|focus ((with_reducible refine e1.new ?_);simp;done)|with_reducible refine e1.call ?_ aa));obtain⟨⟨am1,ana⟩,anp,ant⟩:=id WL))
  | (go_at_call 253;((with_reducible refine(Gl b M x _ ak Ag.out Ah.out).mono ?_);rintro e w2 ⟨rfl,mf⟩;have fE:=(mf.cell (p:=⟨b,0,none⟩) (World.block_lt_of_cell? _ _ ak)).trans ak;clear ak;have WM:e1 w2 (w.heap.size) (.int .i64 x) (.int .i64 y):=(by(repeat first|with_reducible assumption|with_reducible refine e1.call ?_ mf));obtain⟨⟨am2,anb⟩,anq,anu⟩:=id WM))
  | (go_at_call 253;((with_reducible refine(Gl b M y _ fE Ag.out Ah.out).mono ?_);rintro e w3 ⟨rfl,JJ⟩)))
 ·go_ret
  exact zF (by rw[Nf.out];simp_all) (by(repeat first|with_reducible exact Below.refl _ _|with_reducible refine e8 ?_ _|with_reducible refine hk ?_ JJ|with_reducible refine hk ?_ mf|with_reducible refine hk ?_ aa))
 ·go_ret
  exact zF (by rw[Nf.out];simp_all) (by(repeat first|with_reducible exact Below.refl _ _|with_reducible refine e8 ?_ _|with_reducible refine hk ?_ mf|with_reducible refine hk ?_ aa))
theorem abw(k:Int)(w:World):Calls ah 80 #[.int .i64 k] w (mC (.bool (decide (0≤k)&&decide (k≤28))) w):=by
 go_enter Tryz.func80,Tryz.ntmps80
 go_wp2
 ·go_ret
  exact zF (by rw[b5 (show 0≤k by assumption)];rfl) (Below.refl _ _)
 ·go_ret
  exact zF (by rw[b8 (show ¬(0≤k) by omega)];rfl) (Below.refl _ _)
theorem HF(n m:Int)(w:World):Calls ah 319 #[.int .i64 n,.int .i64 m] w (mC (.int .i64 (fm n m)) w):=by
 go_enter Tryz.func319,Tryz.ntmps319
 go_wp2
 all_goals
  go_ret
  refine xO ?_ (Below.refl _ _);unfold fm
  repeat' split
  all_goals omega
def nL(x y x' y':Int):Int:=if x=x' then fm y y' else fm x x'
theorem abl(x y x' y':Int)(w:World):Calls ah 295 #[.agg #[.int .i64 x,.int .i64 y],.agg #[.int .i64 x',.int .i64 y']] w (mC (.int .i64 (nL x y x' y')) w):=by
 have a8:=Lib.hid (fun w=>HF x x' w);have bL:=Lib.hid (fun w=>HF y y' w);have n0:Hid (x=x'→fm y y'=nL x y x' y'):=fun h=>by unfold nL;rw[if_pos h]
 have mD:Hid (¬(x=x')→fm x x'=nL x y x' y'):=fun h=>by unfold nL;rw[if_neg h]
 go_enter Tryz.func295,Tryz.ntmps295
 go_wp2_with (first
  | (go_at_call 319;((with_reducible refine(a8.out _).mono ?_);rintro e w1 ⟨rfl,aa⟩))
  | (go_at_call 319;((with_reducible refine(bL.out _).mono ?_);rintro e w1 ⟨rfl,aa⟩)))
 ·go_ret
  exact xO (mD.out (by simpa using ‹(x != x')=true›)) (by(repeat first|with_reducible exact Below.refl _ _|with_reducible refine e8 ?_ _|with_reducible refine hk ?_ aa))
 ·go_ret
  exact xO (n0.out (by simpa using ‹(x != x')=false›)) (by(repeat first|with_reducible exact Below.refl _ _|with_reducible refine e8 ?_ _|with_reducible refine hk ?_ aa))
end Go.Proofs.YtklpfooafbjnpaaGreat
namespace Go.Proofs.YtklpfooafbjnpaaGreat
open Go.RowKit
attribute [local go_sem ↓] Go.wp_at_zero Go.wp_at_succ
end Go.Proofs.YtklpfooafbjnpaaGreat
namespace Go.Proofs.YtklpfooafbjnpaaGreat
open Go.RowKit
attribute [local go_sem ↓] Go.wp_at_zero Go.wp_at_succ
def Nw(s:Bool)(z:Int)(w:World)(e:Ending)(w':World):Prop:=∃H L,e = .returned (.tuple #[.agg #[.int .i64 H,.int .u64 L],.bool s])∧c8 H L z∧Below w.heap.size w w'
def DS(v:Int)(b:Bool)(w:World)(e:Ending)(w':World):Prop:=e = .returned (.tuple #[.int .i64 v,.bool b])∧Below w.heap.size w w'
def X3(w:World)(s:Bool)(z:Int)(u v:Value)(W:World):Prop:=∃g tF lP,u = .pointer (some ⟨g,0,none⟩)∧v = .bool s∧c8 tF lP z∧e1 W g (.int .i64 tF) (.int .u64 lP)∧Below w.heap.size w W
theorem Ms(aV sG aK hr k:Int)(r:Nat)(s:Bool)(z v:Int)(b:Bool)(w:World)(h:hj k r)
  (Nd:∀w,Calls ah 274 #[.agg #[.int .i64 aV,.int .u64 sG,.int .i64 aK,.int .u64 hr],.int .i64 r] w (Nw s z w))
  (hv:(s=false∧v=0∧b=false)∨(s=true∧small z=false∧v=0∧b=false)∨(s=true∧small z=true∧wi (134217728/2^r) z=false∧v=0∧b=false)∨(s=true∧small z=true∧wi (134217728/2^r) z=true∧v=z∧b=true)) :
  Calls ah 239 #[.agg #[.int .i64 aV,.int .u64 sG,.int .i64 aK,.int .u64 hr],.int .i64 k] w (DS v b w):=by
 have Nc:=Lib.hid (fun w=>Cx k r w h);have HJ:=Lib.hid (fun w=>SR k r w h);have DG:=Lib.hid Nd;obtain⟨m0,m1⟩:=ES r;clear h Nd;generalize (134217728:Int)/2^r=M at *;have Ag:=Lib.hid m0;have Ah:=Lib.hid m1;have th:=Lib.hid hv;clear m0 m1 hv
 go_enter Tryz.func239,Tryz.ntmps239
 go_upto_region 1 with fail
 have fM:ik (w.alloc (.cells #[.int .i64 aV,.int .u64 sG,.int .i64 aK,.int .u64 hr] 182)) w.heap.size (.int .i64 aV) (.int .u64 sG) (.int .i64 aK) (.int .u64 hr):=(by(repeat first|focus ((with_reducible refine ik.new ?_);simp;done)));have Ix:Below w.heap.size w (w.alloc (.cells #[.int .i64 aV,.int .u64 sG,.int .i64 aK,.int .u64 hr] 182)):=(by(repeat first|with_reducible exact Below.refl _ _|with_reducible refine e8 ?_ _))
 go_cut [6,7] (fun u v uF=>X3 w s z u v uF)
 case first =>
  clear th HJ
  go_region_held3 (fun w'=>w'.cell? ⟨w.heap.size,0,none⟩=some (.int .i64 aV)∧w'.cell? ⟨w.heap.size,1,none⟩=some (.int .u64 sG)∧w'.cell? ⟨w.heap.size,2,none⟩=some (.int .i64 aK)∧w'.cell? ⟨w.heap.size,3,none⟩=some (.int .u64 hr))
   (((refine ik.cs ?_);((repeat first|with_reducible assumption|with_reducible refine ik.alloc ?_ _|with_reducible refine ik.drew ?_|focus ((with_reducible refine ik.set ?_ _ ?_);rotate_left;omega)|with_reducible refine ik.call ?_ mf|with_reducible refine ik.call ?_ mP);done)))
   (first
    | (go_at_call 165;((with_reducible refine(Nc.out _).mono ?_);rintro e w1 ⟨rfl,mP⟩;have aeB:=Below.size mP;(try simp at aeB)))
    | (go_at_call 274;((with_reducible refine(DG.out _).mono ?_);rintro e w2 ⟨amk,aml,rfl,hu,mf⟩;have KG:=Below.size mf;(try simp at KG);(try ((refine OR (p:=e1 w2 (w.heap.size+1) (.int .i64 0) (.int .u64 0)) ?_ ?_);(repeat first|focus ((with_reducible refine e1.new ?_);simp;done)|with_reducible refine e1.alloc ?_ _|with_reducible refine e1.drew ?_|with_reducible refine e1.call ?_ mf|with_reducible refine e1.call ?_ mP);intro Dv;obtain⟨⟨am3,anc⟩,anr,anv⟩:=id Dv;have aoq:=e1.lt Dv;have aoy:=Nat.ne_of_gt (e1.lt Dv);have aow:=Nat.ne_of_lt (e1.lt Dv)));(try ((refine OR (p:=e1 w2 (w1.heap.size) (.int .i64 0) (.int .u64 0)) ?_ ?_);(repeat first|focus ((with_reducible refine e1.new ?_);simp;done)|with_reducible refine e1.alloc ?_ _|with_reducible refine e1.drew ?_|with_reducible refine e1.call ?_ mf|with_reducible refine e1.call ?_ mP);intro Dw;obtain⟨⟨am4,ane⟩,ans,anw⟩:=id Dw;have aor:=e1.lt Dw;have aoz:=Nat.ne_of_gt (e1.lt Dw);have aox:=Nat.ne_of_lt (e1.lt Dw))))))
  all_goals
   go_wp2_with fail
   go_meet
   refine⟨_,amk,aml,rfl,rfl,hu,?_,?_⟩
   ·(repeat first|focus ((with_reducible refine e1.new ?_);simp;done)|with_reducible refine e1.put ?_|focus ((with_reducible apply x9.of);with_reducible assumption))
   ·(repeat first|with_reducible assumption|with_reducible refine e8 ?_ _|focus ((with_reducible refine pV ?_ _ _ _ ?_);rotate_left;omega)|with_reducible refine Below.drew ?_|with_reducible refine hk ?_ mf|with_reducible refine hk ?_ mP)
 case rest =>
  obtain⟨g,tF,lP,rfl,rfl,aw,ey,dm⟩:=hcut;clear fM Ix DG Nc;obtain⟨⟨qE,de⟩,dj,ld⟩:=id ey;rcases th.out with ⟨rfl,rfl,rfl⟩|⟨rfl,q,rfl,rfl⟩|⟨rfl,q,cH,rfl,rfl⟩|⟨rfl,q,cH,rfl,rfl⟩
  ·clear th
   go_wp2
   go_ret2
   exact⟨rfl,by(repeat first|with_reducible assumption)⟩
  ·have Ad:Hid (∀w,Calls ah 275 #[.agg #[.int .i64 tF,.int .u64 lP]] w (DS 0 false w)):=fun w=>(H5 tF lP z w aw).mono fun e w' k=>by unfold yg at k;rw[q] at k;exact k
   clear th q
   go_wp2_with (first
    | (go_at_call 275;((with_reducible refine(Ad.out _).mono ?_);rintro e zT ⟨rfl,wX⟩)))
   go_ret2
   exact⟨rfl,by(repeat first|with_reducible assumption|with_reducible refine hk ?_ wX)⟩
  ·have Ad:Hid (∀w,Calls ah 275 #[.agg #[.int .i64 tF,.int .u64 lP]] w (DS z true w)):=fun w=>(H5 tF lP z w aw).mono fun e w' k=>by unfold yg at k;rw[q] at k;exact k
   have HI:Hid (∀b w,w.cell? ⟨b,0,none⟩=some (.int .i64 M)→Calls ah 253 #[.int .i64 z,.pointer (some ⟨b,0,none⟩)] w (mC (.bool false) w)):=fun b w ak=>by have:=Gl b M z w ak Ag.out Ah.out;rw[cH] at this;exact this
   clear th q cH
   go_wp2_with (first
    | (go_at_call 275;((with_reducible refine(Ad.out _).mono ?_);rintro e zT ⟨rfl,wX⟩))
    | (go_at_call 202;((with_reducible refine(HJ.out _).mono ?_);rintro e MQ ⟨b,rfl,ak,JK⟩))
    | (go_at_call 253;((with_reducible refine(HI.out _ _ ak).mono ?_);rintro e MR ⟨rfl,JL⟩)))
   go_ret2
   exact⟨rfl,by(repeat first|with_reducible assumption|with_reducible refine hk ?_ JL|with_reducible refine hk ?_ JK|with_reducible refine hk ?_ wX)⟩
  ·have Ad:Hid (∀w,Calls ah 275 #[.agg #[.int .i64 tF,.int .u64 lP]] w (DS v true w)):=fun w=>(H5 tF lP v w aw).mono fun e w' k=>by unfold yg at k;rw[q] at k;exact k
   have HI:Hid (∀b w,w.cell? ⟨b,0,none⟩=some (.int .i64 M)→Calls ah 253 #[.int .i64 v,.pointer (some ⟨b,0,none⟩)] w (mC (.bool true) w)):=fun b w ak=>by have:=Gl b M v w ak Ag.out Ah.out;rw[cH] at this;exact this
   clear th q cH
   go_wp2_with (first
    | (go_at_call 275;((with_reducible refine(Ad.out _).mono ?_);rintro e zT ⟨rfl,wX⟩))
    | (go_at_call 202;((with_reducible refine(HJ.out _).mono ?_);rintro e MQ ⟨b,rfl,ak,JK⟩))
    | (go_at_call 253;((with_reducible refine(HI.out _ _ ak).mono ?_);rintro e MR ⟨rfl,JL⟩)))
   go_ret2
   exact⟨rfl,by(repeat first|with_reducible assumption|with_reducible refine hk ?_ JL|with_reducible refine hk ?_ JK|with_reducible refine hk ?_ wX)⟩
theorem amx{r:Nat}{z:Int}(h:wi (134217728/2^r) z=true):small z=true:=by
 obtain⟨m0,m1⟩:=ES r;unfold wi at h;rw[ef,cU,cU] at h;unfold small;rw[cU];omega
end Go.Proofs.YtklpfooafbjnpaaGreat
namespace Go.Proofs.YtklpfooafbjnpaaGreat
open Go.RowKit
section
variable{U:Nat→Prop}{ad:Nat→Nat}{W:World}
theorem UT:∀(xs:List AC) (r vs:List Value),u3 xs=some r→bS U ad W xs vs→vs=r
 | [],r,vs,h,hv=>by cases h;exact na hv.1.symm
 | .c v::xs,r,vs,h,hv=>by
  simp only[u3] at h
  split at h
  ·rename_i bb ao;cases h
   match vs,hv with
   | [],hv=>exact absurd hv.1 (by simp)
   | u::vs,hv =>
    have aF:=(hv.2 0 _ u rfl rfl).1;have bY:=UT xs bb vs ao ⟨by have:=hv.1;simp at this;exact this,fun i x w ab hw=>hv.2 (i+1) x w (by simpa using ab) (by simpa using hw)⟩;rw[aF,bY]
  ·cases h
 | .own _ _::_,_,_,h,_=>by cases h
 | .p _::_,_,_,h,_=>by cases h
theorem UY{x:bG}{u v:Value}(h:nt x=some u)(hv:gV U ad W x v):v=u:=by
 cases x with
 | one y=>cases y with
  | c w=>cases h;exact hv.1
  | own=>cases h
  | p=>cases h
 | agg xs =>
  simp only[nt] at h
  split at h
  ·rename_i r ao;cases h;obtain⟨vs,rfl,al⟩:=hv;rw[UT xs r vs ao al]
  ·cases h
theorem UW:∀(xs:List bG) (r vs:List Value),yz xs=some r→xs.length=vs.length→(∀(i:Nat) (x:bG) (v:Value),xs[i]?=some x→vs[i]?=some v→gV U ad W x v)→vs=r
 | [],r,vs,h,al,_=>by cases h;exact na al.symm
 | x::xs,r,vs,h,al,hv=>by
  simp only[yz] at h
  split at h
  ·rename_i v bb h1 ao;cases h
   match vs,al,hv with
   | u::vs,al,hv =>
    rw[UY h1 (hv 0 x u rfl rfl),UW xs bb vs ao (by simpa using al) fun i y w ai hw=>hv (i+1) y w (by simpa using ai) (by simpa using hw)]
  ·cases h
theorem aku{x:ag}{u v:Value}(h:so x=some u)(hv:cR U ad W x v):v=u:=by
 cases x with
 | w y=>exact UY h hv
 | cl xs =>
  simp only[so] at h
  split at h
  ·rename_i r ao;cases h;obtain⟨vs,rfl,al,ab⟩:=hv;rw[UW xs r vs ao al ab]
  ·cases h
end
theorem Ov{P:Program}{f:FuncId}{args:List ag}{r:ag}(h:aP P f args r)(kl:List Value)(bz:Value)(he:args.map so=kl.map some)(ok:args.all Lv=true)(ao:so r=some bz)(W:World):Calls P f kl.toArray W fun e W'=>e = .returned bz∧Below W.heap.size W W' :=
 (h.call (fun _=>True) W kl ⟨by have:=congrArg List.length he;simpa using this,fun i x v ab hv=>by
  have h1:(args.map so)[i]?=some (so x):=by rw[dG,ab];rfl
  rw[he,dG,hv] at h1;have h2:some v=so x:=lD h1;exact L6 h2.symm (b6.1 ok x (cN ab))⟩).mono fun e W' ⟨v,qg,hv,aa⟩=>by
  rw[aku ao hv] at qg;exact⟨qg,aa⟩
theorem Ty{v k:Int}{r:Nat}(h:hj k r)(v0 : -9223372036854775808≤v)(v1:v<9223372036854775808):aP ah 106 [aL v,aL k] (aL (ca v r)) :=
 iC [.int .i64 v,.int .i64 k] (.int .i64 (ca v r)) rfl rfl rfl rfl rfl fun W=>abx v k r W h v0 v1
theorem TN{k:Int}{r:Nat}(h:hj k r):aP ah 252 [aL k] (aL (2^r)) :=
 iC [.int .i64 k] (.int .i64 (2^r)) rfl rfl rfl rfl rfl fun W=>alp k r W h
theorem GD{k:Int}:aP ah 80 [aL k] (bl (decide (0≤k)&&decide (k≤28))) :=
 iC [.int .i64 k] (.bool (decide (0≤k)&&decide (k≤28))) rfl rfl rfl rfl rfl fun W=>abw k W
theorem ui{x y k:Int}{r:Nat}{b:Bool}(h:hj k r)(aa:dZ r x y=b):aP ah 145 [bn x y,aL k] (bl b):=by
 subst aa;exact iC [.agg #[.int .i64 x,.int .i64 y],.int .i64 k] (.bool (dZ r x y)) rfl rfl rfl rfl rfl fun W=>Xu x y k r W h
theorem aiS{x y x' y':Int}:aP ah 295 [bn x y,bn x' y'] (aL (nL x y x' y')) :=
 iC [.agg #[.int .i64 x,.int .i64 y],.agg #[.int .i64 x',.int .i64 y']] (.int .i64 (nL x y x' y')) rfl rfl rfl rfl rfl fun W=>abl x y x' y' W
theorem GC{x y k:Int}{r:Nat}(h:hj k r)(qE : -9223372036854775808≤x)(de:x<9223372036854775808)(lg : -9223372036854775808≤y)(jT:y<9223372036854775808):aP ah 58 [bn x y,aL k] (bn (ca x r) (ca y r)):=by
 refine bp (f:=58) Tryz.func58 rfl rfl rfl rfl ?_;(repeat first|refine dd ?_|refine uE (Ty h qE de) ?_|refine uE (Ty h lg jT) ?_)
 ((refine bk rfl (c7 rfl rfl rfl aM) ?_))
 exact ag.aU.refl _
theorem uh{x y k:Int}{r:Nat}(h:hj k r)(aa:dZ r x y=true):aP ah 200 [bn x y,aL k] (bn (2^r*x) (2^r*y)):=by
 obtain⟨⟨q1,q2⟩,q3,q4⟩:=(FU r x y).1 aa;have a8:=ui h aa;have bL:=TN h;clear h aa;generalize (2:Int)^r=P at *;refine bp (f:=200) Tryz.func200 rfl rfl rfl rfl ?_;(refine cI ?_)
 ((refine bk rfl (c7 rfl rfl rfl aM) ?_))
 exact ag.aU.refl _
theorem aio{x y k:Int}{r:Nat}(h:hj k r)(aa:dZ r x y=true):aP ah 249 [bn x y,aL k] (.cl [.agg [.c (.int .i64 (2*(2^r*x)-2^r)),.c (.int .i64 (2*(2^r*y)-2^r))],.agg [.c (.int .i64 (2*(2^r*x)+2^r)),.c (.int .i64 (2*(2^r*y)+2^r))]]):=by
 obtain⟨⟨q1,q2⟩,q3,q4⟩:=(FU r x y).1 aa;obtain⟨lV,LV⟩:=LO h.1;have a8:=ui h aa;have bL:=TN h;have eb:=uh h aa;clear h aa;generalize (2:Int)^r=P at *;generalize P*x=X at *;generalize P*y=Y at *;refine bp (f:=249) Tryz.func249 rfl rfl rfl rfl ?_;(refine cI ?_)
 ((refine bk rfl (c7 rfl rfl rfl (c7 rfl rfl rfl aM)) ?_))
 exact ag.aU.refl _
def uC(n d:Int)(r:Nat):Bool:=decide (0<d)&&wi (134217728/2^r) (ng n d r)
def Hb(n d:Int)(r:Nat):Int:=if uC n d r then ng n d r else 0
theorem TO{n d k:Int}{r:Nat}(h:hj k r)(f:fits n=true)(g:fits d=true):aP ah 239 [fv n d,aL k] (.cl [.one (.c (.int .i64 (Hb n d r))),.one (.c (.bool (uC n d r)))]):=by
 refine iC [fx n d,.int .i64 k] (.tuple #[.int .i64 (Hb n d r),.bool (uC n d r)]) rfl rfl rfl rfl rfl fun W => ?_;unfold Hb uC
 by_cases hd:0<d
 ·have NC:∀w,Calls ah 274 #[fx n d,.int .i64 r] w (Nw true (ng n d r) w):=fun w=>(Ov (aiQ f g hd (by have:=h.1;omega)) [fx n d,.int .i64 r] (.tuple #[uF (ng n d r),.bool true]) rfl rfl rfl w).mono fun e w' k=>⟨_,_,k.1,mW (abb f hd g (by have:=h.1;omega)),k.2⟩;rw[b5 hd,pH];cases hw:wi (134217728/2^r) (ng n d r) with
  | true=>exact Ms _ _ _ _ k r true _ _ true W h NC (.inr (.inr (.inr ⟨rfl,amx hw,hw,rfl,rfl⟩)))
  | false =>
   refine Ms _ _ _ _ k r true _ 0 false W h NC ?_;cases hs:small (ng n d r)
   ·exact .inr (.inl ⟨rfl,rfl,rfl,rfl⟩)
   ·exact .inr (.inr (.inl ⟨rfl,rfl,hw,rfl,rfl⟩))
 ·rw[b8 hd,Bool.false_and];exact Ms _ _ _ _ k r false 0 0 false W h (fun w=>(Ov (aiR (k:=r) f g (.inl hd)) [fx n d,.int .i64 r] (.tuple #[uF 0,.bool false]) rfl rfl rfl w).mono fun e w' k=>⟨_,_,k.1,y6,k.2⟩) (.inl ⟨rfl,rfl,rfl⟩)
theorem ahW{n d n' d' k:Int}{r:Nat}{b:Bool}(h:hj k r)(f:fits n=true)(g:fits d=true)(mc:fits n'=true)(c3:fits d'=true)(aa:(uC n d r&&uC n' d' r)=b) :
  aP ah 184 [fv n d,fv n' d',aL k] (.cl [.agg [.c (.int .i64 (if b then ng n d r else 0)),.c (.int .i64 (if b then ng n' d' r else 0))],.one (.c (.bool b))]):=by
 have a8:=TO h f g;have bL:=TO h mc c3;clear h f g mc c3;unfold Hb at a8 bL;cases q1:uC n d r <;> cases q2:uC n' d' r <;> rw[q1] at a8 <;> rw[q2] at bL <;> rw[q1,q2] at aa <;> subst aa <;> clear q1 q2
 all_goals
  generalize ng n d r=X at *;generalize ng n' d' r=Y at *;refine bp (f:=184) Tryz.func184 rfl rfl rfl rfl ?_;(refine cI ?_)
  ((refine bk rfl (c7 rfl rfl rfl (aX rfl aM)) ?_))
  exact ag.aU.refl _
end Go.Proofs.YtklpfooafbjnpaaGreat
namespace Go.Proofs.YtklpfooafbjnpaaGreat
abbrev dL:=Int×Int×Int
def nK(x y z w:Int):Bool:=decide (x<z)||(decide (x=z)&&decide (y<w))
theorem qs{x y z w:Int}:nK x y z w=true↔x<z∨(x=z∧y<w):=by
 unfold nK;simp
def vH(l:List dL)(x y:Int):List dL:=l.filter fun e=>nK e.1 e.2.1 x y
def GL(l:List dL)(x y:Int):List dL:=l.filter fun e=>nK x y e.1 e.2.1
def uk(l:List dL)(x y v:Int):List dL:=vH l x y++(x,y,v)::GL l x y
def vb(l:List dL)(x y:Int):Int:=match l.findIdx? fun e=>decide (e.1=x)&&decide (e.2.1=y) with
 | some k=>k
 | none => -1
def lp(l:List dL):Prop:=l.Pairwise fun a b=>nK a.1 a.2.1 b.1 b.2.1=true
theorem ahT{a b c d e f:Int}(h1:nK a b c d=true)(h2:nK c d e f=true):nK a b e f=true:=by
 rw[qs] at *;omega
theorem ajM{l:List dL}(h:lp l)(x y v:Int):lp (uk l x y v):=by
 unfold uk vH GL lp;rw[List.pairwise_append,ki];refine⟨h.filter _,⟨fun e he => ?_,h.filter _⟩,fun a aV b aa => ?_⟩
 ·exact(List.mem_filter.1 he).2
 ·have h1:=(List.mem_filter.1 aV).2;rcases fi.1 aa with rfl|aa
  ·exact h1
  ·exact ahT h1 (List.mem_filter.1 aa).2
def iw(l:List dL)(x y:Int):Bool:=l.any fun e=>decide (e.1=x)&&decide (e.2.1=y)
theorem PN(l:List dL)(x y:Int):decide (0≤vb l x y)=iw l x y:=by
 unfold vb iw;cases h:l.findIdx? fun e=>decide (e.1=x)&&decide (e.2.1=y) with
 | none =>
  rw[List.findIdx?_eq_none_iff] at h
  have:(l.any fun e=>decide (e.1=x)&&decide (e.2.1=y))=false:=by
   rw[List.any_eq_false];intro e he;rw[h e he];decide
  rw[this];rfl
 | some k =>
  have aF:=List.findIdx?_eq_some_iff_getElem.1 h;obtain⟨ae,h1,_⟩:=aF;have:(l.any fun e=>decide (e.1=x)&&decide (e.2.1=y))=true:=List.any_eq_true.2 ⟨l[k],List.getElem_mem ae,h1⟩;rw[this];simp
theorem abH{l:List dL}{x y:Int}(h:0≤vb l x y):∃k v,vb l x y=(k:Nat)∧k<l.length∧l[k]?=some (x,y,v):=by
 unfold vb at h ⊢;cases au:l.findIdx? fun e=>decide (e.1=x)&&decide (e.2.1=y) with
 | none=>rw[au] at h;simp at h
 | some k =>
  obtain⟨ae,h1,_⟩:=List.findIdx?_eq_some_iff_getElem.1 au;simp only[ef,cU] at h1;refine⟨k,l[k].2.2,rfl,ae,?_⟩;rw[bE ae];congr 1;exact Prod.ext h1.1 (Prod.ext h1.2 rfl)
def pN(l:List dL)(x y:Int):Int:=match l.findIdx? fun e=>decide (e.1=x)&&decide (e.2.1=y) with
 | some k=>(l.getD k (0,0,0)).2.2
 | none=>0
theorem amt{l:List dL}{x y v:Int}{k:Nat}(h:vb l x y=k)(al:l[k]?=some (x,y,v)):pN l x y=v:=by
 unfold vb at h;unfold pN;cases au:l.findIdx? fun e=>decide (e.1=x)&&decide (e.2.1=y) with
 | none=>rw[au] at h;simp at h
 | some j =>
  rw[au] at h;have:j=k:=by simp at h;omega
  subst this;simp only[xG,al];rfl
theorem amr{l:List dL}{x y:Int}(h:iw l x y=false):pN l x y=0:=by
 have h2:=PN l x y;rw[h] at h2;unfold vb at h2;unfold pN;cases au:l.findIdx? fun e=>decide (e.1=x)&&decide (e.2.1=y) with
 | none=>rfl
 | some j=>rw[au] at h2;simp at h2
theorem ajK(l:List dL)(x y:Int):(vH l x y).length≤l.length:=List.length_filter_le _ _
theorem Wa{l:List dL}(h:lp l){x y v:Int}(hm:(x,y,v)∈l):iw l x y=true∧pN l x y=v:=by
 have aZ:iw l x y=true:=List.any_eq_true.2 ⟨_,hm,by simp⟩;have aw:=PN l x y;rw[aZ] at aw;obtain⟨k,u,h1,h2,ar⟩:=abH (of_decide_eq_true aw);refine⟨aZ,?_⟩;rw[amt h1 ar];obtain⟨j,af⟩:=kF hm;have BC:=(bt.1 af).1;have hZ:l[k]=(x,y,u):=(bt.1 ar).2;have lO:l[j]=(x,y,v):=(bt.1 af).2;unfold lp at h;rw[List.pairwise_iff_getElem] at h;rcases Nat.lt_trichotomy k j with q|q|q
 ·have:=h k j h2 BC q;rw[hZ,lO,qs] at this;simp at this
 ·subst q;rw[hZ] at lO;cases lO;rfl
 ·have:=h j k BC h2 q;rw[hZ,lO,qs] at this;simp at this
end Go.Proofs.YtklpfooafbjnpaaGreat
namespace Go.Proofs.YtklpfooafbjnpaaGreat
open Go.RowKit
def eC:List dL→List AC
 | []=>[]
 | e::l => .c (.int .i64 e.1) :: .c (.int .i64 e.2.1) :: .c (.int .i64 e.2.2)::eC l
theorem I3:∀(l:List dL) (i:Nat) (e:dL),l[i]?=some e→((eC l).drop (i*3)).take 3=[.c (.int .i64 e.1),.c (.int .i64 e.2.1),.c (.int .i64 e.2.2)]
 | [],i,p,h=>by simp at h
 | q::l,0,p,h=>by simp at h;subst h;simp[eC]
 | q::l,i+1,p,h=>by
  have e:(i+1)*3=i*3+1+1+1:=by omega
  rw[e];simp only[eC,List.drop_succ_cons];exact I3 l i p (by simpa using h)
theorem Ph{l:List dL}{j:Int}{i:Nat}{x y v:Int}(af:j=i)(h:l[i]?=some (x,y,v)):((eC l).drop (j.toNat*3)).take 3=[.c (.int .i64 x),.c (.int .i64 y),.c (.int .i64 v)]:=by
 subst af;exact I3 l i (x,y,v) h
theorem A0:∀(l:List dL),(eC l).length=l.length*3
 | []=>rfl
 | p::l=>by simp only[eC,hP,A0 l];omega
theorem AZ:∀(l m:List dL),eC (l++m)=eC l++eC m
 | [],_=>rfl
 | p::l,m=>by simp only[uo,eC,AZ l m]
theorem Pd:∀(l:List dL),(eC l).all AC.aY=true
 | []=>rfl
 | p::l=>by simp only[eC,kI,Pd l];rfl
abbrev Gb(x y:Int):List AC:=[.c (.int .i64 x),.c (.int .i64 y)]
abbrev V8(k:Nat):ag := .w (.one (.own k 0))
def rK(n:Int):Int:=if n<1 then 1 else if 1024<n then 1024 else n
def hy(l:List aq)(x y:Int):Int:=match l.findIdx? fun e=>decide (e.1=x)&&decide (e.2=y) with
 | some k=>k
 | none => -1
def wS(n:Int):Bool:=decide (-134217728≤n)&&decide (n≤134217728)
theorem Tw{n:Int}{b:Bool}(aa:wS n=b):aP ah 240 [aL n] (bl b):=by
 have cs:(-134217728≤n∧n≤134217728∧b=true)∨(-134217728≤n∧¬n≤134217728∧b=false)∨(¬ -134217728≤n∧b=false):=by
  rw[←aa];unfold wS
  by_cases h1 : -134217728≤n <;> by_cases h2:n≤134217728 <;> simp[h1,h2]
 clear aa;rcases cs with ⟨h1,h2,rfl⟩|⟨h1,h2,rfl⟩|⟨h1,rfl⟩
 all_goals
  refine bp (f:=240) Tryz.func240 rfl rfl rfl rfl ?_;(repeat first|refine dd ?_|(with_reducible apply bT (c:=true));rfl;rfl;(exact b5 (by omega))|(with_reducible apply bT (c:=false));rfl;rfl;(exact b8 (by omega)))
  ((refine bk rfl (aX rfl aM) ?_))
  first|exact ag.aU.refl _|exact ag.aU.of_eq (by rw[b5 h2];rfl)|exact ag.aU.of_eq (by rw[b8 h2];rfl)
theorem ajU(x y:Int):c6 x y=(wS x&&wS y):=by
 unfold c6 wS;rw[o6];simp only[ef,cU];omega
theorem mv{x y:Int}(h:c6 x y=true):eE x y=true:=by rw[ux] at h;rw[Uo];omega
theorem qt{x y:Int}{b:Bool}(aa:c6 x y=b):aP ah 185 [bn x y] (bl b):=by
 have a8:=Tw (n:=x) rfl;have bL:=Tw (n:=y) rfl;rw[ajU] at aa;cases q1:wS x <;> cases q2:wS y <;> rw[q1] at a8 <;> rw[q2] at bL <;> rw[q1,q2] at aa <;> subst aa <;> clear q1 q2
 all_goals
  refine bp (f:=185) Tryz.func185 rfl rfl rfl rfl ?_;(refine cI ?_)
  ((refine bk rfl (aX rfl aM) ?_))
  exact ag.aU.refl _
theorem ahX{n m:Int}:aP ah 319 [aL n,aL m] (aL (fm n m)) :=
 iC [.int .i64 n,.int .i64 m] (.int .i64 (fm n m)) rfl rfl rfl rfl rfl fun W=>HF n m W
abbrev lb(n d:Int)(o:Bool):ag := .w (.agg [.c (.int .i64 n),.c (.int .i64 d),.c (.bool o)])
abbrev vX(x:iJ):ag:=lb x.n x.d x.own
def ni(x:iJ):Prop:=(-2000000000≤x.n∧x.n≤2000000000)∧0<x.d∧x.d≤2000000000
theorem agV{x y:Int}(h1 : -2000000000≤x)(h2:x≤2000000000)(ar:0≤y)(aJ:y≤2000000000) : -4000000000000000000≤x*y∧x*y≤4000000000000000000:=by
 have a1:x*y≤2000000000*y:=qB h2 ar;have a2 : -2000000000*y≤x*y:=qB h1 ar;omega
theorem Oi{x y:iJ}(ab:ni x)(ai:ni y):IntKind.i64.wrap (x.n*y.d)=x.n*y.d:=by
 obtain⟨⟨a1,a2⟩,a3,a4⟩:=ab;obtain⟨⟨b1,b2⟩,dO,dh⟩:=ai;have:=agV a1 a2 (by omega:(0:Int)≤y.d) dh;exact jo (by omega)
theorem ajo{n d m e c:Int}{o q:Bool}(a8:aP ah 319 [aL (n*e),aL (m*d)] (aL c))(w1:IntKind.i64.wrap (n*e)=n*e)(w2:IntKind.i64.wrap (m*d)=m*d):aP ah 318 [lb n d o,lb m e q] (aL c):=by
 refine bp (f:=318) Tryz.func318 rfl rfl rfl rfl ?_;(refine cI ?_)
 ((refine bk rfl (aX rfl aM) ?_))
 exact ag.aU.refl _
theorem LJ{x y:iJ}(ab:ni x)(ai:ni y):aP ah 318 [vX x,vX y] (aL (iu x y)) :=
 ajo ahX (Oi ab ai) (Oi ai ab)
theorem ai6{n d m e c:Int}{o q:Bool}{cf dH:Int}{kj:Bool}(a8:aP ah 318 [lb n d o,lb m e q] (aL c))(cs:(0<c∧cf=n∧dH=d∧kj=o)∨(¬ 0<c∧c=0∧q=true∧cf=n∧dH=d∧kj=o)∨(¬ 0<c∧c=0∧q=false∧cf=m∧dH=e∧kj=q)∨(¬ 0<c∧¬c=0∧cf=m∧dH=e∧kj=q)):aP ah 328 [lb n d o,lb m e q] (lb cf dH kj):=by
 rcases cs with ⟨q1,rfl,rfl,rfl⟩|⟨q1,q2,rfl,rfl,rfl,rfl⟩|⟨q1,q2,rfl,rfl,rfl,rfl⟩|⟨q1,q2,rfl,rfl,rfl⟩
 all_goals
  refine bp (f:=328) Tryz.func328 rfl rfl rfl rfl ?_;(repeat first|refine dd ?_|refine fs ?_|(with_reducible apply bT (c:=true));rfl;rfl;(exact b5 (by omega))|(with_reducible apply bT (c:=false));rfl;rfl;(exact b8 (by omega)))
  ((refine bk rfl (c7 rfl rfl rfl aM) ?_))
  exact ag.aU.refl _
theorem ai5{x y:iJ}(ab:ni x)(ai:ni y):aP ah 328 [vX x,vX y] (vX (sH x y)):=by
 refine ai6 (LJ ab ai) ?_;rcases RZ x y with ⟨e,h⟩|⟨e,h⟩ <;> rw[e]
 ·by_cases h1:0<iu x y
  ·exact .inl ⟨h1,rfl,rfl,rfl⟩
  ·rcases h with h|⟨h,k⟩
   ·exact absurd h h1
   ·exact .inr (.inl ⟨h1,h,k,rfl,rfl,rfl⟩)
 ·have h1:¬ 0<iu x y:=fun k=>h (.inl k)
  by_cases h2:iu x y=0
  ·refine .inr (.inr (.inl ⟨h1,h2,?_,rfl,rfl,rfl⟩));cases ai:y.own with
   | false=>rfl
   | true=>exact absurd (.inr ⟨h2,ai⟩) h
  ·exact .inr (.inr (.inr ⟨h1,h2,rfl,rfl,rfl⟩))
theorem aiO{n d m e c:Int}{o q:Bool}{cf dH:Int}{kj:Bool}(a8:aP ah 318 [lb n d o,lb m e q] (aL c))(cs:(c<0∧cf=n∧dH=d∧kj=o)∨(¬c<0∧c=0∧q=true∧cf=n∧dH=d∧kj=o)∨(¬c<0∧c=0∧q=false∧cf=m∧dH=e∧kj=q)∨(¬c<0∧¬c=0∧cf=m∧dH=e∧kj=q)):aP ah 329 [lb n d o,lb m e q] (lb cf dH kj):=by
 rcases cs with ⟨q1,rfl,rfl,rfl⟩|⟨q1,q2,rfl,rfl,rfl,rfl⟩|⟨q1,q2,rfl,rfl,rfl,rfl⟩|⟨q1,q2,rfl,rfl,rfl⟩
 all_goals
  refine bp (f:=329) Tryz.func329 rfl rfl rfl rfl ?_;(repeat first|refine dd ?_|refine fs ?_|(with_reducible apply bT (c:=true));rfl;rfl;(exact b5 (by omega))|(with_reducible apply bT (c:=false));rfl;rfl;(exact b8 (by omega)))
  ((refine bk rfl (c7 rfl rfl rfl aM) ?_))
  exact ag.aU.refl _
theorem aiN{x y:iJ}(ab:ni x)(ai:ni y):aP ah 329 [vX x,vX y] (vX (sk x y)):=by
 refine aiO (LJ ab ai) ?_;rcases O9 x y with ⟨e,h⟩|⟨e,h⟩ <;> rw[e]
 ·by_cases h1:iu x y<0
  ·exact .inl ⟨h1,rfl,rfl,rfl⟩
  ·rcases h with h|⟨h,k⟩
   ·exact absurd h h1
   ·exact .inr (.inl ⟨h1,h,k,rfl,rfl,rfl⟩)
 ·have h1:¬iu x y<0:=fun k=>h (.inl k)
  by_cases h2:iu x y=0
  ·refine .inr (.inr (.inl ⟨h1,h2,?_,rfl,rfl,rfl⟩));cases ai:y.own with
   | false=>rfl
   | true=>exact absurd (.inr ⟨h2,ai⟩) h
  ·exact .inr (.inr (.inr ⟨h1,h2,rfl,rfl,rfl⟩))
abbrev hG(a1 a2 b1 b2 n d:Int)(o:Bool)(m e:Int)(q:Bool):ag := .w (.agg [.c (.int .i64 a1),.c (.int .i64 a2),.c (.int .i64 b1),.c (.int .i64 b2),.c (.int .i64 n),.c (.int .i64 d),.c (.bool o),.c (.int .i64 m),.c (.int .i64 e),.c (.bool q)])
abbrev Hn(a1 a2 b1 b2:Int)(p:Pa):ag:=hG a1 a2 b1 b2 p.f.n p.f.d p.f.own p.t.n p.t.d p.t.own
def Am(p:Pa):Prop:=ni p.f∧ni p.t
theorem ai4{a1 a2 b1 b2 n d m e u v:Int}{o q w:Bool}{n' d' aI e':Int}{fh cH:Bool}(hu : -1100000000≤u∧u≤1100000000)(hv : -1100000000≤v∧v≤1100000000)
  (cs:(0<v-u∧aP ah 328 [lb n d o,lb (-u) (v-u) w] (lb n' d' fh)∧aI=m∧e'=e∧cH=q)∨(¬ 0<v-u∧v-u<0∧aP ah 329 [lb m e q,lb u (-(v-u)) w] (lb aI e' cH)∧n'=n∧d'=d∧fh=o)
   ∨ (¬ 0<v-u∧¬v-u<0∧u<0∧n'=1∧d'=1∧fh=false∧aI=0∧e'=1∧cH=false)∨(¬ 0<v-u∧¬v-u<0∧¬u<0∧u=0∧w=false∧n'=1∧d'=1∧fh=false∧aI=0∧e'=1∧cH=false)
   ∨ (¬ 0<v-u∧¬v-u<0∧¬u<0∧u=0∧w=true∧n'=n∧d'=d∧fh=o∧aI=m∧e'=e∧cH=q)∨(¬ 0<v-u∧¬v-u<0∧¬u<0∧¬u=0∧n'=n∧d'=d∧fh=o∧aI=m∧e'=e∧cH=q)) :
  aP ah 317 [hG a1 a2 b1 b2 n d o m e q,aL u,aL v,bl w] (hG a1 a2 b1 b2 n' d' fh aI e' cH):=by
 rcases cs with ⟨q1,a8,rfl,rfl,rfl⟩|⟨q1,q2,a8,rfl,rfl,rfl⟩|⟨q1,q2,q3,rfl,rfl,rfl,rfl,rfl,rfl⟩|⟨q1,q2,q3,q4,rfl,rfl,rfl,rfl,rfl,rfl,rfl⟩|⟨q1,q2,q3,q4,rfl,rfl,rfl,rfl,rfl,rfl,rfl⟩|⟨q1,q2,q3,q4,rfl,rfl,rfl,rfl,rfl,rfl⟩
 ·refine bp (f:=317) Tryz.func317 rfl rfl rfl rfl ?_;(refine cI ?_)
  ((refine bk rfl (c7 rfl rfl rfl aM) ?_))
  exact ag.aU.refl _
 ·refine bp (f:=317) Tryz.func317 rfl rfl rfl rfl ?_;(refine cI ?_)
  ((refine bk rfl (c7 rfl rfl rfl aM) ?_))
  exact ag.aU.refl _
 all_goals
  refine bp (f:=317) Tryz.func317 rfl rfl rfl rfl ?_;(repeat first|refine dd ?_|(with_reducible apply bT (c:=true));rfl;rfl;(exact b5 (by omega))|(with_reducible apply bT (c:=false));rfl;rfl;(exact b8 (by omega)))
  ((refine bk rfl (c7 rfl rfl rfl aM) ?_))
  exact ag.aU.refl _
theorem af3{x y:iJ}(ab:ni x)(ai:ni y):ni (sH x y):=by unfold sH;split <;> assumption
theorem aaJ{x y:iJ}(ab:ni x)(ai:ni y):ni (sk x y):=by unfold sk;split <;> assumption
theorem F7{p:Pa}{u v:Int}{w:Bool}(hp:Am p)(hu : -900000000≤u∧u≤900000000)(hv : -900000000≤v∧v≤900000000):Am (py p u v w):=by
 unfold py
 by_cases h1:0<v-u
 ·rw[if_pos h1];exact⟨af3 hp.1 ⟨by simp only;omega,by simp only;omega⟩,hp.2⟩
 ·rw[if_neg h1]
  by_cases h2:v-u<0
  ·rw[if_pos h2];exact⟨hp.1,aaJ hp.2 ⟨by simp only;omega,by simp only;omega⟩⟩
  ·rw[if_neg h2]
   split
   ·exact⟨⟨by decide,by decide⟩,⟨by decide,by decide⟩⟩
   ·exact hp
theorem GG{a1 a2 b1 b2 u v:Int}{w:Bool}{p:Pa}(hp:Am p)(hu : -900000000≤u∧u≤900000000)(hv : -900000000≤v∧v≤900000000):aP ah 317 [Hn a1 a2 b1 b2 p,aL u,aL v,bl w] (Hn a1 a2 b1 b2 (py p u v w)):=by
 refine ai4 (by omega) (by omega) ?_;unfold py
 by_cases h1:0<v-u
 ·rw[if_pos h1];exact .inl ⟨h1,ai5 hp.1 (y:=⟨-u,v-u,w⟩) ⟨by simp only;omega,by simp only;omega⟩,rfl,rfl,rfl⟩
 ·rw[if_neg h1]
  by_cases h2:v-u<0
  ·rw[if_pos h2];exact .inr (.inl ⟨h1,h2,aiN hp.2 (y:=⟨u,-(v-u),w⟩) ⟨by simp only;omega,by simp only;omega⟩,rfl,rfl,rfl⟩)
  ·rw[if_neg h2]
   by_cases ar:u<0
   ·rw[if_pos (.inl ar)];exact .inr (.inr (.inl ⟨h1,h2,ar,rfl,rfl,rfl,rfl,rfl,rfl⟩))
   ·by_cases aJ:u=0
    ·cases w with
     | false=>rw[if_pos (.inr ⟨aJ,rfl⟩)];exact .inr (.inr (.inr (.inl ⟨h1,h2,ar,aJ,rfl,rfl,rfl,rfl,rfl,rfl,rfl⟩)))
     | true=>rw[if_neg (by simp[ar])];exact .inr (.inr (.inr (.inr (.inl ⟨h1,h2,ar,aJ,rfl,rfl,rfl,rfl,rfl,rfl,rfl⟩))))
    ·rw[if_neg (by simp[ar,aJ])];exact .inr (.inr (.inr (.inr (.inr ⟨h1,h2,ar,aJ,rfl,rfl,rfl,rfl,rfl,rfl⟩))))
instance aoh:HN ah 326 4 false 1:=⟨by kernel_rfl⟩
abbrev vY(l1 l2 h1 h2:Int)(o p:Bool):ag := .w (.agg [.c (.int .i64 l1),.c (.int .i64 l2),.c (.int .i64 h1),.c (.int .i64 h2),.c (.bool o),.c (.bool p)])
def uU(n:Int):Bool:=decide (-536870912≤n)&&decide (n≤536870912)
theorem Oy{n:Int}:uU n=true ↔ -536870912≤n∧n≤536870912:=by unfold uU;simp
def uV(x y:Int):Bool:=uU x&&uU y
theorem Ey{x y:Int}:uV x y=true↔(-536870912≤x∧x≤536870912) ∧ -536870912≤y∧y≤536870912:=by unfold uV;rw[ef,Oy,Oy]
def F4(k:Int):Bool:=decide (0≤k)&&decide (k≤2)
theorem aiK{a1 a2 b1 b2 l1 l2 h1 h2 n d m e n' d' aI e':Int}{o p q r cH bb:Bool}(aV : -134217728≤a1∧a1≤134217728)(aa : -134217728≤b1∧b1≤134217728)(al : -536870912≤l1∧l1≤536870912)
  (a8:aP ah 317 [hG a1 a2 b1 b2 n d q m e r,aL (2*a1-l1),aL (2*b1-l1),bl o] (hG a1 a2 b1 b2 n' d' cH aI e' bb)):aP ah 286 [vY l1 l2 h1 h2 o p,hG a1 a2 b1 b2 n d q m e r] (hG a1 a2 b1 b2 n' d' cH aI e' bb):=by
 refine bp (f:=286) Tryz.func286 rfl rfl rfl rfl ?_;(refine cI ?_)
 ((refine bk rfl (c7 rfl rfl rfl aM) ?_))
 exact ag.aU.refl _
theorem aiJ{a1 a2 b1 b2 l1 l2 h1 h2 n d m e n' d' aI e':Int}{o p q r cH bb:Bool}(aV : -134217728≤a2∧a2≤134217728)(aa : -134217728≤b2∧b2≤134217728)(al : -536870912≤l2∧l2≤536870912)
  (a8:aP ah 317 [hG a1 a2 b1 b2 n d q m e r,aL (2*a2-l2),aL (2*b2-l2),bl o] (hG a1 a2 b1 b2 n' d' cH aI e' bb)):aP ah 287 [vY l1 l2 h1 h2 o p,hG a1 a2 b1 b2 n d q m e r] (hG a1 a2 b1 b2 n' d' cH aI e' bb):=by
 refine bp (f:=287) Tryz.func287 rfl rfl rfl rfl ?_;(refine cI ?_)
 ((refine bk rfl (c7 rfl rfl rfl aM) ?_))
 exact ag.aU.refl _
theorem aiL{a1 a2 b1 b2 l1 l2 h1 h2 n d m e n' d' aI e':Int}{o p q r cH bb:Bool}(aV : -134217728≤a1∧a1≤134217728)(aa : -134217728≤b1∧b1≤134217728)(al : -536870912≤h1∧h1≤536870912)
  (a8:aP ah 317 [hG a1 a2 b1 b2 n d q m e r,aL (h1-2*a1),aL (h1-2*b1),bl p] (hG a1 a2 b1 b2 n' d' cH aI e' bb)):aP ah 288 [vY l1 l2 h1 h2 o p,hG a1 a2 b1 b2 n d q m e r] (hG a1 a2 b1 b2 n' d' cH aI e' bb):=by
 refine bp (f:=288) Tryz.func288 rfl rfl rfl rfl ?_;(refine cI ?_)
 ((refine bk rfl (c7 rfl rfl rfl aM) ?_))
 exact ag.aU.refl _
theorem aiI{a1 a2 b1 b2 l1 l2 h1 h2 n d m e n' d' aI e':Int}{o p q r cH bb:Bool}(aV : -134217728≤a2∧a2≤134217728)(aa : -134217728≤b2∧b2≤134217728)(al : -536870912≤h2∧h2≤536870912)
  (a8:aP ah 317 [hG a1 a2 b1 b2 n d q m e r,aL (h2-2*a2),aL (h2-2*b2),bl p] (hG a1 a2 b1 b2 n' d' cH aI e' bb)):aP ah 289 [vY l1 l2 h1 h2 o p,hG a1 a2 b1 b2 n d q m e r] (hG a1 a2 b1 b2 n' d' cH aI e' bb):=by
 refine bp (f:=289) Tryz.func289 rfl rfl rfl rfl ?_;(refine cI ?_)
 ((refine bk rfl (c7 rfl rfl rfl aM) ?_))
 exact ag.aU.refl _
theorem ais{a1 a2 b1 b2:Int}:aP ah 285 [bn a1 a2,bn b1 b2] (Hn a1 a2 b1 b2 wz):=by
 refine bp (f:=285) Tryz.func285 rfl rfl rfl rfl ?_;(refine eI ?_)
 ((refine bk rfl (c7 rfl rfl rfl aM) ?_))
 exact ag.aU.refl _
theorem aiW{a1 a2 b1 b2 n d m e c:Int}{o q r:Bool}(a8:aP ah 318 [lb n d o,lb m e q] (aL c))(cs:(c<0∧r=true)∨(¬c<0∧c=0∧o=true∧r=q)∨(¬c<0∧c=0∧o=false∧r=false)∨(¬c<0∧¬c=0∧r=false)):aP ah 290 [hG a1 a2 b1 b2 n d o m e q] (bl r):=by
 rcases cs with ⟨q1,rfl⟩|⟨q1,q2,rfl,rfl⟩|⟨q1,q2,rfl,rfl⟩|⟨q1,q2,rfl⟩
 all_goals
  refine bp (f:=290) Tryz.func290 rfl rfl rfl rfl ?_;(repeat first|refine dd ?_|refine fs ?_|(with_reducible apply bT (c:=true));rfl;rfl;(exact b5 (by omega))|(with_reducible apply bT (c:=false));rfl;rfl;(exact b8 (by omega)))
  ((refine bk rfl (aX rfl aM) ?_))
  exact ag.aU.refl _
theorem aiV{a1 a2 b1 b2:Int}{p:Pa}(hp:Am p):aP ah 290 [Hn a1 a2 b1 b2 p] (bl (yo p)):=by
 refine aiW (LJ hp.1 hp.2) ?_;unfold yo
 by_cases h1:iu p.f p.t<0
 ·exact .inl ⟨h1,by rw[b5 h1];rfl⟩
 ·rw[b8 h1]
  by_cases h2:iu p.f p.t=0
  ·rw[b5 h2];cases ar:p.f.own with
   | true=>exact .inr (.inl ⟨h1,h2,rfl,rfl⟩)
   | false=>exact .inr (.inr (.inl ⟨h1,h2,rfl,rfl⟩))
  ·exact .inr (.inr (.inr ⟨h1,h2,by rw[b8 h2];rfl⟩))
theorem Tx{n:Int}{b:Bool}(aa:uU n=b):aP ah 316 [aL n] (bl b):=by
 have cs:(-536870912≤n∧n≤536870912∧b=true)∨(-536870912≤n∧¬n≤536870912∧b=false)∨(¬ -536870912≤n∧b=false):=by
  rw[←aa];unfold uU
  by_cases h1 : -536870912≤n <;> by_cases h2:n≤536870912 <;> simp[h1,h2]
 clear aa;rcases cs with ⟨h1,h2,rfl⟩|⟨h1,h2,rfl⟩|⟨h1,rfl⟩
 all_goals
  refine bp (f:=316) Tryz.func316 rfl rfl rfl rfl ?_;(repeat first|refine dd ?_|(with_reducible apply bT (c:=true));rfl;rfl;(exact b5 (by omega))|(with_reducible apply bT (c:=false));rfl;rfl;(exact b8 (by omega)))
  ((refine bk rfl (aX rfl aM) ?_))
  first|exact ag.aU.refl _|exact ag.aU.of_eq (by rw[b5 h2];rfl)|exact ag.aU.of_eq (by rw[b8 h2];rfl)
theorem GF{x y:Int}{b:Bool}(aa:uV x y=b):aP ah 283 [bn x y] (bl b):=by
 have a8:=Tx (n:=x) rfl;have bL:=Tx (n:=y) rfl;unfold uV at aa;cases q1:uU x <;> cases q2:uU y <;> rw[q1] at a8 <;> rw[q2] at bL <;> rw[q1,q2] at aa <;> subst aa <;> clear q1 q2
 all_goals
  refine bp (f:=283) Tryz.func283 rfl rfl rfl rfl ?_;(refine cI ?_)
  ((refine bk rfl (aX rfl aM) ?_))
  exact ag.aU.refl _
theorem TA{k:Int}{b:Bool}(aa:F4 k=b):aP ah 284 [aL k] (bl b):=by
 have cs:(k=0∧b=true)∨(¬k=0∧k=1∧b=true)∨(¬k=0∧¬k=1∧k=2∧b=true)∨(¬k=0∧¬k=1∧¬k=2∧b=false):=by
  rw[←aa];unfold F4
  by_cases h1:k=0
  ·exact .inl ⟨h1,by subst h1;rfl⟩
  ·by_cases h2:k=1
   ·exact .inr (.inl ⟨h1,h2,by subst h2;rfl⟩)
   ·by_cases ar:k=2
    ·exact .inr (.inr (.inl ⟨h1,h2,ar,by subst ar;rfl⟩))
    ·refine .inr (.inr (.inr ⟨h1,h2,ar,?_⟩));rw[Bool.and_eq_false_iff,kG,kG];omega
 clear aa;rcases cs with ⟨h1,rfl⟩|⟨h1,h2,rfl⟩|⟨h1,h2,ar,rfl⟩|⟨h1,h2,ar,rfl⟩
 all_goals
  refine bp (f:=284) Tryz.func284 rfl rfl rfl rfl ?_;(repeat first|refine dd ?_|(with_reducible apply bT (c:=true));rfl;rfl;(exact b5 (by omega))|(with_reducible apply bT (c:=false));rfl;rfl;(exact b8 (by omega)))
  ((refine bk rfl (aX rfl aM) ?_))
  first|exact ag.aU.refl _|exact ag.aU.of_eq (by rw[b5 ar];rfl)|exact ag.aU.of_eq (by rw[b8 ar];rfl)
theorem aie{a1 a2 b1 b2 l1 l2 h1 h2 k:Int}{o p r:Bool}{fG d1 m1 aH gC d2 m2 aN ru d3 m3 ck rv d4 m4 eg:Int}{q1 cf q2 dH q3 kj q4 s3:Bool}(bg:aP ah 185 [bn a1 a2] (bl true))(dS:aP ah 185 [bn b1 b2] (bl true))(ti:aP ah 283 [bn l1 l2] (bl true))(uO:aP ah 283 [bn h1 h2] (bl true))(Xz:aP ah 284 [aL k] (bl true))
  (aaV:(!decide (k=2))=o) (tB:decide (k=1)=p) (aO:aP ah 285 [bn a1 a2,bn b1 b2] (hG a1 a2 b1 b2 0 1 true 1 1 true))
  (a8:aP ah 286 [vY l1 l2 h1 h2 o p,hG a1 a2 b1 b2 0 1 true 1 1 true] (hG a1 a2 b1 b2 fG d1 q1 m1 aH cf))
  (bL:aP ah 287 [vY l1 l2 h1 h2 o p,hG a1 a2 b1 b2 fG d1 q1 m1 aH cf] (hG a1 a2 b1 b2 gC d2 q2 m2 aN dH))
  (eb:aP ah 288 [vY l1 l2 h1 h2 o p,hG a1 a2 b1 b2 gC d2 q2 m2 aN dH] (hG a1 a2 b1 b2 ru d3 q3 m3 ck kj))
  (jx:aP ah 289 [vY l1 l2 h1 h2 o p,hG a1 a2 b1 b2 ru d3 q3 m3 ck kj] (hG a1 a2 b1 b2 rv d4 q4 m4 eg s3))
  (H1:aP ah 290 [hG a1 a2 b1 b2 rv d4 q4 m4 eg s3] (bl r)) :
  aP ah 250 [bn a1 a2,bn b1 b2,bn l1 l2,bn h1 h2,aL k] (bl r):=by
 subst aaV;subst tB;refine bp (f:=250) Tryz.func250 rfl rfl rfl rfl ?_;(refine cI ?_);refine Zv 5 ?_;(refine cI ?_)
 ((refine bk rfl (aX rfl aM) ?_))
 exact ag.aU.refl _
def dD(a1 a2 b1 b2 l1 l2 h1 h2 k:Int):Pa:=uX (2*a1-l1) (2*b1-l1) (2*a2-l2) (2*b2-l2) (h1-2*a1) (h1-2*b1) (h2-2*a2) (h2-2*b2) (!decide (k=2)) (decide (k=1))
def zc(a1 a2 b1 b2 l1 l2 h1 h2 k:Int):Bool:=c6 a1 a2&&c6 b1 b2&&uV l1 l2&&uV h1 h2&&F4 k
def zb(a1 a2 b1 b2 l1 l2 h1 h2 k:Int):Bool:=zc a1 a2 b1 b2 l1 l2 h1 h2 k&&yo (dD a1 a2 b1 b2 l1 l2 h1 h2 k)
theorem aif{a1 a2 b1 b2 l1 l2 h1 h2 k:Int}{cf dH kj s3 GQ:Bool}(bg:aP ah 185 [bn a1 a2] (bl cf))(dS:aP ah 185 [bn b1 b2] (bl dH))(ti:aP ah 283 [bn l1 l2] (bl kj))(uO:aP ah 283 [bn h1 h2] (bl s3))(Xz:aP ah 284 [aL k] (bl GQ))(h:(cf&&dH&&kj&&s3&&GQ)=false) :
  aP ah 250 [bn a1 a2,bn b1 b2,bn l1 l2,bn h1 h2,aL k] (bl false):=by
 have cs:cf=false∨(cf=true∧dH=false)∨(cf=true∧dH=true∧kj=false)∨(cf=true∧dH=true∧kj=true∧s3=false)∨(cf=true∧dH=true∧kj=true∧s3=true∧GQ=false):=by
  cases cf <;> cases dH <;> cases kj <;> cases s3 <;> cases GQ <;> simp_all
 clear h;rcases cs with rfl|⟨rfl,rfl⟩|⟨rfl,rfl,rfl⟩|⟨rfl,rfl,rfl,rfl⟩|⟨rfl,rfl,rfl,rfl,rfl⟩
 all_goals
  refine bp (f:=250) Tryz.func250 rfl rfl rfl rfl ?_;(refine cI ?_)
  ((refine bk rfl (aX rfl aM) ?_))
  exact ag.aU.refl _
theorem NM:Am wz:=⟨⟨by decide,by decide⟩,⟨by decide,by decide⟩⟩
theorem aid{a1 a2 b1 b2 l1 l2 h1 h2 k:Int}:aP ah 250 [bn a1 a2,bn b1 b2,bn l1 l2,bn h1 h2,aL k] (bl (zb a1 a2 b1 b2 l1 l2 h1 h2 k)):=by
 unfold zb;cases ao:zc a1 a2 b1 b2 l1 l2 h1 h2 k with
 | false=>exact aif (qt rfl) (qt rfl) (GF rfl) (GF rfl) (TA rfl) ao
 | true =>
  rw[pH];unfold zc at ao;simp only[ef] at ao;obtain⟨⟨⟨⟨Up,Uq⟩,UM⟩,UJ⟩,akk⟩:=ao;have y5:=ux.1 Up;have FT:=ux.1 Uq;have Rj:=Ey.1 UM;have bY:=Ey.1 UJ;unfold dD uX;have o1:=F7 (u:=2*a1-l1) (v:=2*b1-l1) (w := !decide (k=2)) NM (by omega) (by omega);have o2:=F7 (u:=2*a2-l2) (v:=2*b2-l2) (w := !decide (k=2)) o1 (by omega) (by omega);have S0:=F7 (u:=h1-2*a1) (v:=h1-2*b1) (w:=decide (k=1)) o2 (by omega) (by omega);have ahq:=F7 (u:=h2-2*a2) (v:=h2-2*b2) (w:=decide (k=1)) S0 (by omega) (by omega);exact aie (qt Up) (qt Uq) (GF UM) (GF UJ) (TA akk) rfl rfl ais (aiK y5.1 FT.1 Rj.1 (GG NM (by omega) (by omega))) (aiJ y5.2 FT.2 Rj.2 (GG o1 (by omega) (by omega))) (aiL y5.1 FT.1 bY.1 (GG o2 (by omega) (by omega))) (aiI y5.2 FT.2 bY.2 (GG S0 (by omega) (by omega))) (aiV ahq)
theorem To{a1 a2 b1 b2 x y k:Int}{cf dH:Bool}(wh:aP ah 80 [aL k] (bl cf))(Xj:aP ah 145 [bn x y,aL k] (bl dH))(h:(cf&&dH)=false):aP ah 193 [bn a1 a2,bn b1 b2,bn x y,aL k] (bl false):=by
 have cs:cf=false∨(cf=true∧dH=false):=by cases cf <;> cases dH <;> simp_all
 clear h;rcases cs with rfl|⟨rfl,rfl⟩
 all_goals
  refine bp (f:=193) Tryz.func193 rfl rfl rfl rfl ?_;(refine cI ?_)
  ((refine bk rfl (aX rfl aM) ?_))
  exact ag.aU.refl _
theorem ah6{a1 a2 b1 b2 x y k l1 l2 h1 h2:Int}{r:Bool}(wh:aP ah 80 [aL k] (bl true))(Xj:aP ah 145 [bn x y,aL k] (bl true))(amJ:aP ah 249 [bn x y,aL k] (.cl [.agg [.c (.int .i64 l1),.c (.int .i64 l2)],.agg [.c (.int .i64 h1),.c (.int .i64 h2)]]))(M:aP ah 250 [bn a1 a2,bn b1 b2,bn l1 l2,bn h1 h2,aL 0] (bl r)):aP ah 193 [bn a1 a2,bn b1 b2,bn x y,aL k] (bl r):=by
 refine bp (f:=193) Tryz.func193 rfl rfl rfl rfl ?_;(refine cI ?_)
 ((refine bk rfl (aX rfl aM) ?_))
 exact ag.aU.refl _
def yO(a1 a2 b1 b2 x y k:Int):Bool:=decide (0≤k)&&decide (k≤28)&&dZ k.toNat x y&&zb a1 a2 b1 b2 (2*(2^k.toNat*x)-2^k.toNat) (2*(2^k.toNat*y)-2^k.toNat) (2*(2^k.toNat*x)+2^k.toNat) (2*(2^k.toNat*y)+2^k.toNat) 0
theorem aeY{k:Int}(h:(decide (0≤k)&&decide (k≤28))=true):hj k k.toNat:=by
 simp only[ef,cU] at h;unfold hj;omega
theorem ah5{a1 a2 b1 b2 x y k:Int}:aP ah 193 [bn a1 a2,bn b1 b2,bn x y,aL k] (bl (yO a1 a2 b1 b2 x y k)):=by
 unfold yO;have wh:=GD (k:=k);cases ae:(decide (0≤k)&&decide (k≤28)) with
 | false =>
  rw[ae] at wh;obtain⟨r,ao⟩:=aeX k;exact To wh (ui ao rfl) rfl
 | true =>
  rw[ae] at wh;have ao:=aeY ae;cases hi:dZ k.toNat x y with
  | false=>exact To wh (ui ao hi) rfl
  | true=>exact ah6 wh (ui ao hi) (aio ao hi) aid
end Go.Proofs.YtklpfooafbjnpaaGreat
namespace Go.Proofs.YtklpfooafbjnpaaGreat
def Np(a1 a2 b1 b2 l1 l2 h1 h2 k:Int):Prop:=Met (2*a1-l1) (2*b1-l1) (2*a2-l2) (2*b2-l2) (h1-2*a1) (h1-2*b1) (h2-2*a2) (h2-2*b2) (!decide (k=2)) (decide (k=1))
theorem K9{a1 a2 b1 b2 l1 l2 h1 h2 k:Int}:zb a1 a2 b1 b2 l1 l2 h1 h2 k=true↔zc a1 a2 b1 b2 l1 l2 h1 h2 k=true∧Np a1 a2 b1 b2 l1 l2 h1 h2 k:=by
 unfold zb dD Np;rw[ef,aaj]
theorem agz{a1 a2 b1 b2 l1 l2 h1 h2 k:Int}:zc a1 a2 b1 b2 l1 l2 h1 h2 k=true↔c6 a1 a2=true∧c6 b1 b2=true∧uV l1 l2=true∧uV h1 h2=true∧F4 k=true:=by
 unfold zc;simp only[ef,and_assoc]
end Go.Proofs.YtklpfooafbjnpaaGreat
namespace Go.Proofs.YtklpfooafbjnpaaGreat
open Go.ChangeShapes Go.WideShapes Go.ChangeAt Go.RowKit Go.Joins
theorem ahP:ownKnob ah.godebug=none:=by kernel_rfl
def yA(P:Program):Nat→TypeId→Bool
 | 0,_=>false
 | d+1,t=>match P.underlying t with
  | some .bool|some (.int _)|some .string=>true
  | some (.struct bq)=>bq.toList.all fun f=>yA P d f.type
  | some (.array _ e)=>yA P d e
  | _=>false
theorem mapM_flat{α β:Type}{f g:α→Option (β×List MemPlace)}:∀(l:List α) (xs:List (β×List MemPlace)),l.mapM f=some xs→(∀a∈l,∀x,f a=some x→x.2=[]∧g a=some (x.1,[]))→xs.flatMap (·.2)=[]∧l.mapM g=some xs
 | [],xs,h,_=>by cases h;exact⟨rfl,rfl⟩
 | a::l,xs,h,ae=>by
  rw[List.mapM_cons] at h;cases aV:f a with
  | none=>rw[aV] at h;cases h
  | some b =>
   rw[aV] at h;cases al:l.mapM f with
   | none=>rw[al] at h;cases h
   | some bs =>
    rw[al] at h;cases h;obtain⟨h1,h2⟩:=ae a (by simp) b aV;obtain⟨ar,aJ⟩:=mapM_flat l bs al fun a' q9=>ae a' (by simp[q9]);refine⟨by simp[h1];intro a' b0 mN;have:=List.flatMap_eq_nil_iff.1 ar _ mN;exact this,?_⟩;rw[List.mapM_cons,h2,aJ];obtain⟨b1,b2⟩:=b;simp only at h1;subst h1;rfl
section
variable{H:Type}{enc:TypeId×Value→H}{P:Program}
theorem Pv:∀(d:Nat) (t:TypeId),yA P d t=true→∀(eW:Nat) (w:World) (base:Nat) (sp:Nat→Bool) (held:Bool) (cs:List Value) (x:DataW H×List MemPlace),DataW.trod enc P w base sp held eW t cs=some x →
  x.2=[]∧∀(w':World) (qV:Nat) (rN:Nat→Bool) (rc:Bool),DataW.trod enc P w' qV rN rc eW t cs=some (x.1,[])
 | 0,_,h,_,_,_,_,_,_,_,_=>by cases h
 | d+1,t,au,0,_,_,_,_,_,_,h=>by simp[DataW.trod] at h
 | d+1,t,au,eW+1,w,base,sp,held,cs,x,h=>by
  have bY:=fun kM (kB:yA P d kM=true)=>Pv d kM kB eW;rw[DataW.trod_step] at h;simp only[DataW.trod_step];unfold yA at au;unfold DataW.trodStep at h ⊢;cases hu:P.underlying t with
  | none=>rw[hu] at au;cases au
  | some D =>
   rw[hu] at au h;cases D with
   | bool =>
    match cs,h with
    | [.bool b],h=>cases h;exact⟨rfl,fun _ _ _ _=>rfl⟩
   | int k =>
    match cs,h with
    | [.int k' n],h =>
     simp only at h ⊢
     split at h
     ·rename_i ak;cases h;exact⟨rfl,fun _ _ _ _=>by rw[if_pos ak]⟩
     ·cases h
   | string =>
    match cs,h with
    | [.string s],h =>
     simp only at h ⊢
     split at h
     ·rename_i ak;cases h;exact⟨rfl,fun _ _ _ _=>by rw[if_pos ak]⟩
     ·cases h
   | struct bq =>
    simp only at h ⊢ au
    split at h
    ·rename_i ak;simp only[Option.map_eq_some_iff] at h;obtain⟨xs,ab,rfl⟩:=h;have dw:=b6.1 au;refine⟨?_,fun w' qV rN rc => ?_⟩
     ·exact(mapM_flat (g:=fun f=>DataW.trod enc P w base sp held eW f.type ((cs.drop f.offset).take (P.cellsOf f.type))) _ _ ab fun f oL y ai=>⟨(bY f.type (dw f oL) w base sp held _ y ai).1,(bY f.type (dw f oL) w base sp held _ y ai).2 w base sp held⟩).1
     ·have:=mapM_flat (g:=fun f=>DataW.trod enc P w' qV rN rc eW f.type ((cs.drop f.offset).take (P.cellsOf f.type))) _ _ ab fun f oL y ai=>⟨(bY f.type (dw f oL) w base sp held _ y ai).1,(bY f.type (dw f oL) w base sp held _ y ai).2 w' qV rN rc⟩;rw[if_pos ak,this.2];simp only[gD,this.1]
    ·cases h
   | array n e =>
    simp only at h ⊢ au
    split at h
    ·rename_i ak;simp only[Option.map_eq_some_iff] at h;obtain⟨xs,ab,rfl⟩:=h;refine⟨?_,fun w' qV rN rc => ?_⟩
     ·exact(mapM_flat (g:=fun i=>DataW.trod enc P w base sp held eW e ((cs.drop (i*P.cellsOf e)).take (P.cellsOf e))) _ _ ab fun f _ y ai=>⟨(bY e au w base sp held _ y ai).1,(bY e au w base sp held _ y ai).2 w base sp held⟩).1
     ·have:=mapM_flat (g:=fun i=>DataW.trod enc P w' qV rN rc eW e ((cs.drop (i*P.cellsOf e)).take (P.cellsOf e))) _ _ ab fun f _ y ai=>⟨(bY e au w base sp held _ y ai).1,(bY e au w base sp held _ y ai).2 w' qV rN rc⟩;rw[if_pos ak,this.2];simp only[gD,this.1]
    ·cases h
   | _=>cases au
theorem abc{d:Nat}{t:TypeId}(au:yA P d t=true){w:World}{base:Nat}{sp:Nat→Bool}{held:Bool}{v:Value}{D:DataW H}{p:List MemPlace}(h:DataW.Trod enc P w base sp held t v D p) :
  p=[]∧∀(w':World) (qV:Nat) (rN:Nat→Bool) (rc:Bool),DataW.Trod enc P w' qV rN rc t v D []:=by
 obtain⟨eW,h⟩:=h;obtain⟨h1,h2⟩:=Pv d t au eW w base sp held _ _ h;exact⟨h1,fun w' qV rN rc=>⟨eW,h2 w' qV rN rc⟩⟩
end
section
variable{P:Program}{W:World}{r:Reach}{b:Nat}{t:TypeId}{v:Value}
theorem ahD{k:IntKind}(hu:P.underlying t=some (.int k))(h:Cell.okWide P W r b t v):∃n,v = .int k n∧k.min≤n∧n≤k.max:=by
 unfold Cell.okWide Cell.ok at h;rw[hu] at h;cases v <;> simp only at h;rename_i k' n;obtain⟨rfl,h⟩:=h;exact⟨n,rfl,by simpa [IntKind.has] using h⟩
theorem ahE{D:TypeDesc}(hu:P.underlying t=some D)(hs:∀bq,D ≠ .struct bq)(aV:∀n e,D ≠ .array n e)(h:Value.okWide P W r b t v):Cell.okWide P W r b t v:=by
 unfold Value.okWide at h;rw[hu] at h;cases D <;> first|exact h|exact absurd rfl (hs _)|exact absurd rfl (aV _ _)
end
end Go.Proofs.YtklpfooafbjnpaaGreat
namespace Go.Proofs.YtklpfooafbjnpaaGreat
open Go.RowKit
theorem abU{P v:Int}(eV:0<P):2*((2*v+P)/(2*P)*P)≤2*v+P∧2*v+P<2*((2*v+P)/(2*P)*P)+2*P:=by
 have h1:=rD (2*v+P) (2*P);have h2:=pE (2*v+P) (show 2*P≠0 by omega);have ar:=o7 (2*v+P) (show 0<2*P by omega);have e:2*P*((2*v+P)/(2*P))=2*((2*v+P)/(2*P)*P):=by rw[k7,k6 P]
 omega
theorem J1{a1 a2 b1 b2 q1 q2:Int}{r:Nat}(ao:r≤28):yO a1 a2 b1 b2 q1 q2 r=true↔dZ r q1 q2=true∧zb a1 a2 b1 b2 (2*(2^r*q1)-2^r) (2*(2^r*q2)-2^r) (2*(2^r*q1)+2^r) (2*(2^r*q2)+2^r) 0=true:=by
 unfold yO;have g1:decide ((0:Int)≤(r:Int))=true:=b5 (by omega);have g2:decide ((r:Int)≤28)=true:=b5 (by omega);rw[g1,g2,kH,Bool.and_self,pH,ef]
def DK(p:aq):Prop:=(-9223372036854775808≤p.1∧p.1≤9223372036854775807) ∧ -9223372036854775808≤p.2∧p.2≤9223372036854775807
def sN(a1 a2 b1 b2 k:Int)(p:aq):Bool:=yO a1 a2 b1 b2 p.1 p.2 k
end Go.Proofs.YtklpfooafbjnpaaGreat
namespace Go.Proofs.YtklpfooafbjnpaaGreat
def uf(a b x Ba t:Rat):Prop := -Ba≤2*a+t*(2*(b-a))-x∧2*a+t*(2*(b-a))-x≤Ba
def oW(S p q x u:Rat):Prop:=2*(S*x)-S≤2*(S*p+u*(S*q-S*p))∧2*(S*p+u*(S*q-S*p))<2*(S*x)+S
theorem SV{a b p q x S d t1 t2 u:Rat}(h1:uf a b (2*(S*p)) (d*S) t1)(h2:uf a b (2*(S*q)) (d*S) t2)(la:0≤u)(cO:u≤1)(hm:oW S p q x u):uf a b (2*(S*x)) ((d+1)*S) (t1+u*(t2-t1)):=by
 obtain⟨a1,a2⟩:=h1;obtain⟨b1,b2⟩:=h2;obtain⟨m1,m2⟩:=hm;have v0:0≤1-u:=by grind
 have bD:=lE v0 (show 0≤2*a+t1*(2*(b-a))-2*(S*p)+d*S by grind);have cp:=lE v0 (show 0≤d*S-(2*a+t1*(2*(b-a))-2*(S*p)) by grind);have jE:=lE la (show 0≤2*a+t2*(2*(b-a))-2*(S*q)+d*S by grind);have lA:=lE la (show 0≤d*S-(2*a+t2*(2*(b-a))-2*(S*q)) by grind)
 constructor
 ·grind
 ·grind
theorem SW{a b x f g t:Rat}(yM:f≤g)(h:uf a b x f t):uf a b x g t:=by
 obtain⟨h1,h2⟩:=h
 constructor <;> grind
abbrev bx(n:Int):Rat:=(n:Rat)
def zl(a1 a2 b1 b2 S:Int)(Ba t:Rat)(v:aq):Prop:=uf (bx a1) (bx b1) (2*(bx S*bx v.1)) Ba t∧uf (bx a2) (bx b2) (2*(bx S*bx v.2)) Ba t
def r3(S:Int)(p q:aq)(u:Rat)(x:aq):Prop:=(0≤u∧u≤1)∧oW (bx S) (bx p.1) (bx q.1) (bx x.1) u∧oW (bx S) (bx p.2) (bx q.2) (bx x.2) u
theorem ahk{a1 a2 b1 b2 S:Int}{d t1 t2 u:Rat}{p q x:aq}(h1:zl a1 a2 b1 b2 S (d*bx S) t1 p)(h2:zl a1 a2 b1 b2 S (d*bx S) t2 q)(hm:r3 S p q u x):zl a1 a2 b1 b2 S ((d+1)*bx S) (t1+u*(t2-t1)) x :=
 ⟨SV h1.1 h2.1 hm.1.1 hm.1.2 hm.2.1,SV h1.2 h2.2 hm.1.1 hm.1.2 hm.2.2⟩
theorem ahl{a1 a2 b1 b2 S:Int}{f g t:Rat}{v:aq}(yM:f≤g)(h:zl a1 a2 b1 b2 S f t v):zl a1 a2 b1 b2 S g t v:=⟨SW yM h.1,SW yM h.2⟩
theorem s4{a b:Int}:bx a≤bx b↔a≤b:=Rat.intCast_le_intCast
theorem LZ{a b:Int}:bx a<bx b↔a<b:=Rat.intCast_lt_intCast
theorem rF{a:Int}(h:0<a):0<bx a:=by have:=LZ.2 h;simpa [bx] using this
theorem GS{a b:Int}(h:a<b):bx a+1≤bx b:=by
 have:=s4.2 (show a+1≤b from h);simpa [bx,uw] using this
theorem Sy{S p q x y:Int}{u w:Rat}(hS:0<S)(ab:oW (bx S) (bx p) (bx q) (bx x) u)(ai:oW (bx S) (bx p) (bx q) (bx y) w)(mn:x<y)(jm:p≤q):u≤w:=by
 have eH:=rF hS;obtain⟨de,dj⟩:=ab;obtain⟨jT,mA⟩:=ai;have h1:=GS mn;have h2:=s4.2 jm;have bD:=lE (Rat.le_of_lt eH) (show 0≤bx y-(bx x+1) by grind);refine Rat.not_lt.1 fun aev => ?_;have cp:=lE (show 0≤u-w by grind) (lE (Rat.le_of_lt eH) (show 0≤bx q-bx p by grind));grind
theorem Sx{S p q x y:Int}{u w:Rat}(hS:0<S)(ab:oW (bx S) (bx p) (bx q) (bx x) u)(ai:oW (bx S) (bx p) (bx q) (bx y) w)(mn:y<x)(jm:q≤p):u≤w:=by
 have eH:=rF hS;obtain⟨de,dj⟩:=ab;obtain⟨jT,mA⟩:=ai;have h1:=GS mn;have h2:=s4.2 jm;have bD:=lE (Rat.le_of_lt eH) (show 0≤bx x-(bx y+1) by grind);refine Rat.not_lt.1 fun aev => ?_;have cp:=lE (show 0≤u-w by grind) (lE (Rat.le_of_lt eH) (show 0≤bx p-bx q by grind));grind
theorem Gg{S p q x y:Int}{u w:Rat}(hS:0<S)(ab:oW (bx S) (bx p) (bx q) (bx x) u)(ai:oW (bx S) (bx p) (bx q) (bx y) w)(tT:u≤w)(jm:p≤q):x≤y:=by
 have eH:=rF hS;obtain⟨de,dj⟩:=ab;obtain⟨jT,mA⟩:=ai;refine Int.not_lt.1 fun KH => ?_;have h1:=GS KH;have h2:=s4.2 jm;have bD:=lE (Rat.le_of_lt eH) (show 0≤bx x-(bx y+1) by grind);have cp:=lE (show 0≤w-u by grind) (lE (Rat.le_of_lt eH) (show 0≤bx q-bx p by grind));grind
theorem Gf{S p q x y:Int}{u w:Rat}(hS:0<S)(ab:oW (bx S) (bx p) (bx q) (bx x) u)(ai:oW (bx S) (bx p) (bx q) (bx y) w)(tT:u≤w)(jm:q≤p):y≤x:=by
 have eH:=rF hS;obtain⟨de,dj⟩:=ab;obtain⟨jT,mA⟩:=ai;refine Int.not_lt.1 fun KH => ?_;have h1:=GS KH;have h2:=s4.2 jm;have bD:=lE (Rat.le_of_lt eH) (show 0≤bx y-(bx x+1) by grind);have cp:=lE (show 0≤w-u by grind) (lE (Rat.le_of_lt eH) (show 0≤bx p-bx q by grind));grind
theorem Sv{S p q:Int}(hS:0<S):oW (bx S) (bx p) (bx q) (bx p) 0:=by
 have eH:=rF hS
 constructor <;> grind
theorem Sw{S p q:Int}(hS:0<S):oW (bx S) (bx p) (bx q) (bx q) 1:=by
 have eH:=rF hS
 constructor <;> grind
theorem Ge{S p q x:Int}{u:Rat}(hS:0<S)(aF:0≤u)(h1:u≤1)(ab:oW (bx S) (bx p) (bx q) (bx x) u):(p≤q→p≤x∧x≤q)∧(q≤p→q≤x∧x≤p) :=
 ⟨fun h=>⟨Gg hS (Sv hS) ab aF h,Gg hS ab (Sw hS) h1 h⟩,fun h=>⟨Gf hS ab (Sw hS) h1 h,Gf hS (Sv hS) ab aF h⟩⟩
theorem Sr{S:Int}{p q x y:aq}{u w:Rat}(hS:0<S)(ab:r3 S p q u x)(ai:r3 S p q w y)(h:ec (decide (S*q.1<S*p.1)) (decide (S*q.2<S*p.2)) x y=true):u≤w:=by
 have aH:(S*q.1<S*p.1)↔q.1<p.1:=⟨fun h=>Int.lt_of_mul_lt_mul_left h (by omega),fun h=>Int.mul_lt_mul_of_pos_left h hS⟩;have aN:(S*q.2<S*p.2)↔q.2<p.2:=⟨fun h=>Int.lt_of_mul_lt_mul_left h (by omega),fun h=>Int.mul_lt_mul_of_pos_left h hS⟩;rw[Az] at h;simp only[cU,aH,aN] at h;rcases h with h|⟨he,h⟩
 ·by_cases g:q.1<p.1
  ·rw[if_pos g] at h;exact Sx hS ab.2.1 ai.2.1 h (by omega)
  ·rw[if_neg g] at h;exact Sy hS ab.2.1 ai.2.1 h (by omega)
 ·by_cases g:q.2<p.2
  ·rw[if_pos g] at h;exact Sx hS ab.2.2 ai.2.2 h (by omega)
  ·rw[if_neg g] at h;exact Sy hS ab.2.2 ai.2.2 h (by omega)
theorem adS{a b l n d u:Rat}(d0:0<d)(hu:u*d=n)(h:0≤(2*a-l)*(d-n)+(2*b-l)*n):l≤2*(a+u*(b-a)):=by
 subst hu;refine Rat.not_lt.1 fun a7 => ?_;have k:=Rat.mul_pos d0 (show 0<l-2*(a+u*(b-a)) by grind);grind
theorem adT{a b l n d u:Rat}(d0:0<d)(hu:u*d=n)(h:0<(l-2*a)*(d-n)+(l-2*b)*n):2*(a+u*(b-a))<l:=by
 subst hu;refine Rat.not_le.1 fun a7 => ?_;have k:=lE (Rat.le_of_lt d0) (show 0≤2*(a+u*(b-a))-l by grind);grind
theorem GR{n d:Int}(hd:0<d):bx n/bx d*bx d=bx n:=Rat.div_mul_cancel (by have:=rF hd;grind)
theorem QH{a b l:Int}{n d:Int}(hd:0<d)(h:kQ (2*a-l) (2*b-l) true n d):bx l≤2*(bx a+bx n/bx d*(bx b-bx a)):=by
 have h1:0≤(2*a-l)*(d-n)+(2*b-l)*n:=by rcases h with h|⟨_,h⟩ <;> omega
 refine adS (rF hd) (GR hd) ?_;have:=s4.2 h1;simpa [bx,uw,Rat.intCast_mul,Rat.intCast_sub] using this
theorem QI{a b l:Int}{n d:Int}(hd:0<d)(h:kQ (l-2*a) (l-2*b) false n d):2*(bx a+bx n/bx d*(bx b-bx a))<bx l:=by
 have h1:0<(l-2*a)*(d-n)+(l-2*b)*n:=by
  rcases h with h|⟨h,_⟩
  ·exact h
  ·cases h
 refine adT (rF hd) (GR hd) ?_;have:=LZ.2 h1;simpa [bx,uw,Rat.intCast_mul,Rat.intCast_sub] using this
theorem agI{r:Nat}(ao:r≤28){p q x:aq}(h:sN (2^r*p.1) (2^r*p.2) (2^r*q.1) (2^r*q.2) r x=true):dZ r x.1 x.2=true∧∃u,r3 (2^r) p q u x:=by
 unfold sN at h;rw[J1 ao] at h;refine⟨h.1,?_⟩;obtain⟨_,n,d,hd,⟨BI,xb⟩,g1,g2,g3,g4⟩:=K9.1 h.2;have d0:=rF hd;refine⟨bx n/bx d,⟨?_,?_⟩,⟨?_,?_⟩,?_,?_⟩
 ·refine Rat.not_lt.1 fun a7 => ?_;have k:=Rat.mul_pos d0 (show 0 < -(bx n/bx d) by grind);have e:=GR (n:=n) hd;have gL:=s4.2 BI;have z:bx 0=0:=by simp[bx]
  rw[z] at gL;generalize bx n/bx d=u at *;grind
 ·refine Rat.not_lt.1 fun a7 => ?_;have k:=Rat.mul_pos d0 (show 0<bx n/bx d-1 by grind);have e:=GR (n:=n) hd;have fG:=s4.2 xb;generalize bx n/bx d=u at *;grind
 ·have:=QH hd g1;simpa [bx,uw,Rat.intCast_mul,Rat.intCast_sub] using this
 ·have:=QI hd g3;simpa [bx,uw,Rat.intCast_mul,Rat.intCast_sub] using this
 ·have:=QH hd g2;simpa [bx,uw,Rat.intCast_mul,Rat.intCast_sub] using this
 ·have:=QI hd g4;simpa [bx,uw,Rat.intCast_mul,Rat.intCast_sub] using this
def q0(p q:aq)(out:List aq)(x:aq):List aq:=if x≠p∧x≠q∧out.getLast?≠some x then out++[x] else out
def OW(p q:aq)(l:List aq):List aq:=l.foldl (q0 p q) []
theorem Rr{fx fy:Bool}{q:aq}:∀ {l:List aq},l.Pairwise (fun a b=>ec fx fy b a=false)→(nG fx fy q l).Pairwise fun a b=>ec fx fy b a=false
 | [],_=>by unfold nG;simp
 | p::l,h=>by
  have ak:=ki.1 h;unfold nG
  split
  ·rename_i aj;refine ki.2 ⟨fun r ao => ?_,h⟩;rcases fi.1 ao with rfl|ao
   ·exact NK aj
   ·cases aZ:ec fx fy r q with
    | false=>rfl
    | true=>have:=ak.1 r ao;rw[AA aZ aj] at this;cases this
  ·rename_i aj;refine ki.2 ⟨fun r ao => ?_,Rr ak.2⟩;rcases fi.1 ((Ca fx fy q l).mem_iff.1 ao) with rfl|ao
   ·simpa using aj
   ·exact ak.1 r ao
theorem alH(fx fy:Bool)(f:aq→Bool)(l:List aq):(tb fx fy f l).Pairwise fun a b=>ec fx fy b a=false:=by
 have key:∀(l out:List aq),out.Pairwise (fun a b=>ec fx fy b a=false)→(l.foldl (fun out q=>if f q then nG fx fy q out else out) out).Pairwise fun a b=>ec fx fy b a=false:=by
  intro l
  induction l with
  | nil=>intro out h;exact h
  | cons q l bY =>
   intro out h;rw[um];refine bY _ ?_
   split
   ·exact Rr h
   ·exact h
 exact key l [] .nil
theorem IJ{fx fy:Bool}{p q:aq}:∀(l out:List aq),lh fx fy out→(∀a∈out,∀b∈l,ec fx fy b a=false)→l.Pairwise (fun a b=>ec fx fy b a=false)→lh fx fy (l.foldl (q0 p q) out)∧(∀x∈l.foldl (q0 p q) out,x∈out∨(x∈l∧x≠p∧x≠q))∧(l.foldl (q0 p q) out).length≤out.length+l.length
 | [],out,h,_,_=>⟨h,fun x ab => .inl ab,cF _⟩
 | x::l,out,h,hw,al=>by
  have ak:=ki.1 al;rw[um]
  by_cases ab:x≠p∧x≠q∧out.getLast?≠some x
  ·have e:q0 p q out x=out++[x]:=by unfold q0;rw[if_pos ab]
   rw[e]
   have aV:lh fx fy (out++[x]):=by
    unfold lh;rw[List.pairwise_append];refine⟨h,List.pairwise_singleton _ _,fun a aV b aa => ?_⟩;rw[jO] at aa;subst aa;have h1:=hw a aV b (hA ..)
    by_cases mN:a=b
    ·subst mN;rcases List.eq_nil_or_concat out with aF|⟨fh,z,aF⟩
     ·subst aF;cases aV
     ·rw[List.concat_eq_append] at aF;subst aF;have aT:z≠a:=fun aZ=>ab.2.2 (by rw[aZ];simp)
      have q9:a∈fh:=by
       rcases kg.1 aV with aK|aK
       ·exact aK
       ·exact absurd (jO.1 aK).symm aT
      have h2:=(List.pairwise_append.1 h).2.2 a q9 z (jO.2 rfl);have ar:=hw z (by simp) a (hA ..);rw[h2] at ar;cases ar
    ·exact(Ib mN).resolve_right (by rw[h1];decide)
   obtain⟨g1,g2,g3⟩:=IJ l (out++[x]) aV (fun a q9 b aa=>by
    rcases kg.1 q9 with aK|aK
    ·exact hw a aK b (k5 _ aa)
    ·rw[jO.1 aK];exact ak.1 b aa) ak.2
   refine⟨g1,fun y ai => ?_,by rw[cZ,List.length_singleton] at g3;simp only[hP];omega⟩;rcases g2 y ai with aK|aK
   ·rcases kg.1 aK with aK|aK
    ·exact .inl aK
    ·rw[jO.1 aK];exact .inr ⟨hA ..,ab.1,ab.2.1⟩
   ·exact .inr ⟨k5 _ aK.1,aK.2⟩
  ·have e:q0 p q out x=out:=by unfold q0;rw[if_neg ab]
   rw[e];obtain⟨g1,g2,g3⟩:=IJ l out h (fun a q9 b aa=>hw a q9 b (k5 _ aa)) ak.2;refine⟨g1,fun y ai => ?_,by simp only[hP];omega⟩;rcases g2 y ai with aK|aK
   ·exact .inl aK
   ·exact .inr ⟨k5 _ aK.1,aK.2⟩
def tq(r:Nat)(l:List aq)(p q:aq):List aq:=OW p q (tb (decide ((2:Int)^r*q.1<2^r*p.1)) (decide ((2:Int)^r*q.2<2^r*p.2)) (sN (2^r*p.1) (2^r*p.2) (2^r*q.1) (2^r*q.2) r) l)
theorem Ed{r:Nat}(ao:r≤28)(l:List aq)(p q:aq):lh (decide ((2:Int)^r*q.1<2^r*p.1)) (decide ((2:Int)^r*q.2<2^r*p.2)) (tq r l p q)∧(∀x∈tq r l p q,(x≠p∧x≠q)∧dZ r x.1 x.2=true∧∃u,r3 (2^r) p q u x)∧(tq r l p q).length≤l.length:=by
 obtain⟨g1,g2,g3⟩:=IJ (p:=p) (q:=q) _ [] (List.Pairwise.nil:lh (decide ((2:Int)^r*q.1<2^r*p.1)) (decide ((2:Int)^r*q.2<2^r*p.2)) []) (fun a aV=>by cases aV) (alH _ _ (sN (2^r*p.1) (2^r*p.2) (2^r*q.1) (2^r*q.2) r) l);refine⟨g1,fun x ab => ?_,?_⟩
 ·rcases g2 x ab with h|⟨h1,h2⟩
  ·cases h
  ·have ar:=(List.mem_filter.1 ((Hc _ _ _ l).mem_iff.1 h1)).2;exact⟨h2,agI ao ar⟩
 ·refine eO g3 ?_;rw[List.length_nil,iF];exact alG _ _ _ l
def gr(R:aq→aq→Prop):List aq→Prop
 | p::q::W=>R p q∧gr R (q::W)
 | _=>True
theorem ID{R:aq→aq→Prop}:∀ {l:List aq},l.Pairwise R→gr R l
 | [],_=>trivial
 | [_],_=>trivial
 | p::q::W,h=>by
  have ak:=ki.1 h;exact⟨ak.1 q (hA ..),ID ak.2⟩
theorem IC{R:aq→aq→Prop}{q:aq}{W:List aq}:∀ {A:List aq},gr R (A++[q])→gr R (q::W)→gr R (A++q::W)
 | [],_,h=>h
 | [a],h,aK=>⟨h.1,aK⟩
 | a::b::A,h,aK=>⟨h.1,IC (A:=b::A) h.2 aK⟩
theorem Ee{r:Nat}(ao:r≤28)(l:List aq)(p q:aq){R:aq→aq→Prop}(aF:R p q)(h1:∀x,(∃u,r3 (2^r) p q u x)→R p x∧R x q)(h2:∀x y u w,r3 (2^r) p q u x→r3 (2^r) p q w y→u≤w→R x y):gr R (p::(tq r l p q++[q])):=by
 obtain⟨s1,s2,_⟩:=Ed ao l p q;have hS:(0:Int)<2^r:=ju (by decide);refine ID (ki.2 ⟨fun x ab => ?_,List.pairwise_append.2 ⟨s1.imp_of_mem fun{x y} ab ai mn => ?_,List.pairwise_singleton _ _,fun x ab y ai => ?_⟩⟩)
 ·rcases kg.1 ab with ab|ab
  ·exact(h1 x (s2 x ab).2.2).1
  ·rw[jO.1 ab];exact aF
 ·obtain⟨u,hu⟩:=(s2 x ab).2.2;obtain⟨w,hw⟩:=(s2 y ai).2.2;exact h2 x y u w hu hw (Sr hS hu hw mn)
 ·rw[jO.1 ai];exact(h1 x (s2 x ab).2.2).2
theorem Zp{r:Nat}(ao:r≤28)(l:List aq)(p q:aq)(h:p≠q):gr (· ≠ ·) (p::(tq r l p q++[q])):=by
 obtain⟨s1,s2,_⟩:=Ed ao l p q;refine ID (ki.2 ⟨fun x ab => ?_,List.pairwise_append.2 ⟨s1.imp fun{x y} mn e => ?_,List.pairwise_singleton _ _,fun x ab y ai => ?_⟩⟩)
 ·rcases kg.1 ab with ab|ab
  ·exact fun e=>(s2 x ab).1.1 e.symm
  ·rw[jO.1 ab];exact h
 ·subst e;rw[NL] at mn;cases mn
 ·rw[jO.1 ai];exact(s2 x ab).1.2
def xL(r:Nat)(V:List aq)(D:List Int):Prop :=
 V≠[]∧V.length=D.length+1∧(∀v∈V,dZ r v.1 v.2=true)∧gr (· ≠ ·) V∧(∀d∈D,1≤d∧d≤1048576) ∧
  (gr (fun p q=>p.1≤q.1) V∨gr (fun p q=>q.1≤p.1) V)∧(gr (fun p q=>p.2≤q.2) V∨gr (fun p q=>q.2≤p.2) V)
def Hd(V:List aq)(j:Nat)(l:List aq):List aq:=V.take (j+1)++l++V.drop (j+1)
def Db(D:List Int)(j:Nat)(n:Nat):List Int:=D.take j++List.replicate (n+1) (D.getD j 0+1)++D.drop (j+1)
theorem aaC{V:List aq}{j:Nat}{p q:aq}(hp:V[j]?=some p)(aj:V[j+1]?=some q):V.drop j=p::q::V.drop (j+2):=by
 obtain⟨h1,aH⟩:=bt.1 hp;obtain⟨h2,aN⟩:=bt.1 aj;rw[jP h1,aH,jP h2,aN]
end Go.Proofs.YtklpfooafbjnpaaGreat
namespace Go.Proofs.YtklpfooafbjnpaaGreat
open Go.RowKit
def qv(a b c d:Int):Int:=if dK a b c d=true then 0 else if a<c∨(a=c∧b<d) then -1 else 1
theorem aje{a b c d:Int}:aP ah 276 [bn a b,bn c d] (aL (qv a b c d)):=by
 have cs:(dK a b c d=true∧qv a b c d=0)∨(dK a b c d=false∧a<c∧qv a b c d = -1)∨(dK a b c d=false∧¬a<c∧a=c∧b<d∧qv a b c d = -1)∨(dK a b c d=false∧¬a<c∧a=c∧¬b<d∧qv a b c d=1)∨(dK a b c d=false∧¬a<c∧¬a=c∧qv a b c d=1):=by
  unfold qv;cases h:dK a b c d with
  | true=>simp
  | false =>
   by_cases h1:a<c <;> by_cases h2:a=c <;> by_cases ar:b<d <;> simp[h1,h2,ar] <;> omega
 rcases cs with ⟨h1,h⟩|⟨h1,h2,h⟩|⟨h1,h2,ar,aJ,h⟩|⟨h1,h2,ar,aJ,h⟩|⟨h1,h2,ar,h⟩ <;> rw[h] <;> clear h
 all_goals
  refine bp (f:=276) Tryz.func276 rfl rfl rfl rfl ?_;(repeat first|refine dd ?_|(with_reducible apply bT (c:=true));rfl;rfl;(exact b5 (by omega))|(with_reducible apply bT (c:=false));rfl;rfl;(exact b8 (by omega)))
  ((refine bk rfl (aX rfl aM) ?_))
  exact ag.aU.refl _
end Go.Proofs.YtklpfooafbjnpaaGreat
