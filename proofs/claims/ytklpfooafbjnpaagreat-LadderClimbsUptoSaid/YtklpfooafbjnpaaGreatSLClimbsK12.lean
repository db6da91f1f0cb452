/-
  My own texts,without what this claim does not need. My own text.
-/
import Derived.Test.YtklpfooafbjnpaaGreatSLClimbsK11
set_option maxRecDepth 100000
set_option maxHeartbeats 64000000
set_option linter.unusedVariables false
set_option linter.unusedSimpArgs false
set_option linter.unusedSectionVars false
open Go.Proofs.Tryz renaming prog → ah
namespace Go.Proofs.YtklpfooafbjnpaaGreat
open Go.RowKit
def bN(L:List (List cc)):Nat:=(L.map List.length).sum
theorem Mp{L:List (List cc)}{k:Nat}{r:List cc}(h:L[k]?=some r):bN (L.take (k+1))=bN (L.take k)+r.length:=by
 rw[take_one h];simp[bN]
theorem Mo{L:List (List cc)}{k:Nat}:bN (L.take k)≤bN L:=by
 have e:bN L=bN (L.take k)+bN (L.drop k):=by
  conv=>lhs;rw[←ki k L]
  simp only[bN,sL,List.sum_append]
 omega
theorem VG{L:List (List cc)}{k:Nat}{r:List cc}(h:L[k]?=some r):r.length≤bN L:=by
 have h1:=Mp h;have h2:=Mo (L:=L) (k:=k+1);omega
def ni:List (List cc)→Nat→Nat
 | [],c=>c
 | r::L,c=>if c≤256 then(if 256<r.length then 257 else ni L (c+r.length)) else c
theorem ajk(r:List cc)(L:List (List cc))(c:Nat):ni (r::L) c=if c≤256 then(if 256<r.length then 257 else ni L (c+r.length)) else c:=rfl
theorem LG:∀(L:List (List cc)) (c:Nat),c≤512→(c+bN L≤256→ni L c=c+bN L)∧(256<c+bN L→256<ni L c)∧ni L c≤512
 | [],c,h=>by simp[ni,bN];omega
 | r::L,c,h=>by
  have e:bN (r::L)=r.length+bN L:=by simp[bN]
  unfold ni;rw[e]
  split
  ·split
   ·omega
   ·have:=LG L (c+r.length) (by omega);omega
  ·omega
def Xy(L:List (List cc))(n:Nat)(az:List (Nat×ag))(aS:List (Nat×List AC)):Prop :=
 ∃(k:Nat) (ek:Int) (c:Nat),k≤L.length∧n=L.length-k∧ek=k∧c≤512∧ni L 0=ni (L.drop k) c∧aS=[]∧az=[(0,.w (.one (hl L))),(3,aL c),(4,aL ek)]
theorem TA{L:List (List cc)}(dn:L.length≤4611686018427387904)(ap:∀r∈L,r.length≤4611686018427387904):aP ah 99 [.w (.one (hl L))] (aL (ni L 0)):=by
 refine bq (f:=99) Tryz.func99 rfl rfl rfl rfl ?_;(refine fi ?_);refine qZ 29 (Xy L) L.length _ [] ⟨0,0,0,du _,rfl,rfl,by decide,rfl,rfl,rfl⟩ rfl ⟨rfl,rfl,rfl,trivial⟩ trivial rfl ?_;rintro n az aS ⟨k,ek,c,ae,rfl,lZ,ak,hv,rfl,rfl⟩ bC;clear bC
 by_cases aj:k<L.length
 ·have q2:ek<(L.length:Int):=by omega
  have q3:0≤ek:=by omega
  obtain⟨r,kd⟩:∃r,L[k]?=some r:=⟨_,bF aj⟩;have hL:=zq lZ kd;have hP:=ap r (cP kd);have hd:L.drop k=r::L.drop (k+1):=by rw[jU aj,(bt.1 kd).2]
  rw[hd] at hv;rw[ajk] at hv
  by_cases h1:(c:Int)≤256
  ·rw[if_pos (by omega)] at hv
   by_cases h2:(r.length:Int)>256
   ·rw[if_pos (by omega)] at hv;rw[hv];(repeat first|refine dd ?_|(with_reducible apply bU (c:=true));rfl;rfl;(exact cd (by omega)))
    ((refine bn rfl (bb rfl aM) ?_))
    exact ag.aW.refl _
   ·rw[if_neg (by omega)] at hv;(repeat first|refine dd ?_|(with_reducible apply bU (c:=true));rfl;rfl;(exact cd (by omega)));exact⟨L.length-(k+1),[(0,.w (.one (hl L))),(3,aL (c+r.length:Nat)),(4,aL (ek+1))],[],by omega,⟨k+1,ek+1,c+r.length,aj,rfl,by omega,by omega,hv,rfl,rfl⟩,rfl,⟨rfl,rfl,rfl,trivial⟩,trivial,rfl⟩
  ·rw[if_neg (by omega)] at hv;rw[hv];(repeat first|refine dd ?_|(with_reducible apply bU (c:=true));rfl;rfl;(exact cd (by omega)))
   ((refine bn rfl (bb rfl aM) ?_))
   exact ag.aW.refl _
 ·have q2:¬ek<(L.length:Int):=by omega
  have cB:L.drop k=[]:=rD (by omega);rw[cB] at hv;rw[hv];(repeat first|refine dd ?_|(with_reducible apply bU (c:=false));rfl;rfl;(exact cb (by omega)))
  ((refine bn rfl (bb rfl aM) ?_))
  exact ag.aW.refl _
def jq(p:cc):Bool:=decide (p.1>67108864)||decide (p.1 < -67108864)||decide (p.2>67108864)||decide (p.2 < -67108864)
def iP:List (List cc)→Int
 | []=>0
 | r::L=>if r.length<3 then 114 else if r.any jq=true then 115 else iP L
theorem CM(r:List cc)(L:List (List cc)):iP (r::L)=if r.length<3 then 114 else if r.any jq=true then 115 else iP L:=rfl
def XF(L:List (List cc))(n:Nat)(az:List (Nat×ag))(aS:List (Nat×List AC)):Prop :=
 ∃(k:Nat) (ek:Int),k≤L.length∧n=L.length-k∧ek=k∧iP L=iP (L.drop k)∧aS=[]∧az=[(0,.w (.one (hl L))),(3,aL ek)]
def XG(L:List (List cc))(r:List cc)(ek:Int)(n:Nat)(az:List (Nat×ag))(aS:List (Nat×List AC)):Prop :=
 ∃(i:Nat) (ii:Int),i≤r.length∧n=r.length-i∧ii=i∧r.any jq=(r.drop i).any jq∧aS=[]∧az=[(0,.w (.one (hl L))),(3,aL ek),(4,aL ii)]
theorem TC{L:List (List cc)}(dn:L.length≤4611686018427387904)(ap:∀r∈L,r.length≤4611686018427387904):aP ah 100 [.w (.one (hl L))] (aL (iP L)):=by
 refine bq (f:=100) Tryz.func100 rfl rfl rfl rfl ?_;(refine fi ?_);refine qZ 52 (XF L) L.length _ [] ⟨0,0,du _,rfl,rfl,rfl,rfl,rfl⟩ rfl ⟨rfl,rfl,trivial⟩ trivial rfl ?_;rintro n az aS ⟨k,ek,ae,rfl,lZ,hv,rfl,rfl⟩ bC;clear bC
 by_cases aj:k<L.length
 ·have q2:ek<(L.length:Int):=by omega
  have q3:0≤ek:=by omega
  obtain⟨r,kd⟩:∃r,L[k]?=some r:=⟨_,bF aj⟩;have hL:=zq lZ kd;have hP:=ap r (cP kd);have hd:L.drop k=r::L.drop (k+1):=by rw[jU aj,(bt.1 kd).2]
  rw[hd] at hv;rw[CM] at hv
  by_cases ar:(r.length:Int)<3
  ·rw[if_pos (by omega)] at hv;rw[hv];(refine fi ?_)
   ((refine bn rfl (bb rfl aM) ?_))
   exact ag.aW.refl _
  ·rw[if_neg (by omega)] at hv;(refine fi ?_);refine qZ 52 (XG L r ek) r.length _ [] ⟨0,0,du _,rfl,rfl,rfl,rfl,rfl⟩ rfl ⟨rfl,rfl,rfl,trivial⟩ trivial rfl ?_;rintro n az aS ⟨i,ii,hi,rfl,ev,ay,rfl,rfl⟩ bC;clear bC
   by_cases hp:i<r.length
   ·have p2:ii<(r.length:Int):=by omega
    have p3:0≤ii:=by omega
    obtain⟨x,y,g1⟩:∃x y,r[i]?=some (x,y):=⟨_,_,bF hp⟩;have ko:=rG ev g1;have yB:r.drop i=(x,y)::r.drop (i+1):=by rw[jU hp,(bt.1 g1).2]
    rw[yB,List.any_cons] at ay
    have cs:(x>67108864∧jq (x,y)=true)∨(¬x>67108864∧x < -67108864∧jq (x,y)=true)∨(¬x>67108864∧¬x < -67108864∧y>67108864∧jq (x,y)=true)∨(¬x>67108864∧¬x < -67108864∧¬y>67108864∧y < -67108864∧jq (x,y)=true)∨(¬x>67108864∧¬x < -67108864∧¬y>67108864∧¬y < -67108864∧jq (x,y)=false):=by
     unfold jq
     by_cases h1:x>67108864 <;> by_cases h2:x < -67108864 <;> by_cases aJ:y>67108864 <;> by_cases bO:y < -67108864 <;> simp[h1,h2,aJ,bO]
    rcases cs with ⟨c1,tD⟩|⟨c1,c2,tD⟩|⟨c1,c2,jm,tD⟩|⟨c1,c2,jm,Az,tD⟩|⟨c1,c2,jm,Az,tD⟩
    iterate 4
     ·rw[tD,Bool.true_or] at ay;rw[if_pos ay] at hv;rw[hv];(repeat first|refine dd ?_|(with_reducible apply bU (c:=true));rfl;rfl;(exact cd (by omega))|(with_reducible apply bU (c:=false));rfl;rfl;(exact cb (by omega)))
      ((refine bn rfl (bb rfl aM) ?_))
      exact ag.aW.refl _
    ·rw[tD,Bool.false_or] at ay;(repeat first|refine dd ?_|(with_reducible apply bU (c:=false));rfl;rfl;(exact cb (by omega)));exact⟨r.length-(i+1),_,[],by omega,⟨i+1,ii+1,hp,rfl,by omega,ay,rfl,rfl⟩,rfl,⟨rfl,rfl,rfl,trivial⟩,trivial,rfl⟩
   ·have p2:¬ii<(r.length:Int):=by omega
    have cB:r.drop i=[]:=rD (by omega);rw[cB] at ay;rw[ay,List.any_nil,if_neg (by decide)] at hv;(refine fi ?_);exact⟨L.length-(k+1),_,[],by omega,⟨k+1,ek+1,aj,rfl,by omega,hv,rfl,rfl⟩,rfl,⟨rfl,rfl,trivial⟩,trivial,rfl⟩
 ·have q2:¬ek<(L.length:Int):=by omega
  have cB:L.drop k=[]:=rD (by omega);rw[cB] at hv;rw[hv];(refine fi ?_)
  ((refine bn rfl (bb rfl aM) ?_))
  exact ag.aW.refl _
def jn(A B:List (List cc))(op fill rung cap:Int):Int :=
 if op<0∨op>3 then 110 else if fill<0∨fill>1 then 111 else if rung<0∨rung>28 then 112 else if cap<1∨cap>1024 then 113 else if bN A+bN B<1∨bN A+bN B>256 then 116 else if iP A=0 then iP B else iP A
theorem aiS{A B:List (List cc)}{op fill rung cap:Int}(cp:A.length≤4611686018427387904)(yw:∀r∈A,r.length≤4611686018427387904)(cZ:B.length≤4611686018427387904)(yx:∀r∈B,r.length≤4611686018427387904) :
  aP ah 45 [.w (.agg (im A B op fill rung cap))] (aL (jn A B op fill rung cap)):=by
 have fw:=TA cp yw;have h8:=TA cZ yx;have R1:=TC cp yw;have dR:=TC cZ yx;obtain⟨s1,s2,bY⟩:=LG A 0 (by decide);obtain⟨t1,t2,t3⟩:=LG B 0 (by decide);have aI:((ni A 0:Int)+(ni B 0:Int)<1∨(ni A 0:Int)+(ni B 0:Int)>256)↔(bN A+bN B<1∨bN A+bN B>256):=by omega
 unfold jn;generalize ni A 0=a at *;generalize ni B 0=b at *;generalize iP A=x at *;generalize iP B=y at *;generalize bN A+bN B=m at *;clear s1 s2 t1 t2
 by_cases k:op<0∨op>3
 ·rw[if_pos k];clear aI
  by_cases bx:op<0
  ·refine bq (f:=45) Tryz.func45 rfl rfl rfl rfl ?_;(repeat first|refine dd ?_|(with_reducible apply bU (c:=true));rfl;rfl;(exact cd (by omega)))
   ((refine bn rfl (bb rfl aM) ?_))
   exact ag.aW.refl _
  ·have cl:op>3:=by omega
   refine bq (f:=45) Tryz.func45 rfl rfl rfl rfl ?_;(repeat first|refine dd ?_|(with_reducible apply bU (c:=false));rfl;rfl;(exact cb (by omega)))
   ((refine bn rfl (bb rfl aM) ?_))
   exact ag.aW.refl _
 ·rw[if_neg k];have aoj:¬op<0:=fun h=>k (.inl h);have aok:¬op>3:=fun h=>k (.inr h);clear k
  by_cases k:fill<0∨fill>1
  ·rw[if_pos k];clear aI
   by_cases bx:fill<0
   ·refine bq (f:=45) Tryz.func45 rfl rfl rfl rfl ?_;(repeat first|refine dd ?_|(with_reducible apply bU (c:=true));rfl;rfl;(exact cd (by omega))|(with_reducible apply bU (c:=false));rfl;rfl;(exact cb (by omega)))
    ((refine bn rfl (bb rfl aM) ?_))
    exact ag.aW.refl _
   ·have cl:fill>1:=by omega
    refine bq (f:=45) Tryz.func45 rfl rfl rfl rfl ?_;(repeat first|refine dd ?_|(with_reducible apply bU (c:=false));rfl;rfl;(exact cb (by omega)))
    ((refine bn rfl (bb rfl aM) ?_))
    exact ag.aW.refl _
  ·rw[if_neg k];have aog:¬fill<0:=fun h=>k (.inl h);have aoh:¬fill>1:=fun h=>k (.inr h);clear k
   by_cases k:rung<0∨rung>28
   ·rw[if_pos k];clear aI
    by_cases bx:rung<0
    ·refine bq (f:=45) Tryz.func45 rfl rfl rfl rfl ?_;(repeat first|refine dd ?_|(with_reducible apply bU (c:=true));rfl;rfl;(exact cd (by omega))|(with_reducible apply bU (c:=false));rfl;rfl;(exact cb (by omega)))
     ((refine bn rfl (bb rfl aM) ?_))
     exact ag.aW.refl _
    ·have cl:rung>28:=by omega
     refine bq (f:=45) Tryz.func45 rfl rfl rfl rfl ?_;(repeat first|refine dd ?_|(with_reducible apply bU (c:=false));rfl;rfl;(exact cb (by omega)))
     ((refine bn rfl (bb rfl aM) ?_))
     exact ag.aW.refl _
   ·rw[if_neg k];have aol:¬rung<0:=fun h=>k (.inl h);have aom:¬rung>28:=fun h=>k (.inr h);clear k
    by_cases k:cap<1∨cap>1024
    ·rw[if_pos k];clear aI
     by_cases bx:cap<1
     ·refine bq (f:=45) Tryz.func45 rfl rfl rfl rfl ?_;(repeat first|refine dd ?_|(with_reducible apply bU (c:=true));rfl;rfl;(exact cd (by omega))|(with_reducible apply bU (c:=false));rfl;rfl;(exact cb (by omega)))
      ((refine bn rfl (bb rfl aM) ?_))
      exact ag.aW.refl _
     ·have cl:cap>1024:=by omega
      refine bq (f:=45) Tryz.func45 rfl rfl rfl rfl ?_;(repeat first|refine dd ?_|(with_reducible apply bU (c:=false));rfl;rfl;(exact cb (by omega)))
      ((refine bn rfl (bb rfl aM) ?_))
      exact ag.aW.refl _
    ·rw[if_neg k];have aoc:¬cap<1:=fun h=>k (.inl h);have aod:¬cap>1024:=fun h=>k (.inr h);clear k
     by_cases k:(a:Int)+(b:Int)<1∨(a:Int)+(b:Int)>256
     ·rw[if_pos (aI.1 k)];clear aI
      by_cases bx:(a:Int)+(b:Int)<1
      ·refine bq (f:=45) Tryz.func45 rfl rfl rfl rfl ?_;(repeat first|refine dd ?_|refine fX ?_|refine lM h8 ?_|(with_reducible apply bU (c:=true));rfl;rfl;(exact cd (by omega))|(with_reducible apply bU (c:=false));rfl;rfl;(exact cb (by omega)))
       ((refine bn rfl (bb rfl aM) ?_))
       exact ag.aW.refl _
      ·have cl:(a:Int)+(b:Int)>256:=by omega
       refine bq (f:=45) Tryz.func45 rfl rfl rfl rfl ?_;(repeat first|refine dd ?_|refine fX ?_|refine lM h8 ?_|(with_reducible apply bU (c:=false));rfl;rfl;(exact cb (by omega)))
       ((refine bn rfl (bb rfl aM) ?_))
       exact ag.aW.refl _
     ·rw[if_neg fun h=>k (aI.2 h)];have m1:¬(a:Int)+(b:Int)<1:=fun h=>k (.inl h);have m2:¬(a:Int)+(b:Int)>256:=fun h=>k (.inr h);clear k aI
      by_cases k:x=0
      ·rw[if_pos k];subst k;refine bq (f:=45) Tryz.func45 rfl rfl rfl rfl ?_;(repeat first|refine dd ?_|refine fX ?_|refine lM h8 ?_|(with_reducible apply bU (c:=false));rfl;rfl;(exact cb (by omega)))
       ((refine bn rfl (bb rfl aM) ?_))
       exact ag.aW.refl _
      ·rw[if_neg k];refine bq (f:=45) Tryz.func45 rfl rfl rfl rfl ?_;(repeat first|refine dd ?_|refine fX ?_|refine lM h8 ?_|(with_reducible apply bU (c:=false));rfl;rfl;(exact cb (by omega)))
       ((refine bn rfl (bb rfl aM) ?_))
       exact ag.aW.refl _
theorem VF(A B:List (List cc)):bN (A++B)=bN A+bN B:=by simp[bN]
theorem Uv:∀(A B:List (List cc)),iP (A++B)=if iP A=0 then iP B else iP A
 | [],B=>rfl
 | r::A,B=>by
  rw[ud,CM,CM]
  by_cases h1:r.length<3
  ·rw[if_pos h1,if_pos h1];rfl
  ·rw[if_neg h1,if_neg h1]
   by_cases h2:r.any jq=true
   ·rw[if_pos h2,if_pos h2];rfl
   ·rw[if_neg h2,if_neg h2];exact Uv A B
theorem Uy{A B:List (List cc)}{i:Nat}{x:List ag}(h:(sT A B)[i]?=some x):∃r,(A++B)[i]?=some r∧x=[.w (.one (lJ r))]:=by
 rw[sT,dD] at h;obtain⟨r,h1,rfl⟩:=Option.map_eq_some_iff.1 h;exact⟨r,h1,rfl⟩
theorem Uz{A B:List (List cc)}:∀x∈sT A B,x.length=1∧x.all ag.aV=true:=fun x ab=>by
 obtain⟨r,_,rfl⟩:=fV.1 ab;exact⟨rfl,rfl⟩
def Xt(M:List (List cc))(i:Nat)(R:aC)(cX:List (List AC)):Prop:=∃c:Int,R=dq∧cX=[[.c (.bool false)],[.c (.int .i64 c)]]∧c=(bN (M.take i):Nat)∧c≤256
def Xu(M:List (List cc))(e:Exit)(R:aC)(cX:List (List AC)):Prop:=∃c:Int,e = .ret∧R=dq∧cX=[[.c (.bool true)],[.c (.int .i64 c)]]∧256<bN M
def xo(A B:List (List cc)):Bool:=decide (bN A+bN B<1∨bN A+bN B>256)
theorem aiG{A B:List (List cc)}{op fill rung cap:Int}(cp:A.length≤4611686018427387904)(cZ:B.length≤4611686018427387904)(ap:∀r∈A++B,r.length≤4611686018427387904) :
  aP ah 162 [.w (.agg (im A B op fill rung cap))] (bl (xo A B)):=by
 have kq:=Tw A B op fill rung cap;have nv:=Rl (A:=A) (B:=B) (op:=op) (fill:=fill) (rung:=rung) (cap:=cap) cp cZ;refine LA (f:=162) Tryz.func162 rfl rfl rfl rfl ?_;(repeat first|refine bQ ?_|refine fO ?_|(with_reducible first|apply xI|apply vN|apply GY));refine CU (swp 2 1002) (lK _ _) ?_;refine CU (swp 3 1003) (lK _ _) ?_;refine L6 16 [(2,zH 1002),(3,zH 1003)] [1002,1003] [[.c (.bool false)],[.c (.int .i64 0)]] dq (Xt (A++B)) (Xu (A++B)) rfl nv (by decide) Uz ?hp rfl ⟨rfl,rfl,trivial⟩ ⟨rfl,rfl,trivial⟩ (by decide) rfl rfl ⟨0,rfl,rfl,rfl,by decide⟩ (a8.refl _) (fun i r h=>by cases h) ?round ?done ?stop
 case hp =>
  intro p hp;simp only[fg,sN,or_false] at hp;subst hp;exact⟨by decide,rfl⟩
 case round =>
  rintro i x R cX ab ⟨c,rfl,rfl,ak,hO⟩ bC;obtain⟨r,h1,rfl⟩:=Uy ab;clear ab bC;have hs:=Mp h1;have al:=Mo (L:=A++B) (k:=i+1);have hP:=ap r (cP h1)
  by_cases aj:c+r.length>256
  ·(refine aQ ?_);exact⟨_,_,⟨_,rfl,rfl,rfl,by omega⟩,a8.refl _,(fun i r h=>by cases h),rfl,⟨rfl,rfl,trivial⟩,rfl⟩
  ·(refine aQ ?_);exact⟨_,_,⟨_,rfl,rfl,by omega,by omega⟩,a8.refl _,(fun i r h=>by cases h),rfl,⟨rfl,rfl,trivial⟩,rfl⟩
 case done =>
  rintro R cX ⟨c,rfl,rfl,ak,hO⟩ bC;clear bC;have cB:(A++B).take (sT A B).length=A++B:=gB (by simp[sT]);rw[cB,VF] at ak;have e:xo A B=decide (c=0):=by unfold xo;rw[vE];omega
  rw[e];(repeat first|refine bQ ?_|(with_reducible first|apply xI|apply vN|apply L7))
  ((refine bn rfl (GL rfl rfl rfl aM) ?_))
  exact ag.aW.refl _
 case stop =>
  rintro e c R cX he ⟨c',rfl,rfl,rfl,h2⟩ bC;clear bC he;rw[VF] at h2;have e:xo A B=true:=cd (by omega);rw[e];(refine aQ ?_)
  ((refine bn rfl (GL rfl rfl rfl aM) ?_))
  exact ag.aW.refl _
theorem aiF{x y:Int}:aP ah 223 [bm x y] (bl (jq (x,y))):=by
 have cs:((if y>x then y else x)>67108864∧jq (x,y)=true)∨(¬(if y>x then y else x)>67108864∧jq (x,y)=decide ((if y<x then y else x) < -67108864)):=by
  unfold jq
  by_cases h:(if y>x then y else x)>67108864
  ·refine .inl ⟨h,?_⟩;simp only[pF,cV]
   split at h <;> omega
  ·refine .inr ⟨h,?_⟩;rw[o7];simp only[pF,cV]
   split at h <;> split <;> omega
 rcases cs with ⟨h,e⟩|⟨h,e⟩
 all_goals
  rw[e];refine bq (f:=223) Tryz.func223 rfl rfl rfl rfl ?_;(repeat first|refine dd ?_|(with_reducible apply bU (c:=true));rfl;rfl;(exact cd (by omega))|(with_reducible apply bU (c:=false));rfl;rfl;(exact cb (by omega)))
  ((refine bn rfl (bb rfl aM) ?_))
  exact ag.aW.refl _
def tq:List cc→Int→Int
 | [],_ => -1
 | p::l,i=>if jq p=true then i else tq l (i+1)
theorem aa1(p:cc)(l:List cc)(i:Int):tq (p::l) i=if jq p=true then i else tq l (i+1):=rfl
theorem Pw:∀(l:List cc) (i:Int),0≤i→(decide (tq l i≥0))=l.any jq
 | [],i,h=>rfl
 | p::l,i,h=>by
  rw[List.any_cons];unfold tq;cases hp:jq p with
  | true=>rw[if_pos rfl,Bool.true_or];exact cd h
  | false=>rw[if_neg (by simp),Bool.false_or];exact Pw l (i+1) (by omega)
abbrev My(f:Nat):ag:=aR (.func (.func f) #[] #[])
def W4(r:List cc)(k:Nat)(az:List (Nat×ag))(aS:List (Nat×List AC)):Prop :=
 ∃(i:Nat) (ii:Int),i≤r.length∧k=r.length-i∧ii=i∧tq r 0=tq (r.drop i) ii∧aS=[]∧az=[(0,.w (.one (lJ r))),(1,My 223),(7,aL r.length),(8,aL ii)]
theorem aiB{r:List cc}(ap:r.length≤4611686018427387904):aP ah 266 [.w (.one (lJ r)),My 223] (aL (tq r 0)):=by
 refine bq (f:=266) Tryz.func266 rfl rfl rfl rfl ?_;(refine fi ?_);refine qZ 19 (W4 r) r.length _ [] ⟨0,0,du _,rfl,rfl,rfl,rfl,rfl⟩ rfl ⟨rfl,rfl,rfl,rfl,trivial⟩ trivial rfl ?_;rintro n az aS ⟨j,dl,af,rfl,kz,gN,rfl,rfl⟩ bC;clear bC
 by_cases hp:j<r.length
 ·have p2:dl<(r.length:Int):=by omega
  have p3:0≤dl:=by omega
  obtain⟨x,y,g1⟩:∃x y,r[j]?=some (x,y):=⟨_,_,bF hp⟩;have ko:=rG kz g1;have hd:r.drop j=(x,y)::r.drop (j+1):=by rw[jU hp,(bt.1 g1).2]
  have fw:=aiF (x:=x) (y:=y);rw[hd,aa1] at gN;cases ay:jq (x,y) with
  | true =>
   rw[ay] at gN fw;rw[if_pos rfl] at gN;rw[gN];(refine cR ?_)
   ((refine bn rfl (bb rfl aM) ?_))
   exact ag.aW.refl _
  | false =>
   rw[ay] at gN fw;rw[if_neg (by simp)] at gN;(refine cR ?_);exact⟨r.length-(j+1),_,[],by omega,⟨j+1,dl+1,hp,rfl,by omega,gN,rfl,rfl⟩,rfl,⟨rfl,rfl,rfl,rfl,trivial⟩,trivial,rfl⟩
 ·have e:j=r.length:=by omega
  subst e;rw[List.drop_length] at gN;rw[show tq [] dl = -1 from rfl] at gN;rw[gN];(refine fi ?_)
  ((refine bn rfl (bb rfl aM) ?_))
  exact ag.aW.refl _
theorem aij{r:List cc}(ap:r.length≤4611686018427387904):aP ah 222 [.w (.one (lJ r)),My 223] (bl (r.any jq)):=by
 have fw:=aiB ap;rw[←Pw r 0 (by decide)];refine bq (f:=222) Tryz.func222 rfl rfl rfl rfl ?_;(refine cR ?_)
 ((refine bn rfl (bb rfl aM) ?_))
 exact ag.aW.refl _
def WR(M:List (List cc))(i:Nat)(R:aC)(cX:List (List AC)):Prop:=R=dq∧cX=[[.c (.int .i64 0)]]∧iP M=iP (M.drop i)
def WS(M:List (List cc))(e:Exit)(R:aC)(cX:List (List AC)):Prop:=e = .ret∧R=dq∧cX=[[.c (.int .i64 (iP M))]]
theorem aif{A B:List (List cc)}{op fill rung cap:Int}(cp:A.length≤4611686018427387904)(cZ:B.length≤4611686018427387904)(ap:∀r∈A++B,r.length≤4611686018427387904) :
  aP ah 163 [.w (.agg (im A B op fill rung cap))] (aL (iP (A++B))):=by
 have kq:=Tw A B op fill rung cap;have nv:=Rl (A:=A) (B:=B) (op:=op) (fill:=fill) (rung:=rung) (cap:=cap) cp cZ;refine LA (f:=163) Tryz.func163 rfl rfl rfl rfl ?_;(repeat first|refine bQ ?_|refine fO ?_|(with_reducible first|apply xI|apply vN|apply GY));refine CU (swp 2 1002) (lK _ _) ?_;refine L6 12 [(2,zH 1002)] [1002] [[.c (.int .i64 0)]] dq (WR (A++B)) (WS (A++B)) rfl nv (by decide) Uz ?hp rfl ⟨rfl,trivial⟩ ⟨rfl,trivial⟩ (by decide) rfl rfl ⟨rfl,rfl,rfl⟩ (a8.refl _) (fun i r h=>by cases h) ?round ?done ?stop
 case hp =>
  intro p hp;simp only[fg,sN,or_false] at hp;subst hp;exact⟨by decide,rfl⟩
 case round =>
  rintro i x R cX ab ⟨rfl,rfl,hv⟩ bC;obtain⟨r,h1,rfl⟩:=Uy ab;clear ab bC;have hP:=ap r (cP h1);have hd:(A++B).drop i=r::(A++B).drop (i+1):=by rw[jU (bt.1 h1).1,(bt.1 h1).2]
  rw[hd,CM] at hv;have fw:=aij hP
  by_cases aj:r.length<3
  ·rw[if_pos aj] at hv;have l0:(r.length:Int)<3:=by omega
   (refine aQ ?_);exact⟨_,[[.c (.int .i64 114)]],⟨rfl,rfl,by rw[hv]⟩,a8.refl _,(fun i r h=>by cases h),rfl,⟨rfl,trivial⟩,rfl⟩
  ·rw[if_neg aj] at hv;have l0:¬(r.length:Int)<3:=by omega
   cases ay:r.any jq with
   | true =>
    rw[ay] at hv fw;rw[if_pos rfl] at hv;(refine mD ?_);exact⟨_,[[.c (.int .i64 115)]],⟨rfl,rfl,by rw[hv]⟩,a8.refl _,(fun i r h=>by cases h),rfl,⟨rfl,trivial⟩,rfl⟩
   | false =>
    rw[ay] at hv fw;rw[if_neg (by simp)] at hv;(refine mD ?_);exact⟨_,_,⟨rfl,rfl,hv⟩,a8.refl _,(fun i r h=>by cases h),rfl,⟨rfl,trivial⟩,rfl⟩
 case done =>
  rintro R cX ⟨rfl,rfl,hv⟩ bC;clear bC;rw[rD (by simp[sT]),show iP []=0 from rfl] at hv;rw[hv];(repeat first|refine bQ ?_|(with_reducible first|apply xI|apply vN|apply L7))
  ((refine bn rfl (GL rfl rfl rfl aM) ?_))
  exact ag.aW.refl _
 case stop =>
  rintro e c R cX he ⟨rfl,rfl,rfl⟩ bC;clear bC he;(refine aQ ?_)
  ((refine bn rfl (GL rfl rfl rfl aM) ?_))
  exact ag.aW.refl _
theorem Gp{A B:List (List cc)}{op fill rung cap:Int}(cp:A.length≤4611686018427387904)(cZ:B.length≤4611686018427387904)(ap:∀r∈A++B,r.length≤4611686018427387904) :
  aP ah 97 [.w (.agg (im A B op fill rung cap))] (aL (jn A B op fill rung cap)):=by
 have fw:=aiG (op:=op) (fill:=fill) (rung:=rung) (cap:=cap) cp cZ ap;have h8:=aif (op:=op) (fill:=fill) (rung:=rung) (cap:=cap) cp cZ ap
 have cs:∃c,jn A B op fill rung cap=c∧((op<0∧c=110)∨(¬op<0∧op>3∧c=110)∨(¬op<0∧¬op>3∧((fill<0∧c=111)∨(¬fill<0∧fill>1∧c=111)∨(¬fill<0∧¬fill>1∧((rung<0∧c=112)∨(¬rung<0∧rung>28∧c=112)∨(¬rung<0∧¬rung>28∧((cap<1∧c=113)∨(¬cap<1∧cap>1024∧c=113)∨(¬cap<1∧¬cap>1024∧((xo A B=true∧c=116)∨(xo A B=false∧c=iP (A++B))))))))))):=by
  refine⟨_,rfl,?_⟩;unfold jn xo;rw[Uv]
  by_cases o1:op<0
  ·exact .inl ⟨o1,by rw[if_pos (.inl o1)]⟩
  by_cases o2:op>3
  ·exact .inr (.inl ⟨o1,o2,by rw[if_pos (.inr o2)]⟩)
  refine .inr (.inr ⟨o1,o2,?_⟩);rw[if_neg (by omega)]
  by_cases f1:fill<0
  ·exact .inl ⟨f1,by rw[if_pos (.inl f1)]⟩
  by_cases f2:fill>1
  ·exact .inr (.inl ⟨f1,f2,by rw[if_pos (.inr f2)]⟩)
  refine .inr (.inr ⟨f1,f2,?_⟩);rw[if_neg (by omega)]
  by_cases cn:rung<0
  ·exact .inl ⟨cn,by rw[if_pos (.inl cn)]⟩
  by_cases dQ:rung>28
  ·exact .inr (.inl ⟨cn,dQ,by rw[if_pos (.inr dQ)]⟩)
  refine .inr (.inr ⟨cn,dQ,?_⟩);rw[if_neg (by omega)]
  by_cases c1:cap<1
  ·exact .inl ⟨c1,by rw[if_pos (.inl c1)]⟩
  by_cases c2:cap>1024
  ·exact .inr (.inl ⟨c1,c2,by rw[if_pos (.inr c2)]⟩)
  refine .inr (.inr ⟨c1,c2,?_⟩);rw[if_neg (by omega)]
  by_cases m1:bN A+bN B<1∨bN A+bN B>256
  ·exact .inl ⟨cd m1,by rw[if_pos m1]⟩
  ·exact .inr ⟨cb m1,by rw[if_neg m1]⟩
 obtain⟨c,e,cs⟩:=cs;rw[e];clear e cp cZ ap;rcases cs with ⟨o1,rfl⟩|⟨o1,o2,rfl⟩|⟨o1,o2,cs⟩
 ·refine bq (f:=97) Tryz.func97 rfl rfl rfl rfl ?_;(repeat first|refine dd ?_|(with_reducible apply bU (c:=true));rfl;rfl;(exact cd (by omega)))
  ((refine bn rfl (bb rfl aM) ?_))
  exact ag.aW.refl _
 ·refine bq (f:=97) Tryz.func97 rfl rfl rfl rfl ?_;(repeat first|refine dd ?_|(with_reducible apply bU (c:=false));rfl;rfl;(exact cb (by omega)))
  ((refine bn rfl (bb rfl aM) ?_))
  exact ag.aW.refl _
 rcases cs with ⟨f1,rfl⟩|⟨f1,f2,rfl⟩|⟨f1,f2,cs⟩
 ·refine bq (f:=97) Tryz.func97 rfl rfl rfl rfl ?_;(repeat first|refine dd ?_|(with_reducible apply bU (c:=true));rfl;rfl;(exact cd (by omega))|(with_reducible apply bU (c:=false));rfl;rfl;(exact cb (by omega)))
  ((refine bn rfl (bb rfl aM) ?_))
  exact ag.aW.refl _
 ·refine bq (f:=97) Tryz.func97 rfl rfl rfl rfl ?_;(repeat first|refine dd ?_|(with_reducible apply bU (c:=false));rfl;rfl;(exact cb (by omega)))
  ((refine bn rfl (bb rfl aM) ?_))
  exact ag.aW.refl _
 rcases cs with ⟨cn,rfl⟩|⟨cn,dQ,rfl⟩|⟨cn,dQ,cs⟩
 ·refine bq (f:=97) Tryz.func97 rfl rfl rfl rfl ?_;(repeat first|refine dd ?_|(with_reducible apply bU (c:=true));rfl;rfl;(exact cd (by omega))|(with_reducible apply bU (c:=false));rfl;rfl;(exact cb (by omega)))
  ((refine bn rfl (bb rfl aM) ?_))
  exact ag.aW.refl _
 ·refine bq (f:=97) Tryz.func97 rfl rfl rfl rfl ?_;(repeat first|refine dd ?_|(with_reducible apply bU (c:=false));rfl;rfl;(exact cb (by omega)))
  ((refine bn rfl (bb rfl aM) ?_))
  exact ag.aW.refl _
 rcases cs with ⟨c1,rfl⟩|⟨c1,c2,rfl⟩|⟨c1,c2,cs⟩
 ·refine bq (f:=97) Tryz.func97 rfl rfl rfl rfl ?_;(repeat first|refine dd ?_|(with_reducible apply bU (c:=true));rfl;rfl;(exact cd (by omega))|(with_reducible apply bU (c:=false));rfl;rfl;(exact cb (by omega)))
  ((refine bn rfl (bb rfl aM) ?_))
  exact ag.aW.refl _
 ·refine bq (f:=97) Tryz.func97 rfl rfl rfl rfl ?_;(repeat first|refine dd ?_|(with_reducible apply bU (c:=false));rfl;rfl;(exact cb (by omega)))
  ((refine bn rfl (bb rfl aM) ?_))
  exact ag.aW.refl _
 rcases cs with ⟨m1,rfl⟩|⟨m1,rfl⟩
 ·rw[m1] at fw;refine bq (f:=97) Tryz.func97 rfl rfl rfl rfl ?_;(repeat first|refine dd ?_|refine fX ?_|(with_reducible apply bU (c:=false));rfl;rfl;(exact cb (by omega)))
  ((refine bn rfl (bb rfl aM) ?_))
  exact ag.aW.refl _
 ·rw[m1] at fw;refine bq (f:=97) Tryz.func97 rfl rfl rfl rfl ?_;(repeat first|refine dd ?_|refine fX ?_|refine lM h8 ?_|(with_reducible apply bU (c:=false));rfl;rfl;(exact cb (by omega)))
  ((refine bn rfl (bb rfl aM) ?_))
  exact ag.aW.refl _
instance anO:nw ah 22 63 5 40:=⟨by kernel_rfl⟩
abbrev uT(v:Value)(l:List (Int×(cc×cc))):bE:=⟨63,5,v,l.length,oe l⟩
theorem EG(v:Value)(l:List (Int×(cc×cc)))(x:Int×(cc×cc)):uT v (l++[x])=⟨63,5,v,l.length+1,oe l++ED x⟩:=by
 simp[uT,oe,sM]
def gn(o:Int)(L:List (List cc)):List (Int×(cc×cc)):=(iE L).map fun e=>(o,e)
theorem SX{o:Int}{L:List (List cc)}{k:Nat}{r:List cc}(h:L[k]?=some r):gn o (L.take (k+1))=gn o (L.take k)++(lU r).map fun e=>(o,e):=by
 rw[take_one h];simp[gn,iE,sM]
theorem SW{o:Int}{L:List (List cc)}{k:Nat}:(gn o (L.take k)).length≤(gn o L).length:=by
 have e:gn o L=gn o (L.take k)++gn o (L.drop k):=by
  unfold gn iE;rw[←sL,←sM,ki]
 rw[e,c3];omega
def Nl(L:List (List cc))(o:Int)(n:Nat)(R:aC)(az:List (Nat×ag))(aS:List (Nat×List AC)):Prop :=
 ∃(k:Nat) (v:Value) (ek:Int),k≤L.length∧n=L.length-k∧ek=k∧R=bp 0 (uT v (gn o (L.take k)))∧aS=[]∧az=[(0,.w (.one (hl L))),(1,aL o),(5,aR v),(6,aL ek)]
def Nk(L:List (List cc))(o:Int)(r:List cc)(S:List (Int×(cc×cc)))(ek:Int)(n:Nat)(R:aC)(az:List (Nat×ag))(aS:List (Nat×List AC)):Prop :=
 ∃(i:Nat) (v:Value) (ii:Int),i≤r.length∧n=r.length-i∧ii=i∧R=bp 0 (uT v (S++((lU r).take i).map fun e=>(o,e)))∧aS=[]∧az=[(0,.w (.one (hl L))),(1,aL o),(5,aR v),(6,aL ek),(7,.w (.one (lJ r))),(8,aL ii)]
theorem ais{L:List (List cc)}{o:Int}(dn:L.length≤900000)(ap:∀r∈L,r.length≤900000)(gj:(gn o L).length≤900000):aP ah 101 [.w (.one (hl L)),aL o] (cG 5 (gn o L).length (oe (gn o L))):=by
 refine bq (f:=101) Tryz.func101 rfl rfl rfl rfl ?_;refine uJ ?_;refine oJ 0 63 5 rfl ?_;(refine aQ ?_);refine iy 50 (Nl L o) L.length (bp 0 (uT (.slice none 0 0) [])) _ [] ⟨0,.slice none 0 0,0,du _,rfl,rfl,rfl,rfl,rfl⟩ (lc _ _ _) rfl ⟨rfl,rfl,rfl,rfl,trivial⟩ trivial rfl ?_;rintro n R az aS ⟨k,v,ek,ae,rfl,lZ,rfl,rfl,rfl⟩ bC;clear bC
 by_cases aj:k<L.length
 ·have q2:ek<(L.length:Int):=by omega
  have q3:0≤ek:=by omega
  obtain⟨r,kd⟩:∃r,L[k]?=some r:=⟨_,bF aj⟩;have hL:=zq lZ kd;have hP:=ap r (cP kd);have aD:=SX (o:=o) kd;have adx:=SW (o:=o) (L:=L) (k:=k+1);generalize hS:gn o (L.take k)=S at *;(refine aQ ?_);refine iy 50 (Nk L o r S ek) r.length _ _ [] ⟨0,v,0,du _,rfl,rfl,by rw[List.take_zero,pG,nk],rfl,rfl⟩ (a8.refl _) rfl ⟨rfl,rfl,rfl,rfl,rfl,rfl,trivial⟩ trivial rfl ?_;rintro n R az aS ⟨i,v,ii,hi,rfl,ev,rfl,rfl,rfl⟩ bC;clear bC
  by_cases hp:i<r.length
  ·have p2:ii<(r.length:Int):=by omega
   have p3:0≤ii:=by omega
   obtain⟨x,y,g1⟩:∃x y,r[i]?=some (x,y):=⟨_,_,bF hp⟩;obtain⟨li,hK,g0⟩:∃x y,r[0]?=some (x,y):=⟨_,_,bF (by omega)⟩;have ko:=rG ev g1;have Hz:=rG (ii:=0) rfl g0
   have hlen:(S++((lU r).take i).map fun e=>(o,e)).length+1≤900000:=by
    have aI:(lU r).length=r.length:=wI r;have aO:(gn o (L.take (k+1))).length=S.length+r.length:=by rw[aD];simp[aI]
    simp only[c3,jT,dX];omega
   by_cases aA:i+1<r.length
   ·have gI:ii+1<(r.length:Int):=by omega
    obtain⟨di,mE,g2⟩:∃x y,r[i+1]?=some (x,y):=⟨_,_,bF aA⟩;have pU:=rG (ii:=ii+1) (by omega) g2;have aE:=take_one (AP g1 (by rw[if_pos aA];exact g2));(repeat first|(with_reducible apply dv (id:=12) [0,1,2,3,4,5,6,7,8,9,10]);kernel_rfl;kernel_rfl;rfl|refine bQ ?_);refine na 0 rfl rfl rfl rfl ?q1 ?q2 rfl rfl (fun bf bT => ?_)
    case q1=>exact jB (eI hlen (by decide))
    case q2=>exact eI (iw 40 hlen) (by decide)
    (refine aQ ?_);refine⟨r.length-(i+1),_,_,[],by omega,⟨i+1,bf,ii+1,by omega,rfl,by omega,rfl,rfl,rfl⟩,?_,rfl,⟨rfl,rfl,rfl,rfl,rfl,rfl,trivial⟩,trivial,rfl⟩;rw[aE,sL,←hD,hY,pG,EG];exact lc _ _ _
   ·have gI:¬ii+1<(r.length:Int):=by omega
    have aE:=take_one (AP g1 (by rw[if_neg aA];exact g0));(repeat first|(with_reducible apply dv (id:=12) [0,1,2,3,4,5,6,7,8,9,10]);kernel_rfl;kernel_rfl;rfl|refine bQ ?_);refine na 0 rfl rfl rfl rfl ?q3 ?q4 rfl rfl (fun bf bT => ?_)
    case q3=>exact jB (eI hlen (by decide))
    case q4=>exact eI (iw 40 hlen) (by decide)
    (refine aQ ?_);refine⟨r.length-(i+1),_,_,[],by omega,⟨i+1,bf,ii+1,by omega,rfl,by omega,rfl,rfl,rfl⟩,?_,rfl,⟨rfl,rfl,rfl,rfl,rfl,rfl,trivial⟩,trivial,rfl⟩;rw[aE,sL,←hD,hY,pG,EG];exact lc _ _ _
  ·have e:(lU r).take i=lU r:=gB (by rw[wI];omega);have p2:¬ii<(r.length:Int):=by omega
   rw[e,←aD];(refine aQ ?_);exact⟨L.length-(k+1),_,_,[],by omega,⟨k+1,v,ek+1,aj,rfl,by omega,rfl,rfl,rfl⟩,a8.refl _,rfl,⟨rfl,rfl,rfl,rfl,trivial⟩,trivial,rfl⟩
 ·have q2:¬ek<(L.length:Int):=by omega
  have cB:L.take k=L:=gB (by omega);rw[cB];refine zy 0 5 (uT v (gn o L)) rfl rfl ?_;(refine aQ ?_)
  ((refine bn rfl (bb rfl aM) ?_))
  exact ag.aW.refl _
theorem aay(l:List (Int×(cc×cc))):(oe l).all AC.aV=true:=by
 rw[b4];intro x ab;obtain⟨e,_,he⟩:=List.mem_flatMap.1 ab;simp only[ED,fg,sN,or_false] at he;rcases he with rfl|rfl|rfl|rfl|rfl <;> rfl
instance anP:Enters ah 101:=⟨by kernel_rfl⟩
theorem X4{L:List (List cc)}{o:Int}(dn:L.length≤900000)(ap:∀r∈L,r.length≤900000)(gj:(gn o L).length≤900000):pe ah 101 [.w (.one (hl L)),aL o] fun v q=>∃bf,v=aR bf∧q=uT bf (gn o L):=by
 refine DX rfl (fun v q h=>by obtain⟨bf,rfl,_⟩:=h;rfl) ?_;refine cC (f:=101) Tryz.func101 rfl (b8 rfl) (by exact ib) ?_;refine oJ 0 63 5 rfl ?_;(refine aQ ?_);refine iy 50 (Nl L o) L.length (bp 0 (uT (.slice none 0 0) [])) _ [] ⟨0,.slice none 0 0,0,du _,rfl,rfl,rfl,rfl,rfl⟩ (lc _ _ _) rfl ⟨rfl,rfl,rfl,rfl,trivial⟩ trivial rfl ?_;rintro n R az aS ⟨k,v,ek,ae,rfl,lZ,rfl,rfl,rfl⟩ bC;clear bC
 by_cases aj:k<L.length
 ·have q2:ek<(L.length:Int):=by omega
  have q3:0≤ek:=by omega
  obtain⟨r,kd⟩:∃r,L[k]?=some r:=⟨_,bF aj⟩;have hL:=zq lZ kd;have hP:=ap r (cP kd);have aD:=SX (o:=o) kd;have adx:=SW (o:=o) (L:=L) (k:=k+1);generalize hS:gn o (L.take k)=S at *;(refine aQ ?_);refine iy 50 (Nk L o r S ek) r.length _ _ [] ⟨0,v,0,du _,rfl,rfl,by rw[List.take_zero,pG,nk],rfl,rfl⟩ (a8.refl _) rfl ⟨rfl,rfl,rfl,rfl,rfl,rfl,trivial⟩ trivial rfl ?_;rintro n R az aS ⟨i,v,ii,hi,rfl,ev,rfl,rfl,rfl⟩ bC;clear bC
  by_cases hp:i<r.length
  ·have p2:ii<(r.length:Int):=by omega
   have p3:0≤ii:=by omega
   obtain⟨x,y,g1⟩:∃x y,r[i]?=some (x,y):=⟨_,_,bF hp⟩;obtain⟨li,hK,g0⟩:∃x y,r[0]?=some (x,y):=⟨_,_,bF (by omega)⟩;have ko:=rG ev g1;have Hz:=rG (ii:=0) rfl g0
   have hlen:(S++((lU r).take i).map fun e=>(o,e)).length+1≤900000:=by
    have aI:(lU r).length=r.length:=wI r;have aO:(gn o (L.take (k+1))).length=S.length+r.length:=by rw[aD];simp[aI]
    simp only[c3,jT,dX];omega
   by_cases aA:i+1<r.length
   ·have gI:ii+1<(r.length:Int):=by omega
    obtain⟨di,mE,g2⟩:∃x y,r[i+1]?=some (x,y):=⟨_,_,bF aA⟩;have pU:=rG (ii:=ii+1) (by omega) g2;have aE:=take_one (AP g1 (by rw[if_pos aA];exact g2));(repeat first|(with_reducible apply dv (id:=12) [0,1,2,3,4,5,6,7,8,9,10]);kernel_rfl;kernel_rfl;rfl|refine bQ ?_);refine na 0 rfl rfl rfl rfl ?q1 ?q2 rfl rfl (fun bf bT => ?_)
    case q1=>exact jB (eI hlen (by decide))
    case q2=>exact eI (iw 40 hlen) (by decide)
    (refine aQ ?_);refine⟨r.length-(i+1),_,_,[],by omega,⟨i+1,bf,ii+1,by omega,rfl,by omega,rfl,rfl,rfl⟩,?_,rfl,⟨rfl,rfl,rfl,rfl,rfl,rfl,trivial⟩,trivial,rfl⟩;rw[aE,sL,←hD,hY,pG,EG];exact lc _ _ _
   ·have gI:¬ii+1<(r.length:Int):=by omega
    have aE:=take_one (AP g1 (by rw[if_neg aA];exact g0));(repeat first|(with_reducible apply dv (id:=12) [0,1,2,3,4,5,6,7,8,9,10]);kernel_rfl;kernel_rfl;rfl|refine bQ ?_);refine na 0 rfl rfl rfl rfl ?q3 ?q4 rfl rfl (fun bf bT => ?_)
    case q3=>exact jB (eI hlen (by decide))
    case q4=>exact eI (iw 40 hlen) (by decide)
    (refine aQ ?_);refine⟨r.length-(i+1),_,_,[],by omega,⟨i+1,bf,ii+1,by omega,rfl,by omega,rfl,rfl,rfl⟩,?_,rfl,⟨rfl,rfl,rfl,rfl,rfl,rfl,trivial⟩,trivial,rfl⟩;rw[aE,sL,←hD,hY,pG,EG];exact lc _ _ _
  ·have e:(lU r).take i=lU r:=gB (by rw[wI];omega);have p2:¬ii<(r.length:Int):=by omega
   rw[e,←aD];(refine aQ ?_);exact⟨L.length-(k+1),_,_,[],by omega,⟨k+1,v,ek+1,aj,rfl,by omega,rfl,rfl,rfl⟩,a8.refl _,rfl,⟨rfl,rfl,rfl,rfl,trivial⟩,trivial,rfl⟩
 ·have q2:¬ek<(L.length:Int):=by omega
  have cB:L.take k=L:=gB (by omega);rw[cB];(refine aQ ?_)
  ((refine yE rfl (bb rfl aM) rfl rfl (gJ _) ?_))
  exact⟨v,rfl,rfl⟩
theorem aiT{A B:List (List cc)}{op fill rung cap:Int}(cp:A.length≤900000)(yw:∀r∈A,r.length≤900000)(anb:(gn 0 A).length≤400000)(cZ:B.length≤900000)(yx:∀r∈B,r.length≤900000)(anc:(gn 1 B).length≤400000) :
  aP ah 47 [.w (.agg (im A B op fill rung cap))] (cG 5 ((gn 0 A).length+(gn 1 B).length) (oe (gn 0 A)++oe (gn 1 B))):=by
 have dj:=X4 (L:=A) (o:=0) cp yw (by omega);have Am:=ais (L:=B) (o:=1) cZ yx (by omega);refine bq (f:=47) Tryz.func47 rfl rfl rfl rfl ?_;refine uJ ?_;(repeat first|(with_reducible apply fW (id:=1) [0,1,3,4,2,5,6,7] [5]);kernel_rfl;kernel_rfl;rfl|refine bQ ?_);refine FC 0 rfl rfl rfl rfl dj rfl rfl (fun br q h => ?_);obtain⟨bf,rfl,rfl⟩:=h;(refine mD ?_);refine na 0 rfl rfl rfl rfl ?q1 ?q2 (aay _) rfl (fun v2 nf => ?_)
 case q1=>exact jB (by show (gn 0 A).length+(gn 1 B).length≤1000000;omega)
 case q2=>show ((gn 0 A).length+(gn 1 B).length)*40≤140737488355328;omega
 (repeat first|(with_reducible apply QP);kernel_rfl|with_reducible apply UX|(with_reducible apply eH);rfl;(repeat first|(with_reducible apply gd);rfl);(with_reducible apply dC));refine zy 0 2 _ rfl rfl ?_;(refine aQ ?_)
 ((refine bn rfl (bb rfl aM) ?_))
 exact ag.aW.refl _
instance anN:nw ah 65 127 1 24:=⟨by kernel_rfl⟩
theorem ai4{P:Program}{f:FuncId}{args od:List ag}{r:ag}(h:aP P f args r)(gE:od.all ag.aV=true)(al:od.length=args.length)(hle:∀(i:Nat) x y,od[i]?=some x→args[i]?=some y→x.aW y):aP P f od r :=
 ⟨fun x ab=>ag.cU (b4.1 gE x ab),h.cm,fun U W vs cJ=>h.call U W vs ⟨by rw[←al];exact cJ.1,fun i y v ai hv=>by
  have hi:i<od.length:=by rw[al];exact(bt.1 ai).1
  exact hle i _ y (bF hi) ai U id W v (cJ.2 i _ v (bF hi) hv)⟩⟩
theorem KH{A:List (List cc)}{op fill rung cap:Int}:ag.aW (.w (.agg [hl A,.c (.slice none 0 0),.c (.int .i64 op),.c (.int .i64 fill),.c (.int .i64 rung),.c (.int .i64 cap)])) (.w (.agg (im A [] op fill rung cap))):=D2 rfl fun j x y ab ai=>by
 match j with
 | 0=>cases ab;cases ai;exact .inl rfl
 | 1=>cases ab;cases ai;exact .inr ⟨rfl,1,rfl⟩
 | 2=>cases ab;cases ai;exact .inl rfl
 | 3=>cases ab;cases ai;exact .inl rfl
 | 4=>cases ab;cases ai;exact .inl rfl
 | 5=>cases ab;cases ai;exact .inl rfl
 | j+6=>simp at ab
theorem aeN{op fill rung cap:Int}:ag.aW (.w (.agg [.c (.slice none 0 0),.c (.slice none 0 0),.c (.int .i64 op),.c (.int .i64 fill),.c (.int .i64 rung),.c (.int .i64 cap)])) (.w (.agg (im [] [] op fill rung cap))):=D2 rfl fun j x y ab ai=>by
 match j with
 | 0=>cases ab;cases ai;exact .inr ⟨rfl,1,rfl⟩
 | 1=>cases ab;cases ai;exact .inr ⟨rfl,1,rfl⟩
 | 2=>cases ab;cases ai;exact .inl rfl
 | 3=>cases ab;cases ai;exact .inl rfl
 | 4=>cases ab;cases ai;exact .inl rfl
 | 5=>cases ab;cases ai;exact .inl rfl
 | j+6=>simp at ab
theorem B8{P:Program}{f:FuncId}{x y:ag}{ys:List ag}{r:ag}(h:aP P f (y::ys) r)(wG:x.aV=true)(cs:ys.all ag.aV=true)(hle:x.aW y):aP P f (x::ys) r:=ai4 h (by rw[kM,wG,cs];rfl) rfl fun i a b aX aa=>by
 cases i with
 | zero=>cases aX;cases aa;exact hle
 | succ i=>rw[List.getElem?_cons_succ] at aX aa;rw[aX] at aa;cases aa;exact .refl _
def Xq(L:List (List cc))(b:Nat)(n:Nat)(az:List (Nat×ag))(aS:List (Nat×List AC)):Prop :=
 ∃(i:Nat) (ii c:Int),i≤L.length∧n=L.length-i∧ii=i∧c=((b+bN (L.take i):Nat):Int)∧aS=[]∧az=[(3,aL c),(24,.w (.one (hl L))),(25,aL L.length),(26,aL ii)]
theorem ahQ{A B:List (List cc)}{op fill rung cap:Int}(aa:A.length+B.length+bN A+bN B≤1048576) :
  aP ah 96 [.w (.agg (im A B op fill rung cap))] (aL ((A.length+B.length+(bN A+bN B):Nat):Int)):=by
 have jZ:(A.length:Int).toNat-0=A.length:=by omega
 have z2:((A.map lJ).drop (0*1)).take (A.length*1)=A.map lJ:=by rw[Nat.zero_mul,List.drop_zero,Nat.mul_one,gB (by simp)]
 have z3:A.length+B.length=(A++B).length:=by simp
 have z4:A.map lJ++B.map lJ=(A++B).map lJ:=by simp
 have z5:(A.length+B.length)*24≤140737488355328:=by omega
 have aoy:bN (A++B)=bN A+bN B:=by simp[bN]
 have Wt:(A.length:Int)+B.length=(((A++B).length+bN ((A++B).take 0):Nat):Int):=by simp[bN]
 have z9:A.length+B.length≤900000∨900000<A.length+B.length:=by omega
 have amf:A.length+B.length≤maxLen:=eI (m:=1048576) (by omega) (by decide);refine bq (f:=96) Tryz.func96 rfl rfl rfl rfl ?_;(repeat first|(with_reducible apply YY);(iterate 4 rfl);(omega);(omega);(assumption);(assumption);rfl|(with_reducible apply NC);(iterate 3 rfl);(assumption);(assumption);(assumption);(assumption);rfl|refine dd ?_);refine qZ 36 (Xq (A++B) (A++B).length) (A++B).length _ [] ⟨0,0,_,du _,rfl,rfl,Wt,rfl,rfl⟩ rfl ⟨rfl,rfl,rfl,rfl,trivial⟩ trivial rfl ?_;rintro n az aS ⟨i,ii,c,hi,rfl,ev,ak,rfl,rfl⟩ bC;clear bC jZ z2 z4 z5 Wt z9 amf;generalize gj:A++B=M at *
 by_cases aj:i<M.length
 ·have q2:ii<(M.length:Int):=by omega
  have q3:0≤ii:=by omega
  obtain⟨r,kd⟩:∃r,M[i]?=some r:=⟨_,bF aj⟩;have hL:=zq ev kd;have hs:=Mp kd;have al:=Mo (L:=M) (k:=i+1);(refine fi ?_);exact⟨M.length-(i+1),_,[],by omega,⟨i+1,ii+1,c+r.length,aj,rfl,by omega,by omega,rfl,rfl⟩,rfl,⟨rfl,rfl,rfl,rfl,trivial⟩,trivial,rfl⟩
 ·have e:i=M.length:=by omega
  subst e;rw[List.take_length] at ak;have nF:((A.length+B.length+(bN A+bN B):Nat):Int)=c:=by omega
  rw[nF];(refine fi ?_)
  ((refine bn rfl (bb rfl aM) ?_))
  exact ag.aW.refl _
def fR(c:aq→aq→Bool):List aq→Bool
 | []=>false
 | [_]=>false
 | p::q::V=>c p q||fR c (q::V)
theorem yh{c:aq→aq→Bool}{R:aq→aq→Prop}(h:∀p q,c p q=false↔R p q):∀V,gw R V↔fR c V=false
 | []=>by simp[gw,fR]
 | [_]=>by simp[gw,fR]
 | p::q::V=>by
  have cg:=yh h (q::V);simp only[gw,fR,Bool.or_eq_false_iff,h p q,cg]
theorem NU{c:aq→aq→Bool}:∀(V:List aq) (p q:aq),fR c (V++[p,q])=(fR c (V++[p])||c p q)
 | [],p,q=>by simp[fR]
 | [a],p,q=>by simp[fR]
 | a::b::V,p,q=>by
  have cg:=NU (c:=c) (b::V) p q;simp only[ud,fR] at cg ⊢;rw[cg,Bool.or_assoc]
theorem Ax{c:aq→aq→Bool}{V:List aq}{k:Nat}{p q:aq}(h1:V[k]?=some p)(h2:V[k+1]?=some q):fR c (V.take (k+2))=(fR c (V.take (k+1))||c p q):=by
 have aI:V.take (k+1)=V.take k++[p]:=by
  rw[lH (bt.1 h1).1,(bt.1 h1).2]
 have aO:V.take (k+2)=V.take k++[p,q]:=by
  rw[lH (bt.1 h2).1,(bt.1 h2).2,aI];simp
 rw[aI,aO,NU]
theorem Aw{c:aq→aq→Bool}(V:List aq):fR c (V.take 1)=false:=by
 cases V <;> rfl
theorem akh{r:Nat}{V:List aq}{D:List Int}:xD r V D↔V≠[]∧V.length=D.length+1∧(∀v∈V,dW r v.1 v.2=true)∧fR (fun p q=>dG p.1 p.2 q.1 q.2) V=false∧(∀d∈D,1≤d∧d≤1048576) ∧
  (fR (fun p q=>decide (q.1<p.1)) V=false∨fR (fun p q=>decide (q.1>p.1)) V=false)∧(fR (fun p q=>decide (q.2<p.2)) V=false∨fR (fun p q=>decide (q.2>p.2)) V=false):=by
 unfold xD;rw[yh (c:=fun p q=>dG p.1 p.2 q.1 q.2) (R:=(· ≠ ·)) (fun p q => ?_),yh (c:=fun p q=>decide (q.1<p.1)) (R:=fun p q=>p.1≤q.1) (fun p q => ?_),yh (c:=fun p q=>decide (q.1>p.1)) (R:=fun p q=>q.1≤p.1) (fun p q => ?_),yh (c:=fun p q=>decide (q.2<p.2)) (R:=fun p q=>p.2≤q.2) (fun p q => ?_),yh (c:=fun p q=>decide (q.2>p.2)) (R:=fun p q=>q.2≤p.2) (fun p q => ?_)]
 ·rw[kK];omega
 ·rw[kK];omega
 ·rw[kK];omega
 ·rw[kK];omega
 ·obtain⟨x,y⟩:=p;obtain⟨z,w⟩:=q
  constructor
  ·intro h e;have:=tm.2 (⟨congrArg Prod.fst e,congrArg Prod.snd e⟩:x=z∧y=w);rw[h] at this;cases this
  ·intro h;cases he:dG x y z w with
   | false=>rfl
   | true=>obtain⟨rfl,rfl⟩:=tm.1 he;exact absurd rfl h
theorem NT{c:aq→aq→Bool}:∀(V W:List aq),fR c V=true→fR c (V++W)=true
 | [],W,h=>by simp[fR] at h
 | [a],W,h=>by simp[fR] at h
 | a::b::V,W,h=>by
  have cg:=NT (c:=c) (b::V) W;simp only[ud,fR,pF] at cg h ⊢;rcases h with h|h
  ·exact .inl h
  ·exact .inr (cg h)
theorem Zc{c:aq→aq→Bool}{V:List aq}{k:Nat}(h:fR c (V.take k)=true):fR c V=true:=by
 have:=NT (V.take k) (V.drop k) h;rwa [ki] at this
def Wx(r:Nat)(V:List aq)(n:Nat)(az:List (Nat×ag))(aS:List (Nat×List AC)):Prop :=
 ∃(i:Nat) (ii:Int),i≤V.length∧n=V.length-i∧ii=i∧(V.take i).all (fun v=>dW r v.1 v.2)=true∧aS=[]∧az=[(1,aL r),(15,gD V),(16,aL V.length),(17,aL ii)]
theorem ah9{V:List aq}{r:Nat}(ap:r≤28)(mT:0<V.length)(aa:V.length≤100000):aP ah 298 [gD V,aL r] (bl (V.all fun v=>dW r v.1 v.2)):=by
 have an:gY (r:Int) r:=⟨ap,.inr (.inr rfl)⟩;have R1:=Gu (k:=(r:Int));rw[show (decide (0≤(r:Int))&&decide ((r:Int)≤28))=true by rw[cd (by omega),cd (by omega)];rfl] at R1;have dt:¬(V.length:Int)=0:=by omega
 refine bq (f:=298) Tryz.func298 rfl rfl rfl rfl ?_;(repeat first|refine dd ?_|refine fX ?_|(with_reducible apply bU (c:=false));rfl;rfl;(exact cb (by omega)));refine qZ 26 (Wx r V) V.length _ [] ⟨0,0,du _,rfl,rfl,rfl,rfl,rfl⟩ rfl ⟨rfl,rfl,rfl,rfl,trivial⟩ trivial rfl ?_;rintro n az aS ⟨i,ii,hi,rfl,ev,wO,rfl,rfl⟩ bC;clear bC dt R1
 by_cases aj:i<V.length
 ·have q2:ii<(V.length:Int):=by omega
  have q3:0≤ii:=by omega
  obtain⟨x,y,g1⟩:∃x y,V[i]?=some (x,y):=⟨_,_,bF aj⟩;have hL:=qo ev g1
  have aE:V.take (i+1)=V.take i++[(x,y)]:=by
   rw[lH aj,(bt.1 g1).2]
  cases mi:dW r x y with
  | false =>
   have Xf:=tY an mi
   have e:(V.all fun v=>dW r v.1 v.2)=false:=by
    refine List.all_eq_false.2 ⟨(x,y),cP g1,?_⟩;simp only[mi];decide
   rw[e];clear an;(refine cR ?_)
   ((refine bn rfl (bb rfl aM) ?_))
   exact ag.aW.refl _
  | true =>
   have Xf:=tY an mi
   have e:(V.take (i+1)).all (fun v=>dW r v.1 v.2)=true:=by
    rw[aE,List.all_append,wO];simp[mi]
   clear an;(refine cR ?_);exact⟨V.length-(i+1),_,[],by omega,⟨i+1,ii+1,by omega,rfl,by omega,e,rfl,rfl⟩,rfl,⟨rfl,rfl,rfl,rfl,trivial⟩,trivial,rfl⟩
 ·have q2:¬ii<(V.length:Int):=by omega
  rw[gB (by omega)] at wO;rw[wO];(refine fi ?_)
  ((refine bn rfl (bb rfl aM) ?_))
  exact ag.aW.refl _
theorem ah8{V:List aq}{k:Int}(cs:(V.length:Int)=0∨(¬(V.length:Int)=0∧¬(0≤k∧k≤28))):aP ah 298 [gD V,aL k] (bl false):=by
 rcases cs with dt|⟨dt,q1⟩
 ·refine bq (f:=298) Tryz.func298 rfl rfl rfl rfl ?_;(repeat first|refine dd ?_|(with_reducible apply bU (c:=true));rfl;rfl;(exact cd (by omega)))
  ((refine bn rfl (bb rfl aM) ?_))
  exact ag.aW.refl _
 ·have R1:=Gu (k:=k)
  rw[show (decide (0≤k)&&decide (k≤28))=false by
   rcases qG k 0 with h|h
   ·rw[cb (by omega)];rfl
   ·rw[cb (p:=k≤28) (by omega)];simp] at R1
  refine bq (f:=298) Tryz.func298 rfl rfl rfl rfl ?_;(repeat first|refine dd ?_|refine fX ?_|(with_reducible apply bU (c:=false));rfl;rfl;(exact cb (by omega)))
  ((refine bn rfl (bb rfl aM) ?_))
  exact ag.aW.refl _
def Wv(D:List Int)(n:Nat)(az:List (Nat×ag))(aS:List (Nat×List AC)):Prop :=
 ∃(i:Nat) (ii:Int),i≤D.length∧n=D.length-i∧ii=i∧(D.take i).all (fun d=>decide (1≤d∧d≤1048576))=true∧aS=[]∧az=[(5,n0 D),(6,aL D.length),(7,aL ii)]
theorem ah7{D:List Int}(aa:D.length≤100000):aP ah 300 [n0 D] (bl (D.all fun d=>decide (1≤d∧d≤1048576))):=by
 refine bq (f:=300) Tryz.func300 rfl rfl rfl rfl ?_;(refine fi ?_);refine qZ 18 (Wv D) D.length _ [] ⟨0,0,du _,rfl,rfl,rfl,rfl,rfl⟩ rfl ⟨rfl,rfl,rfl,trivial⟩ trivial rfl ?_;rintro n az aS ⟨i,ii,hi,rfl,ev,wO,rfl,rfl⟩ bC;clear bC
 by_cases aj:i<D.length
 ·have q2:ii<(D.length:Int):=by omega
  have q3:0≤ii:=by omega
  obtain⟨d,g1⟩:∃d,D[i]?=some d:=⟨_,bF aj⟩;have hL:=xa ev g1
  have aE:D.take (i+1)=D.take i++[d]:=by
   rw[lH aj,(bt.1 g1).2]
  have no:¬(1≤d∧d≤1048576)→(D.all fun d=>decide (1≤d∧d≤1048576))=false:=fun h =>
   List.all_eq_false.2 ⟨d,cP g1,by rw[cb h];decide⟩
  by_cases c1:d<1
  ·rw[no (by omega)];(repeat first|refine dd ?_|(with_reducible apply bU (c:=true));rfl;rfl;(exact cd (by omega)))
   ((refine bn rfl (bb rfl aM) ?_))
   exact ag.aW.refl _
  ·by_cases c2:d>1048576
   ·rw[no (by omega)];(repeat first|refine dd ?_|(with_reducible apply bU (c:=false));rfl;rfl;(exact cb (by omega)))
    ((refine bn rfl (bb rfl aM) ?_))
    exact ag.aW.refl _
   ·have e:(D.take (i+1)).all (fun d=>decide (1≤d∧d≤1048576))=true:=by
     rw[aE,List.all_append,wO];simp;omega
    (repeat first|refine dd ?_|(with_reducible apply bU (c:=false));rfl;rfl;(exact cb (by omega)));exact⟨D.length-(i+1),_,[],by omega,⟨i+1,ii+1,by omega,rfl,by omega,e,rfl,rfl⟩,rfl,⟨rfl,rfl,rfl,trivial⟩,trivial,rfl⟩
 ·have q2:¬ii<(D.length:Int):=by omega
  rw[gB (by omega)] at wO;rw[wO];(refine fi ?_)
  ((refine bn rfl (bb rfl aM) ?_))
  exact ag.aW.refl _
def Cl(p q:aq):Bool:=dG p.1 p.2 q.1 q.2
def LV(p q:aq):Bool:=decide (q.1>p.1)
def KU(p q:aq):Bool:=decide (q.1<p.1)
def Mx(p q:aq):Bool:=decide (q.2>p.2)
def ID(p q:aq):Bool:=decide (q.2<p.2)
def ts(V:List aq):Bool := !fR Cl V&&(!(fR LV V&&fR KU V) && !(fR Mx V&&fR ID V))
def W6(V:List aq)(n:Nat)(az:List (Nat×ag))(aS:List (Nat×List AC)):Prop :=
 ∃(i:Nat) (ii:Int) (b1 b2 dM de:Bool),n=V.length+1-i∧ii=i∧1≤i∧i≤V.length+1∧fR Cl (V.take i)=false∧fR LV (V.take i)=b1∧fR KU (V.take i)=b2∧fR Mx (V.take i)=dM∧fR ID (V.take i)=de∧aS=[]∧az=[(0,gD V),(3,bl b1),(4,bl b2),(5,bl dM),(6,bl de),(7,aL ii)]
theorem aiw{V:List aq}(aa:V.length≤100000):aP ah 299 [gD V] (bl (ts V)):=by
 refine bq (f:=299) Tryz.func299 rfl rfl rfl rfl ?_;(refine fi ?_);refine qZ 72 (W6 V) (V.length+1-1) _ [] ⟨1,1,false,false,false,false,rfl,rfl,cF _,by omega,Aw V,Aw V,Aw V,Aw V,Aw V,rfl,rfl⟩ rfl ⟨rfl,rfl,rfl,rfl,rfl,rfl,trivial⟩ trivial rfl ?_;rintro n az aS ⟨i,ii,b1,b2,dM,de,rfl,ev,er,hi,aF,h1,h2,ar,aJ,rfl,rfl⟩ bC;clear bC
 by_cases aj:i<V.length
 ·have q2:ii<(V.length:Int):=by omega
  have q3:0≤ii:=by omega
  have q4:0≤ii-1:=by omega
  have rz:ii-1<(V.length:Int):=by omega
  have w1:IntKind.i64.wrap (ii-1)=ii-1:=jx (by omega);obtain⟨k,rfl⟩:∃k,i=k+1:=⟨i-1,by omega⟩;obtain⟨x,y,g1⟩:∃x y,V[k]?=some (x,y):=⟨_,_,bF (by omega)⟩;obtain⟨z,w,g2⟩:∃z w,V[k+1]?=some (z,w):=⟨_,_,bF aj⟩;have hL:=qo (j:=ii-1) (i:=k) (by omega) g1;have uB:=qo ev g2;have eg:=Ax (c:=Cl) g1 g2;have s1:=Ax (c:=LV) g1 g2;have s2:=Ax (c:=KU) g1 g2;have bY:=Ax (c:=Mx) g1 g2;have b9:=Ax (c:=ID) g1 g2;rw[aF] at eg;rw[h1] at s1;rw[h2] at s2;rw[ar] at bY;rw[aJ] at b9;cases he:dG x y z w with
  | true =>
   have e:ts V=false:=by
    unfold ts;rw[Zc (c:=Cl) (V:=V) (k:=k+2) (by rw[eg];exact he)];rfl
   rw[e];clear eg s1 s2 bY b9 aF h1 h2 ar aJ;(refine fi ?_)
   ((refine bn rfl (bb rfl aM) ?_))
   exact ag.aW.refl _
  | false =>
   have cB:fR Cl (V.take (k+2))=false:=by rw[eg];exact he
   clear eg aF h1 h2 ar aJ;cases b1 <;> cases b2 <;> cases dM <;> cases de
   all_goals
    (refine fi ?_);exact⟨V.length+1-(k+2),_,[],by omega,⟨k+2,ii+1,_,_,_,_,rfl,by omega,by omega,by omega,cB,s1,s2,bY,b9,rfl,rfl⟩,rfl,⟨rfl,rfl,rfl,rfl,rfl,rfl,trivial⟩,trivial,rfl⟩
 ·have q2:¬ii<(V.length:Int):=by omega
  rw[gB (by omega)] at aF h1 h2 ar aJ;have e:ts V=(!(b1&&b2) && !(dM&&de)):=by unfold ts;rw[aF,h1,h2,ar,aJ];rfl
  rw[e];clear aF h1 h2 ar aJ e;cases b1 <;> cases b2 <;> cases dM <;> cases de
  all_goals
   (refine fi ?_)
   ((refine bn rfl (bb rfl aM) ?_))
   exact ag.aW.refl _
theorem akf{r:Nat}{V:List aq}{D:List Int}:xC r V D=(decide (0<V.length)&&((V.all fun v=>dW r v.1 v.2)&&(ts V&&(decide ((D.length:Int)=(V.length:Int)-1)&&D.all fun d=>decide (1≤d∧d≤1048576))))):=by
 have key:xD r V D↔(decide (0<V.length)&&((V.all fun v=>dW r v.1 v.2)&&(ts V&&(decide ((D.length:Int)=(V.length:Int)-1)&&D.all fun d=>decide (1≤d∧d≤1048576)))))=true:=by
  rw[akh];unfold ts;simp only[ef,cV,b4,ub,Bool.and_eq_false_iff]
  constructor
  ·rintro⟨g1,g2,g3,g4,g5,g6,g7⟩;exact⟨by cases V <;> simp_all,g3,⟨g4,g6.symm,g7.symm⟩,by omega,g5⟩
  ·rintro⟨g1,g3,⟨g4,g6,g7⟩,g2,g5⟩;exact⟨fun h=>by simp[h] at g1,by omega,g3,g4,g5,g6.symm,g7.symm⟩
 by_cases h:xD r V D
 ·rw[UT h];exact(key.1 h).symm
 ·rw[akg h];cases aa:(decide (0<V.length)&&((V.all fun v=>dW r v.1 v.2)&&(ts V&&(decide ((D.length:Int)=(V.length:Int)-1)&&D.all fun d=>decide (1≤d∧d≤1048576))))) with
  | false=>rfl
  | true=>exact absurd (key.2 aa) h
theorem UB{V:List aq}{D:List Int}{k:Int}{b1 b2 de:Bool}(aa:V.length≤1100)(aZ:aP ah 298 [gD V,aL k] (bl b1))(bM:aP ah 299 [gD V] (bl b2))(j1:aP ah 300 [n0 D] (bl de)):aP ah 258 [pO V D,aL k] (bl (b1&&(b2&&(decide ((D.length:Int)=(V.length:Int)-1)&&de)))):=by
 by_cases q:(D.length:Int)=(V.length:Int)-1
 ·rw[cd q];cases b1 <;> cases b2 <;> cases de
  all_goals
   refine bq (f:=258) Tryz.func258 rfl rfl rfl rfl ?_;(repeat first|refine dd ?_|refine fX ?_|(with_reducible apply bU (c:=true));rfl;rfl;(exact cd (by omega)))
   ((refine bn rfl (bb rfl aM) ?_))
   exact ag.aW.refl _
 ·rw[cb q];cases b1 <;> cases b2
  all_goals
   simp only[Bool.false_and,Bool.and_false,pK];clear j1;refine bq (f:=258) Tryz.func258 rfl rfl rfl rfl ?_;(repeat first|refine dd ?_|refine fX ?_|(with_reducible apply bU (c:=false));rfl;rfl;(exact cb (by omega)))
   ((refine bn rfl (bb rfl aM) ?_))
   exact ag.aW.refl _
theorem ae5:MT:=by
 intro V D r ap aa hd ka pt;rw[akf];have bM:=aiw (V:=V) (by omega);have j1:=ah7 (D:=D) (by omega)
 by_cases h:0<V.length
 ·rw[cd h,pK];exact UB aa (ah9 ap h (by omega)) bM j1
 ·rw[cb h,Bool.false_and];have:=UB aa (ah8 (k:=(r:Int)) (.inl (by omega))) bM j1;rwa [Bool.false_and] at this
end Go.Proofs.YtklpfooafbjnpaaGreat
