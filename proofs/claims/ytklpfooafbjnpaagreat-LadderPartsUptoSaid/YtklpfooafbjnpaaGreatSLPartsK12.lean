/-
  My own texts,without what this claim does not need. My own text.
-/
import Derived.Test.YtklpfooafbjnpaaGreatSLPartsK11
set_option maxRecDepth 100000
set_option maxHeartbeats 64000000
set_option linter.unusedVariables false
set_option linter.unusedSimpArgs false
set_option linter.unusedSectionVars false
open Go.Proofs.Tryz renaming prog → ah
namespace Go.Proofs.YtklpfooafbjnpaaGreat
open Go.RowKit
def bP(L:List (List cj)):Nat:=(L.map List.length).sum
theorem Mt{L:List (List cj)}{k:Nat}{r:List cj}(h:L[k]?=some r):bP (L.take (k+1))=bP (L.take k)+r.length:=by
 rw[take_one h];simp[bP]
theorem Ms{L:List (List cj)}{k:Nat}:bP (L.take k)≤bP L:=by
 have e:bP L=bP (L.take k)+bP (L.drop k):=by
  conv=>lhs;rw[←kg k L]
  simp only[bP,rs,List.sum_append]
 omega
theorem Vz{L:List (List cj)}{k:Nat}{r:List cj}(h:L[k]?=some r):r.length≤bP L:=by
 have h1:=Mt h;have h2:=Ms (L:=L) (k:=k+1);omega
def mY:List (List cj)→Nat→Nat
 | [],c=>c
 | r::L,c=>if c≤256 then(if 256<r.length then 257 else mY L (c+r.length)) else c
theorem ajn(r:List cj)(L:List (List cj))(c:Nat):mY (r::L) c=if c≤256 then(if 256<r.length then 257 else mY L (c+r.length)) else c:=rfl
theorem LI:∀(L:List (List cj)) (c:Nat),c≤512→(c+bP L≤256→mY L c=c+bP L)∧(256<c+bP L→256<mY L c)∧mY L c≤512
 | [],c,h=>by simp[mY,bP];omega
 | r::L,c,h=>by
  have e:bP (r::L)=r.length+bP L:=by simp[bP]
  unfold mY;rw[e]
  split
  ·split
   ·omega
   ·have:=LI L (c+r.length) (by omega);omega
  ·omega
def Xx(L:List (List cj))(n:Nat)(az:List (Nat×ag))(aR:List (Nat×List AC)):Prop :=
 ∃(k:Nat) (db:Int) (c:Nat),k≤L.length∧n=L.length-k∧db=k∧c≤512∧mY L 0=mY (L.drop k) c∧aR=[]∧az=[(0,.w (.one (hf L))),(3,aL c),(4,aL db)]
theorem Tt{L:List (List cj)}(dp:L.length≤4611686018427387904)(ao:∀r∈L,r.length≤4611686018427387904):aO ah 99 [.w (.one (hf L))] (aL (mY L 0)):=by
 refine bo (f:=99) Tryz.func99 rfl rfl rfl rfl ?_;(refine eK ?_);refine oE 29 (Xx L) L.length _ [] ⟨0,0,0,dk _,rfl,rfl,by decide,rfl,rfl,rfl⟩ rfl ⟨rfl,rfl,rfl,trivial⟩ trivial rfl ?_;rintro n az aR ⟨k,db,c,ae,rfl,jf,ak,hv,rfl,rfl⟩ bz;clear bz
 by_cases aj:k<L.length
 ·have q2:db<(L.length:Int):=by omega
  have q3:0≤db:=by omega
  obtain⟨r,j7⟩:∃r,L[k]?=some r:=⟨_,bB aj⟩;have gQ:=zo jf j7;have hH:=ao r (cM j7);have hd:L.drop k=r::L.drop (k+1):=by rw[jK aj,(bq.1 j7).2]
  rw[hd] at hv;rw[ajn] at hv
  by_cases h1:(c:Int)≤256
  ·rw[if_pos (by omega)] at hv
   by_cases h2:(r.length:Int)>256
   ·rw[if_pos (by omega)] at hv;rw[hv];(repeat first|refine dc ?_|(with_reducible apply bR (c:=true));rfl;rfl;(exact b5 (by omega)))
    ((refine bk rfl (aY rfl aM) ?_))
    exact ag.aU.refl _
   ·rw[if_neg (by omega)] at hv;(repeat first|refine dc ?_|(with_reducible apply bR (c:=true));rfl;rfl;(exact b5 (by omega)));exact⟨L.length-(k+1),[(0,.w (.one (hf L))),(3,aL (c+r.length:Nat)),(4,aL (db+1))],[],by omega,⟨k+1,db+1,c+r.length,aj,rfl,by omega,by omega,hv,rfl,rfl⟩,rfl,⟨rfl,rfl,rfl,trivial⟩,trivial,rfl⟩
  ·rw[if_neg (by omega)] at hv;rw[hv];(repeat first|refine dc ?_|(with_reducible apply bR (c:=true));rfl;rfl;(exact b5 (by omega)))
   ((refine bk rfl (aY rfl aM) ?_))
   exact ag.aU.refl _
 ·have q2:¬db<(L.length:Int):=by omega
  have cr:L.drop k=[]:=ry (by omega);rw[cr] at hv;rw[hv];(repeat first|refine dc ?_|(with_reducible apply bR (c:=false));rfl;rfl;(exact cc (by omega)))
  ((refine bk rfl (aY rfl aM) ?_))
  exact ag.aU.refl _
def je(p:cj):Bool:=decide (p.1>67108864)||decide (p.1 < -67108864)||decide (p.2>67108864)||decide (p.2 < -67108864)
def iF:List (List cj)→Int
 | []=>0
 | r::L=>if r.length<3 then 114 else if r.any je=true then 115 else iF L
theorem CL(r:List cj)(L:List (List cj)):iF (r::L)=if r.length<3 then 114 else if r.any je=true then 115 else iF L:=rfl
def XF(L:List (List cj))(n:Nat)(az:List (Nat×ag))(aR:List (Nat×List AC)):Prop :=
 ∃(k:Nat) (db:Int),k≤L.length∧n=L.length-k∧db=k∧iF L=iF (L.drop k)∧aR=[]∧az=[(0,.w (.one (hf L))),(3,aL db)]
def XG(L:List (List cj))(r:List cj)(db:Int)(n:Nat)(az:List (Nat×ag))(aR:List (Nat×List AC)):Prop :=
 ∃(i:Nat) (ii:Int),i≤r.length∧n=r.length-i∧ii=i∧r.any je=(r.drop i).any je∧aR=[]∧az=[(0,.w (.one (hf L))),(3,aL db),(4,aL ii)]
theorem Tu{L:List (List cj)}(dp:L.length≤4611686018427387904)(ao:∀r∈L,r.length≤4611686018427387904):aO ah 100 [.w (.one (hf L))] (aL (iF L)):=by
 refine bo (f:=100) Tryz.func100 rfl rfl rfl rfl ?_;(refine eK ?_);refine oE 52 (XF L) L.length _ [] ⟨0,0,dk _,rfl,rfl,rfl,rfl,rfl⟩ rfl ⟨rfl,rfl,trivial⟩ trivial rfl ?_;rintro n az aR ⟨k,db,ae,rfl,jf,hv,rfl,rfl⟩ bz;clear bz
 by_cases aj:k<L.length
 ·have q2:db<(L.length:Int):=by omega
  have q3:0≤db:=by omega
  obtain⟨r,j7⟩:∃r,L[k]?=some r:=⟨_,bB aj⟩;have gQ:=zo jf j7;have hH:=ao r (cM j7);have hd:L.drop k=r::L.drop (k+1):=by rw[jK aj,(bq.1 j7).2]
  rw[hd] at hv;rw[CL] at hv
  by_cases ar:(r.length:Int)<3
  ·rw[if_pos (by omega)] at hv;rw[hv];(refine eK ?_)
   ((refine bk rfl (aY rfl aM) ?_))
   exact ag.aU.refl _
  ·rw[if_neg (by omega)] at hv;(refine eK ?_);refine oE 52 (XG L r db) r.length _ [] ⟨0,0,dk _,rfl,rfl,rfl,rfl,rfl⟩ rfl ⟨rfl,rfl,rfl,trivial⟩ trivial rfl ?_;rintro n az aR ⟨i,ii,hi,rfl,ee,aw,rfl,rfl⟩ bz;clear bz
   by_cases hp:i<r.length
   ·have p2:ii<(r.length:Int):=by omega
    have p3:0≤ii:=by omega
    obtain⟨x,y,g1⟩:∃x y,r[i]?=some (x,y):=⟨_,_,bB hp⟩;have jt:=rD ee g1;have yx:r.drop i=(x,y)::r.drop (i+1):=by rw[jK hp,(bq.1 g1).2]
    rw[yx,List.any_cons] at aw
    have cs:(x>67108864∧je (x,y)=true)∨(¬x>67108864∧x < -67108864∧je (x,y)=true)∨(¬x>67108864∧¬x < -67108864∧y>67108864∧je (x,y)=true)∨(¬x>67108864∧¬x < -67108864∧¬y>67108864∧y < -67108864∧je (x,y)=true)∨(¬x>67108864∧¬x < -67108864∧¬y>67108864∧¬y < -67108864∧je (x,y)=false):=by
     unfold je
     by_cases h1:x>67108864 <;> by_cases h2:x < -67108864 <;> by_cases aK:y>67108864 <;> by_cases bX:y < -67108864 <;> simp[h1,h2,aK,bX]
    rcases cs with ⟨c1,tB⟩|⟨c1,c2,tB⟩|⟨c1,c2,jc,tB⟩|⟨c1,c2,jc,Ax,tB⟩|⟨c1,c2,jc,Ax,tB⟩
    iterate 4
     ·rw[tB,Bool.true_or] at aw;rw[if_pos aw] at hv;rw[hv];(repeat first|refine dc ?_|(with_reducible apply bR (c:=true));rfl;rfl;(exact b5 (by omega))|(with_reducible apply bR (c:=false));rfl;rfl;(exact cc (by omega)))
      ((refine bk rfl (aY rfl aM) ?_))
      exact ag.aU.refl _
    ·rw[tB,Bool.false_or] at aw;(repeat first|refine dc ?_|(with_reducible apply bR (c:=false));rfl;rfl;(exact cc (by omega)));exact⟨r.length-(i+1),_,[],by omega,⟨i+1,ii+1,hp,rfl,by omega,aw,rfl,rfl⟩,rfl,⟨rfl,rfl,rfl,trivial⟩,trivial,rfl⟩
   ·have p2:¬ii<(r.length:Int):=by omega
    have cr:r.drop i=[]:=ry (by omega);rw[cr] at aw;rw[aw,List.any_nil,if_neg (by decide)] at hv;(refine eK ?_);exact⟨L.length-(k+1),_,[],by omega,⟨k+1,db+1,aj,rfl,by omega,hv,rfl,rfl⟩,rfl,⟨rfl,rfl,trivial⟩,trivial,rfl⟩
 ·have q2:¬db<(L.length:Int):=by omega
  have cr:L.drop k=[]:=ry (by omega);rw[cr] at hv;rw[hv];(refine eK ?_)
  ((refine bk rfl (aY rfl aM) ?_))
  exact ag.aU.refl _
def kq(A B:List (List cj))(op fill rung cap:Int):Int :=
 if op<0∨op>3 then 110 else if fill<0∨fill>1 then 111 else if rung<0∨rung>28 then 112 else if cap<1∨cap>1024 then 113 else if bP A+bP B<1∨bP A+bP B>256 then 116 else if iF A=0 then iF B else iF A
theorem aiT{A B:List (List cj)}{op fill rung cap:Int}(ct:A.length≤4611686018427387904)(yr:∀r∈A,r.length≤4611686018427387904)(cX:B.length≤4611686018427387904)(yt:∀r∈B,r.length≤4611686018427387904) :
  aO ah 45 [.w (.agg (hL A B op fill rung cap))] (aL (kq A B op fill rung cap)):=by
 have gz:=Tt ct yr;have hU:=Tt cX yt;have bd:=Tu ct yr;have dR:=Tu cX yt;obtain⟨s1,s2,bV⟩:=LI A 0 (by decide);obtain⟨t1,t2,t3⟩:=LI B 0 (by decide);have aH:((mY A 0:Int)+(mY B 0:Int)<1∨(mY A 0:Int)+(mY B 0:Int)>256)↔(bP A+bP B<1∨bP A+bP B>256):=by omega
 unfold kq;generalize mY A 0=a at *;generalize mY B 0=b at *;generalize iF A=x at *;generalize iF B=y at *;generalize bP A+bP B=m at *;clear s1 s2 t1 t2
 by_cases k:op<0∨op>3
 ·rw[if_pos k];clear aH
  by_cases bD:op<0
  ·refine bo (f:=45) Tryz.func45 rfl rfl rfl rfl ?_;(repeat first|refine dc ?_|(with_reducible apply bR (c:=true));rfl;rfl;(exact b5 (by omega)))
   ((refine bk rfl (aY rfl aM) ?_))
   exact ag.aU.refl _
  ·have cm:op>3:=by omega
   refine bo (f:=45) Tryz.func45 rfl rfl rfl rfl ?_;(repeat first|refine dc ?_|(with_reducible apply bR (c:=false));rfl;rfl;(exact cc (by omega)))
   ((refine bk rfl (aY rfl aM) ?_))
   exact ag.aU.refl _
 ·rw[if_neg k];have aon:¬op<0:=fun h=>k (.inl h);have aoo:¬op>3:=fun h=>k (.inr h);clear k
  by_cases k:fill<0∨fill>1
  ·rw[if_pos k];clear aH
   by_cases bD:fill<0
   ·refine bo (f:=45) Tryz.func45 rfl rfl rfl rfl ?_;(repeat first|refine dc ?_|(with_reducible apply bR (c:=true));rfl;rfl;(exact b5 (by omega))|(with_reducible apply bR (c:=false));rfl;rfl;(exact cc (by omega)))
    ((refine bk rfl (aY rfl aM) ?_))
    exact ag.aU.refl _
   ·have cm:fill>1:=by omega
    refine bo (f:=45) Tryz.func45 rfl rfl rfl rfl ?_;(repeat first|refine dc ?_|(with_reducible apply bR (c:=false));rfl;rfl;(exact cc (by omega)))
    ((refine bk rfl (aY rfl aM) ?_))
    exact ag.aU.refl _
  ·rw[if_neg k];have aok:¬fill<0:=fun h=>k (.inl h);have aol:¬fill>1:=fun h=>k (.inr h);clear k
   by_cases k:rung<0∨rung>28
   ·rw[if_pos k];clear aH
    by_cases bD:rung<0
    ·refine bo (f:=45) Tryz.func45 rfl rfl rfl rfl ?_;(repeat first|refine dc ?_|(with_reducible apply bR (c:=true));rfl;rfl;(exact b5 (by omega))|(with_reducible apply bR (c:=false));rfl;rfl;(exact cc (by omega)))
     ((refine bk rfl (aY rfl aM) ?_))
     exact ag.aU.refl _
    ·have cm:rung>28:=by omega
     refine bo (f:=45) Tryz.func45 rfl rfl rfl rfl ?_;(repeat first|refine dc ?_|(with_reducible apply bR (c:=false));rfl;rfl;(exact cc (by omega)))
     ((refine bk rfl (aY rfl aM) ?_))
     exact ag.aU.refl _
   ·rw[if_neg k];have aop:¬rung<0:=fun h=>k (.inl h);have aoq:¬rung>28:=fun h=>k (.inr h);clear k
    by_cases k:cap<1∨cap>1024
    ·rw[if_pos k];clear aH
     by_cases bD:cap<1
     ·refine bo (f:=45) Tryz.func45 rfl rfl rfl rfl ?_;(repeat first|refine dc ?_|(with_reducible apply bR (c:=true));rfl;rfl;(exact b5 (by omega))|(with_reducible apply bR (c:=false));rfl;rfl;(exact cc (by omega)))
      ((refine bk rfl (aY rfl aM) ?_))
      exact ag.aU.refl _
     ·have cm:cap>1024:=by omega
      refine bo (f:=45) Tryz.func45 rfl rfl rfl rfl ?_;(repeat first|refine dc ?_|(with_reducible apply bR (c:=false));rfl;rfl;(exact cc (by omega)))
      ((refine bk rfl (aY rfl aM) ?_))
      exact ag.aU.refl _
    ·rw[if_neg k];have aog:¬cap<1:=fun h=>k (.inl h);have aoh:¬cap>1024:=fun h=>k (.inr h);clear k
     by_cases k:(a:Int)+(b:Int)<1∨(a:Int)+(b:Int)>256
     ·rw[if_pos (aH.1 k)];clear aH
      by_cases bD:(a:Int)+(b:Int)<1
      ·refine bo (f:=45) Tryz.func45 rfl rfl rfl rfl ?_;(repeat first|refine dc ?_|refine fw ?_|refine ur hU ?_|(with_reducible apply bR (c:=true));rfl;rfl;(exact b5 (by omega))|(with_reducible apply bR (c:=false));rfl;rfl;(exact cc (by omega)))
       ((refine bk rfl (aY rfl aM) ?_))
       exact ag.aU.refl _
      ·have cm:(a:Int)+(b:Int)>256:=by omega
       refine bo (f:=45) Tryz.func45 rfl rfl rfl rfl ?_;(repeat first|refine dc ?_|refine fw ?_|refine ur hU ?_|(with_reducible apply bR (c:=false));rfl;rfl;(exact cc (by omega)))
       ((refine bk rfl (aY rfl aM) ?_))
       exact ag.aU.refl _
     ·rw[if_neg fun h=>k (aH.2 h)];have m1:¬(a:Int)+(b:Int)<1:=fun h=>k (.inl h);have m2:¬(a:Int)+(b:Int)>256:=fun h=>k (.inr h);clear k aH
      by_cases k:x=0
      ·rw[if_pos k];subst k;refine bo (f:=45) Tryz.func45 rfl rfl rfl rfl ?_;(repeat first|refine dc ?_|refine fw ?_|refine ur hU ?_|(with_reducible apply bR (c:=false));rfl;rfl;(exact cc (by omega)))
       ((refine bk rfl (aY rfl aM) ?_))
       exact ag.aU.refl _
      ·rw[if_neg k];refine bo (f:=45) Tryz.func45 rfl rfl rfl rfl ?_;(repeat first|refine dc ?_|refine fw ?_|refine ur hU ?_|(with_reducible apply bR (c:=false));rfl;rfl;(exact cc (by omega)))
       ((refine bk rfl (aY rfl aM) ?_))
       exact ag.aU.refl _
theorem Vy(A B:List (List cj)):bP (A++B)=bP A+bP B:=by simp[bP]
theorem Uo:∀(A B:List (List cj)),iF (A++B)=if iF A=0 then iF B else iF A
 | [],B=>rfl
 | r::A,B=>by
  rw[uc,CL,CL]
  by_cases h1:r.length<3
  ·rw[if_pos h1,if_pos h1];rfl
  ·rw[if_neg h1,if_neg h1]
   by_cases h2:r.any je=true
   ·rw[if_pos h2,if_pos h2];rfl
   ·rw[if_neg h2,if_neg h2];exact Uo A B
theorem Ur{A B:List (List cj)}{i:Nat}{x:List ag}(h:(sR A B)[i]?=some x):∃r,(A++B)[i]?=some r∧x=[.w (.one (lC r))]:=by
 rw[sR,dt] at h;obtain⟨r,h1,rfl⟩:=Option.map_eq_some_iff.1 h;exact⟨r,h1,rfl⟩
theorem Us{A B:List (List cj)}:∀x∈sR A B,x.length=1∧x.all ag.aW=true:=fun x ab=>by
 obtain⟨r,_,rfl⟩:=fE.1 ab;exact⟨rfl,rfl⟩
def Xs(M:List (List cj))(i:Nat)(R:aF)(cV:List (List AC)):Prop:=∃c:Int,R=dP∧cV=[[.c (.bool false)],[.c (.int .i64 c)]]∧c=(bP (M.take i):Nat)∧c≤256
def Xt(M:List (List cj))(e:Exit)(R:aF)(cV:List (List AC)):Prop:=∃c:Int,e = .ret∧R=dP∧cV=[[.c (.bool true)],[.c (.int .i64 c)]]∧256<bP M
def xi(A B:List (List cj)):Bool:=decide (bP A+bP B<1∨bP A+bP B>256)
theorem aiG{A B:List (List cj)}{op fill rung cap:Int}(ct:A.length≤4611686018427387904)(cX:B.length≤4611686018427387904)(ao:∀r∈A++B,r.length≤4611686018427387904) :
  aO ah 162 [.w (.agg (hL A B op fill rung cap))] (bl (xi A B)):=by
 have jU:=Tp A B op fill rung cap;have nl:=Ri (A:=A) (B:=B) (op:=op) (fill:=fill) (rung:=rung) (cap:=cap) ct cX;refine LC (f:=162) Tryz.func162 rfl rfl rfl rfl ?_;(repeat first|refine b9 ?_|refine gP ?_|(with_reducible first|apply xD|apply vI|apply GV));refine CU (swp 2 1002) (lZ _ _) ?_;refine CU (swp 3 1003) (lZ _ _) ?_;refine L8 16 [(2,zF 1002),(3,zF 1003)] [1002,1003] [[.c (.bool false)],[.c (.int .i64 0)]] dP (Xs (A++B)) (Xt (A++B)) rfl nl (by decide) Us ?hp rfl ⟨rfl,rfl,trivial⟩ ⟨rfl,rfl,trivial⟩ (by decide) rfl rfl ⟨0,rfl,rfl,rfl,by decide⟩ (bc.refl _) (fun i r h=>by cases h) ?round ?done ?stop
 case hp =>
  intro p hp;simp only[fg,sL,or_false] at hp;subst hp;exact⟨by decide,rfl⟩
 case round =>
  rintro i x R cV ab ⟨c,rfl,rfl,ak,gA⟩ bz;obtain⟨r,h1,rfl⟩:=Ur ab;clear ab bz;have hs:=Mt h1;have al:=Ms (L:=A++B) (k:=i+1);have hH:=ao r (cM h1)
  by_cases aj:c+r.length>256
  ·(refine aT ?_);exact⟨_,_,⟨_,rfl,rfl,rfl,by omega⟩,bc.refl _,(fun i r h=>by cases h),rfl,⟨rfl,rfl,trivial⟩,rfl⟩
  ·(refine aT ?_);exact⟨_,_,⟨_,rfl,rfl,by omega,by omega⟩,bc.refl _,(fun i r h=>by cases h),rfl,⟨rfl,rfl,trivial⟩,rfl⟩
 case done =>
  rintro R cV ⟨c,rfl,rfl,ak,gA⟩ bz;clear bz;have cr:(A++B).take (sR A B).length=A++B:=fL (by simp[sR]);rw[cr,Vy] at ak;have e:xi A B=decide (c=0):=by unfold xi;rw[vA];omega
  rw[e];(repeat first|refine b9 ?_|(with_reducible first|apply xD|apply vI|apply L9))
  ((refine bk rfl (GH rfl rfl rfl aM) ?_))
  exact ag.aU.refl _
 case stop =>
  rintro e c R cV he ⟨c',rfl,rfl,rfl,h2⟩ bz;clear bz he;rw[Vy] at h2;have e:xi A B=true:=b5 (by omega);rw[e];(refine aT ?_)
  ((refine bk rfl (GH rfl rfl rfl aM) ?_))
  exact ag.aU.refl _
theorem aiF{x y:Int}:aO ah 223 [bn x y] (bl (je (x,y))):=by
 have cs:((if y>x then y else x)>67108864∧je (x,y)=true)∨(¬(if y>x then y else x)>67108864∧je (x,y)=decide ((if y<x then y else x) < -67108864)):=by
  unfold je
  by_cases h:(if y>x then y else x)>67108864
  ·refine .inl ⟨h,?_⟩;simp only[pA,cT]
   split at h <;> omega
  ·refine .inr ⟨h,?_⟩;rw[o3];simp only[pA,cT]
   split at h <;> split <;> omega
 rcases cs with ⟨h,e⟩|⟨h,e⟩
 all_goals
  rw[e];refine bo (f:=223) Tryz.func223 rfl rfl rfl rfl ?_;(repeat first|refine dc ?_|(with_reducible apply bR (c:=true));rfl;rfl;(exact b5 (by omega))|(with_reducible apply bR (c:=false));rfl;rfl;(exact cc (by omega)))
  ((refine bk rfl (aY rfl aM) ?_))
  exact ag.aU.refl _
def tp:List cj→Int→Int
 | [],_ => -1
 | p::l,i=>if je p=true then i else tp l (i+1)
theorem aa5(p:cj)(l:List cj)(i:Int):tp (p::l) i=if je p=true then i else tp l (i+1):=rfl
theorem Pr:∀(l:List cj) (i:Int),0≤i→(decide (tp l i≥0))=l.any je
 | [],i,h=>rfl
 | p::l,i,h=>by
  rw[List.any_cons];unfold tp;cases hp:je p with
  | true=>rw[if_pos rfl,Bool.true_or];exact b5 h
  | false=>rw[if_neg (by simp),Bool.false_or];exact Pr l (i+1) (by omega)
abbrev MB(f:Nat):ag:=aQ (.func (.func f) #[] #[])
def W3(r:List cj)(k:Nat)(az:List (Nat×ag))(aR:List (Nat×List AC)):Prop :=
 ∃(i:Nat) (ii:Int),i≤r.length∧k=r.length-i∧ii=i∧tp r 0=tp (r.drop i) ii∧aR=[]∧az=[(0,.w (.one (lC r))),(1,MB 223),(7,aL r.length),(8,aL ii)]
theorem aiB{r:List cj}(ao:r.length≤4611686018427387904):aO ah 266 [.w (.one (lC r)),MB 223] (aL (tp r 0)):=by
 refine bo (f:=266) Tryz.func266 rfl rfl rfl rfl ?_;(refine eK ?_);refine oE 19 (W3 r) r.length _ [] ⟨0,0,dk _,rfl,rfl,rfl,rfl,rfl⟩ rfl ⟨rfl,rfl,rfl,rfl,trivial⟩ trivial rfl ?_;rintro n az aR ⟨j,de,af,rfl,jy,gH,rfl,rfl⟩ bz;clear bz
 by_cases hp:j<r.length
 ·have p2:de<(r.length:Int):=by omega
  have p3:0≤de:=by omega
  obtain⟨x,y,g1⟩:∃x y,r[j]?=some (x,y):=⟨_,_,bB hp⟩;have jt:=rD jy g1;have hd:r.drop j=(x,y)::r.drop (j+1):=by rw[jK hp,(bq.1 g1).2]
  have gz:=aiF (x:=x) (y:=y);rw[hd,aa5] at gH;cases aw:je (x,y) with
  | true =>
   rw[aw] at gH gz;rw[if_pos rfl] at gH;rw[gH];(refine cK ?_)
   ((refine bk rfl (aY rfl aM) ?_))
   exact ag.aU.refl _
  | false =>
   rw[aw] at gH gz;rw[if_neg (by simp)] at gH;(refine cK ?_);exact⟨r.length-(j+1),_,[],by omega,⟨j+1,de+1,hp,rfl,by omega,gH,rfl,rfl⟩,rfl,⟨rfl,rfl,rfl,rfl,trivial⟩,trivial,rfl⟩
 ·have e:j=r.length:=by omega
  subst e;rw[List.drop_length] at gH;rw[show tp [] de = -1 from rfl] at gH;rw[gH];(refine eK ?_)
  ((refine bk rfl (aY rfl aM) ?_))
  exact ag.aU.refl _
theorem aij{r:List cj}(ao:r.length≤4611686018427387904):aO ah 222 [.w (.one (lC r)),MB 223] (bl (r.any je)):=by
 have gz:=aiB ao;rw[←Pr r 0 (by decide)];refine bo (f:=222) Tryz.func222 rfl rfl rfl rfl ?_;(refine cK ?_)
 ((refine bk rfl (aY rfl aM) ?_))
 exact ag.aU.refl _
def WM(M:List (List cj))(i:Nat)(R:aF)(cV:List (List AC)):Prop:=R=dP∧cV=[[.c (.int .i64 0)]]∧iF M=iF (M.drop i)
def WN(M:List (List cj))(e:Exit)(R:aF)(cV:List (List AC)):Prop:=e = .ret∧R=dP∧cV=[[.c (.int .i64 (iF M))]]
theorem aif{A B:List (List cj)}{op fill rung cap:Int}(ct:A.length≤4611686018427387904)(cX:B.length≤4611686018427387904)(ao:∀r∈A++B,r.length≤4611686018427387904) :
  aO ah 163 [.w (.agg (hL A B op fill rung cap))] (aL (iF (A++B))):=by
 have jU:=Tp A B op fill rung cap;have nl:=Ri (A:=A) (B:=B) (op:=op) (fill:=fill) (rung:=rung) (cap:=cap) ct cX;refine LC (f:=163) Tryz.func163 rfl rfl rfl rfl ?_;(repeat first|refine b9 ?_|refine gP ?_|(with_reducible first|apply xD|apply vI|apply GV));refine CU (swp 2 1002) (lZ _ _) ?_;refine L8 12 [(2,zF 1002)] [1002] [[.c (.int .i64 0)]] dP (WM (A++B)) (WN (A++B)) rfl nl (by decide) Us ?hp rfl ⟨rfl,trivial⟩ ⟨rfl,trivial⟩ (by decide) rfl rfl ⟨rfl,rfl,rfl⟩ (bc.refl _) (fun i r h=>by cases h) ?round ?done ?stop
 case hp =>
  intro p hp;simp only[fg,sL,or_false] at hp;subst hp;exact⟨by decide,rfl⟩
 case round =>
  rintro i x R cV ab ⟨rfl,rfl,hv⟩ bz;obtain⟨r,h1,rfl⟩:=Ur ab;clear ab bz;have hH:=ao r (cM h1);have hd:(A++B).drop i=r::(A++B).drop (i+1):=by rw[jK (bq.1 h1).1,(bq.1 h1).2]
  rw[hd,CL] at hv;have gz:=aij hH
  by_cases aj:r.length<3
  ·rw[if_pos aj] at hv;have lR:(r.length:Int)<3:=by omega
   (refine aT ?_);exact⟨_,[[.c (.int .i64 114)]],⟨rfl,rfl,by rw[hv]⟩,bc.refl _,(fun i r h=>by cases h),rfl,⟨rfl,trivial⟩,rfl⟩
  ·rw[if_neg aj] at hv;have lR:¬(r.length:Int)<3:=by omega
   cases aw:r.any je with
   | true =>
    rw[aw] at hv gz;rw[if_pos rfl] at hv;(refine oB ?_);exact⟨_,[[.c (.int .i64 115)]],⟨rfl,rfl,by rw[hv]⟩,bc.refl _,(fun i r h=>by cases h),rfl,⟨rfl,trivial⟩,rfl⟩
   | false =>
    rw[aw] at hv gz;rw[if_neg (by simp)] at hv;(refine oB ?_);exact⟨_,_,⟨rfl,rfl,hv⟩,bc.refl _,(fun i r h=>by cases h),rfl,⟨rfl,trivial⟩,rfl⟩
 case done =>
  rintro R cV ⟨rfl,rfl,hv⟩ bz;clear bz;rw[ry (by simp[sR]),show iF []=0 from rfl] at hv;rw[hv];(repeat first|refine b9 ?_|(with_reducible first|apply xD|apply vI|apply L9))
  ((refine bk rfl (GH rfl rfl rfl aM) ?_))
  exact ag.aU.refl _
 case stop =>
  rintro e c R cV he ⟨rfl,rfl,rfl⟩ bz;clear bz he;(refine aT ?_)
  ((refine bk rfl (GH rfl rfl rfl aM) ?_))
  exact ag.aU.refl _
theorem Gl{A B:List (List cj)}{op fill rung cap:Int}(ct:A.length≤4611686018427387904)(cX:B.length≤4611686018427387904)(ao:∀r∈A++B,r.length≤4611686018427387904) :
  aO ah 97 [.w (.agg (hL A B op fill rung cap))] (aL (kq A B op fill rung cap)):=by
 have gz:=aiG (op:=op) (fill:=fill) (rung:=rung) (cap:=cap) ct cX ao;have hU:=aif (op:=op) (fill:=fill) (rung:=rung) (cap:=cap) ct cX ao
 have cs:∃c,kq A B op fill rung cap=c∧((op<0∧c=110)∨(¬op<0∧op>3∧c=110)∨(¬op<0∧¬op>3∧((fill<0∧c=111)∨(¬fill<0∧fill>1∧c=111)∨(¬fill<0∧¬fill>1∧((rung<0∧c=112)∨(¬rung<0∧rung>28∧c=112)∨(¬rung<0∧¬rung>28∧((cap<1∧c=113)∨(¬cap<1∧cap>1024∧c=113)∨(¬cap<1∧¬cap>1024∧((xi A B=true∧c=116)∨(xi A B=false∧c=iF (A++B))))))))))):=by
  refine⟨_,rfl,?_⟩;unfold kq xi;rw[Uo]
  by_cases o1:op<0
  ·exact .inl ⟨o1,by rw[if_pos (.inl o1)]⟩
  by_cases o2:op>3
  ·exact .inr (.inl ⟨o1,o2,by rw[if_pos (.inr o2)]⟩)
  refine .inr (.inr ⟨o1,o2,?_⟩);rw[if_neg (by omega)]
  by_cases f1:fill<0
  ·exact .inl ⟨f1,by rw[if_pos (.inl f1)]⟩
  by_cases f2:fill>1
  ·exact .inr (.inl ⟨f1,f2,by rw[if_pos (.inr f2)]⟩)
  refine .inr (.inr ⟨f1,f2,?_⟩);rw[if_neg (by omega)]
  by_cases cp:rung<0
  ·exact .inl ⟨cp,by rw[if_pos (.inl cp)]⟩
  by_cases dQ:rung>28
  ·exact .inr (.inl ⟨cp,dQ,by rw[if_pos (.inr dQ)]⟩)
  refine .inr (.inr ⟨cp,dQ,?_⟩);rw[if_neg (by omega)]
  by_cases c1:cap<1
  ·exact .inl ⟨c1,by rw[if_pos (.inl c1)]⟩
  by_cases c2:cap>1024
  ·exact .inr (.inl ⟨c1,c2,by rw[if_pos (.inr c2)]⟩)
  refine .inr (.inr ⟨c1,c2,?_⟩);rw[if_neg (by omega)]
  by_cases m1:bP A+bP B<1∨bP A+bP B>256
  ·exact .inl ⟨b5 m1,by rw[if_pos m1]⟩
  ·exact .inr ⟨cc m1,by rw[if_neg m1]⟩
 obtain⟨c,e,cs⟩:=cs;rw[e];clear e ct cX ao;rcases cs with ⟨o1,rfl⟩|⟨o1,o2,rfl⟩|⟨o1,o2,cs⟩
 ·refine bo (f:=97) Tryz.func97 rfl rfl rfl rfl ?_;(repeat first|refine dc ?_|(with_reducible apply bR (c:=true));rfl;rfl;(exact b5 (by omega)))
  ((refine bk rfl (aY rfl aM) ?_))
  exact ag.aU.refl _
 ·refine bo (f:=97) Tryz.func97 rfl rfl rfl rfl ?_;(repeat first|refine dc ?_|(with_reducible apply bR (c:=false));rfl;rfl;(exact cc (by omega)))
  ((refine bk rfl (aY rfl aM) ?_))
  exact ag.aU.refl _
 rcases cs with ⟨f1,rfl⟩|⟨f1,f2,rfl⟩|⟨f1,f2,cs⟩
 ·refine bo (f:=97) Tryz.func97 rfl rfl rfl rfl ?_;(repeat first|refine dc ?_|(with_reducible apply bR (c:=true));rfl;rfl;(exact b5 (by omega))|(with_reducible apply bR (c:=false));rfl;rfl;(exact cc (by omega)))
  ((refine bk rfl (aY rfl aM) ?_))
  exact ag.aU.refl _
 ·refine bo (f:=97) Tryz.func97 rfl rfl rfl rfl ?_;(repeat first|refine dc ?_|(with_reducible apply bR (c:=false));rfl;rfl;(exact cc (by omega)))
  ((refine bk rfl (aY rfl aM) ?_))
  exact ag.aU.refl _
 rcases cs with ⟨cp,rfl⟩|⟨cp,dQ,rfl⟩|⟨cp,dQ,cs⟩
 ·refine bo (f:=97) Tryz.func97 rfl rfl rfl rfl ?_;(repeat first|refine dc ?_|(with_reducible apply bR (c:=true));rfl;rfl;(exact b5 (by omega))|(with_reducible apply bR (c:=false));rfl;rfl;(exact cc (by omega)))
  ((refine bk rfl (aY rfl aM) ?_))
  exact ag.aU.refl _
 ·refine bo (f:=97) Tryz.func97 rfl rfl rfl rfl ?_;(repeat first|refine dc ?_|(with_reducible apply bR (c:=false));rfl;rfl;(exact cc (by omega)))
  ((refine bk rfl (aY rfl aM) ?_))
  exact ag.aU.refl _
 rcases cs with ⟨c1,rfl⟩|⟨c1,c2,rfl⟩|⟨c1,c2,cs⟩
 ·refine bo (f:=97) Tryz.func97 rfl rfl rfl rfl ?_;(repeat first|refine dc ?_|(with_reducible apply bR (c:=true));rfl;rfl;(exact b5 (by omega))|(with_reducible apply bR (c:=false));rfl;rfl;(exact cc (by omega)))
  ((refine bk rfl (aY rfl aM) ?_))
  exact ag.aU.refl _
 ·refine bo (f:=97) Tryz.func97 rfl rfl rfl rfl ?_;(repeat first|refine dc ?_|(with_reducible apply bR (c:=false));rfl;rfl;(exact cc (by omega)))
  ((refine bk rfl (aY rfl aM) ?_))
  exact ag.aU.refl _
 rcases cs with ⟨m1,rfl⟩|⟨m1,rfl⟩
 ·rw[m1] at gz;refine bo (f:=97) Tryz.func97 rfl rfl rfl rfl ?_;(repeat first|refine dc ?_|refine fw ?_|(with_reducible apply bR (c:=false));rfl;rfl;(exact cc (by omega)))
  ((refine bk rfl (aY rfl aM) ?_))
  exact ag.aU.refl _
 ·rw[m1] at gz;refine bo (f:=97) Tryz.func97 rfl rfl rfl rfl ?_;(repeat first|refine dc ?_|refine fw ?_|refine ur hU ?_|(with_reducible apply bR (c:=false));rfl;rfl;(exact cc (by omega)))
  ((refine bk rfl (aY rfl aM) ?_))
  exact ag.aU.refl _
instance anS:nn ah 22 63 5 40:=⟨by kernel_rfl⟩
abbrev uT(v:Value)(l:List (Int×(cj×cj))):bE:=⟨63,5,v,l.length,n3 l⟩
theorem EB(v:Value)(l:List (Int×(cj×cj)))(x:Int×(cj×cj)):uT v (l++[x])=⟨63,5,v,l.length+1,n3 l++Ex x⟩:=by
 simp[uT,n3,sK]
def gm(o:Int)(L:List (List cj)):List (Int×(cj×cj)):=(ir L).map fun e=>(o,e)
theorem SP{o:Int}{L:List (List cj)}{k:Nat}{r:List cj}(h:L[k]?=some r):gm o (L.take (k+1))=gm o (L.take k)++(lK r).map fun e=>(o,e):=by
 rw[take_one h];simp[gm,ir,sK]
theorem SO{o:Int}{L:List (List cj)}{k:Nat}:(gm o (L.take k)).length≤(gm o L).length:=by
 have e:gm o L=gm o (L.take k)++gm o (L.drop k):=by
  unfold gm ir;rw[←rs,←sK,kg]
 rw[e,cY];omega
def Nn(L:List (List cj))(o:Int)(n:Nat)(R:aF)(az:List (Nat×ag))(aR:List (Nat×List AC)):Prop :=
 ∃(k:Nat) (v:Value) (db:Int),k≤L.length∧n=L.length-k∧db=k∧R=bp 0 (uT v (gm o (L.take k)))∧aR=[]∧az=[(0,.w (.one (hf L))),(1,aL o),(5,aQ v),(6,aL db)]
def Nl(L:List (List cj))(o:Int)(r:List cj)(S:List (Int×(cj×cj)))(db:Int)(n:Nat)(R:aF)(az:List (Nat×ag))(aR:List (Nat×List AC)):Prop :=
 ∃(i:Nat) (v:Value) (ii:Int),i≤r.length∧n=r.length-i∧ii=i∧R=bp 0 (uT v (S++((lK r).take i).map fun e=>(o,e)))∧aR=[]∧az=[(0,.w (.one (hf L))),(1,aL o),(5,aQ v),(6,aL db),(7,.w (.one (lC r))),(8,aL ii)]
theorem ais{L:List (List cj)}{o:Int}(dp:L.length≤900000)(ao:∀r∈L,r.length≤900000)(gh:(gm o L).length≤900000):aO ah 101 [.w (.one (hf L)),aL o] (cF 5 (gm o L).length (n3 (gm o L))):=by
 refine bo (f:=101) Tryz.func101 rfl rfl rfl rfl ?_;refine td ?_;refine nO 0 63 5 rfl ?_;(refine aT ?_);refine iH 50 (Nn L o) L.length (bp 0 (uT (.slice none 0 0) [])) _ [] ⟨0,.slice none 0 0,0,dk _,rfl,rfl,rfl,rfl,rfl⟩ (kj _ _ _) rfl ⟨rfl,rfl,rfl,rfl,trivial⟩ trivial rfl ?_;rintro n R az aR ⟨k,v,db,ae,rfl,jf,rfl,rfl,rfl⟩ bz;clear bz
 by_cases aj:k<L.length
 ·have q2:db<(L.length:Int):=by omega
  have q3:0≤db:=by omega
  obtain⟨r,j7⟩:∃r,L[k]?=some r:=⟨_,bB aj⟩;have gQ:=zo jf j7;have hH:=ao r (cM j7);have aD:=SP (o:=o) j7;have adC:=SO (o:=o) (L:=L) (k:=k+1);generalize hS:gm o (L.take k)=S at *;(refine aT ?_);refine iH 50 (Nl L o r S db) r.length _ _ [] ⟨0,v,0,dk _,rfl,rfl,by rw[List.take_zero,pB,nb],rfl,rfl⟩ (bc.refl _) rfl ⟨rfl,rfl,rfl,rfl,rfl,rfl,trivial⟩ trivial rfl ?_;rintro n R az aR ⟨i,v,ii,hi,rfl,ee,rfl,rfl,rfl⟩ bz;clear bz
  by_cases hp:i<r.length
  ·have p2:ii<(r.length:Int):=by omega
   have p3:0≤ii:=by omega
   obtain⟨x,y,g1⟩:∃x y,r[i]?=some (x,y):=⟨_,_,bB hp⟩;obtain⟨qB,lb,g0⟩:∃x y,r[0]?=some (x,y):=⟨_,_,bB (by omega)⟩;have jt:=rD ee g1;have xT:=rD (ii:=0) rfl g0
   have hlen:(S++((lK r).take i).map fun e=>(o,e)).length+1≤900000:=by
    have aH:(lK r).length=r.length:=wE r;have aN:(gm o (L.take (k+1))).length=S.length+r.length:=by rw[aD];simp[aH]
    simp only[cY,iD,dY];omega
   by_cases aA:i+1<r.length
   ·have gD:ii+1<(r.length:Int):=by omega
    obtain⟨dj,mD,g2⟩:∃x y,r[i+1]?=some (x,y):=⟨_,_,bB aA⟩;have pa:=rD (ii:=ii+1) (by omega) g2;have aC:=take_one (AN g1 (by rw[if_pos aA];exact g2));(repeat first|(with_reducible apply dB (id:=12) [0,1,2,3,4,5,6,7,8,9,10]);kernel_rfl;kernel_rfl;rfl|refine b9 ?_);refine mm 0 rfl rfl rfl rfl ?q1 ?q2 rfl rfl (fun ba bT => ?_)
    case q1=>exact iP (eO hlen (by decide))
    case q2=>exact eO (ic 40 hlen) (by decide)
    (refine aT ?_);refine⟨r.length-(i+1),_,_,[],by omega,⟨i+1,ba,ii+1,by omega,rfl,by omega,rfl,rfl,rfl⟩,?_,rfl,⟨rfl,rfl,rfl,rfl,rfl,rfl,trivial⟩,trivial,rfl⟩;rw[aC,rs,←hx,hO,pB,EB];exact kj _ _ _
   ·have gD:¬ii+1<(r.length:Int):=by omega
    have aC:=take_one (AN g1 (by rw[if_neg aA];exact g0));(repeat first|(with_reducible apply dB (id:=12) [0,1,2,3,4,5,6,7,8,9,10]);kernel_rfl;kernel_rfl;rfl|refine b9 ?_);refine mm 0 rfl rfl rfl rfl ?q3 ?q4 rfl rfl (fun ba bT => ?_)
    case q3=>exact iP (eO hlen (by decide))
    case q4=>exact eO (ic 40 hlen) (by decide)
    (refine aT ?_);refine⟨r.length-(i+1),_,_,[],by omega,⟨i+1,ba,ii+1,by omega,rfl,by omega,rfl,rfl,rfl⟩,?_,rfl,⟨rfl,rfl,rfl,rfl,rfl,rfl,trivial⟩,trivial,rfl⟩;rw[aC,rs,←hx,hO,pB,EB];exact kj _ _ _
  ·have e:(lK r).take i=lK r:=fL (by rw[wE];omega);have p2:¬ii<(r.length:Int):=by omega
   rw[e,←aD];(refine aT ?_);exact⟨L.length-(k+1),_,_,[],by omega,⟨k+1,v,db+1,aj,rfl,by omega,rfl,rfl,rfl⟩,bc.refl _,rfl,⟨rfl,rfl,rfl,rfl,trivial⟩,trivial,rfl⟩
 ·have q2:¬db<(L.length:Int):=by omega
  have cr:L.take k=L:=fL (by omega);rw[cr];refine xC 0 5 (uT v (gm o L)) rfl rfl ?_;(refine aT ?_)
  ((refine bk rfl (aY rfl aM) ?_))
  exact ag.aU.refl _
theorem aaz(l:List (Int×(cj×cj))):(n3 l).all AC.aW=true:=by
 rw[bZ];intro x ab;obtain⟨e,_,he⟩:=List.mem_flatMap.1 ab;simp only[Ex,fg,sL,or_false] at he;rcases he with rfl|rfl|rfl|rfl|rfl <;> rfl
instance anT:Enters ah 101:=⟨by kernel_rfl⟩
theorem X3{L:List (List cj)}{o:Int}(dp:L.length≤900000)(ao:∀r∈L,r.length≤900000)(gh:(gm o L).length≤900000):o8 ah 101 [.w (.one (hf L)),aL o] fun v q=>∃ba,v=aQ ba∧q=uT ba (gm o L):=by
 refine DT rfl (fun v q h=>by obtain⟨ba,rfl,_⟩:=h;rfl) ?_;refine cG (f:=101) Tryz.func101 rfl (cn rfl) (by exact jW) ?_;refine nO 0 63 5 rfl ?_;(refine aT ?_);refine iH 50 (Nn L o) L.length (bp 0 (uT (.slice none 0 0) [])) _ [] ⟨0,.slice none 0 0,0,dk _,rfl,rfl,rfl,rfl,rfl⟩ (kj _ _ _) rfl ⟨rfl,rfl,rfl,rfl,trivial⟩ trivial rfl ?_;rintro n R az aR ⟨k,v,db,ae,rfl,jf,rfl,rfl,rfl⟩ bz;clear bz
 by_cases aj:k<L.length
 ·have q2:db<(L.length:Int):=by omega
  have q3:0≤db:=by omega
  obtain⟨r,j7⟩:∃r,L[k]?=some r:=⟨_,bB aj⟩;have gQ:=zo jf j7;have hH:=ao r (cM j7);have aD:=SP (o:=o) j7;have adC:=SO (o:=o) (L:=L) (k:=k+1);generalize hS:gm o (L.take k)=S at *;(refine aT ?_);refine iH 50 (Nl L o r S db) r.length _ _ [] ⟨0,v,0,dk _,rfl,rfl,by rw[List.take_zero,pB,nb],rfl,rfl⟩ (bc.refl _) rfl ⟨rfl,rfl,rfl,rfl,rfl,rfl,trivial⟩ trivial rfl ?_;rintro n R az aR ⟨i,v,ii,hi,rfl,ee,rfl,rfl,rfl⟩ bz;clear bz
  by_cases hp:i<r.length
  ·have p2:ii<(r.length:Int):=by omega
   have p3:0≤ii:=by omega
   obtain⟨x,y,g1⟩:∃x y,r[i]?=some (x,y):=⟨_,_,bB hp⟩;obtain⟨qB,lb,g0⟩:∃x y,r[0]?=some (x,y):=⟨_,_,bB (by omega)⟩;have jt:=rD ee g1;have xT:=rD (ii:=0) rfl g0
   have hlen:(S++((lK r).take i).map fun e=>(o,e)).length+1≤900000:=by
    have aH:(lK r).length=r.length:=wE r;have aN:(gm o (L.take (k+1))).length=S.length+r.length:=by rw[aD];simp[aH]
    simp only[cY,iD,dY];omega
   by_cases aA:i+1<r.length
   ·have gD:ii+1<(r.length:Int):=by omega
    obtain⟨dj,mD,g2⟩:∃x y,r[i+1]?=some (x,y):=⟨_,_,bB aA⟩;have pa:=rD (ii:=ii+1) (by omega) g2;have aC:=take_one (AN g1 (by rw[if_pos aA];exact g2));(repeat first|(with_reducible apply dB (id:=12) [0,1,2,3,4,5,6,7,8,9,10]);kernel_rfl;kernel_rfl;rfl|refine b9 ?_);refine mm 0 rfl rfl rfl rfl ?q1 ?q2 rfl rfl (fun ba bT => ?_)
    case q1=>exact iP (eO hlen (by decide))
    case q2=>exact eO (ic 40 hlen) (by decide)
    (refine aT ?_);refine⟨r.length-(i+1),_,_,[],by omega,⟨i+1,ba,ii+1,by omega,rfl,by omega,rfl,rfl,rfl⟩,?_,rfl,⟨rfl,rfl,rfl,rfl,rfl,rfl,trivial⟩,trivial,rfl⟩;rw[aC,rs,←hx,hO,pB,EB];exact kj _ _ _
   ·have gD:¬ii+1<(r.length:Int):=by omega
    have aC:=take_one (AN g1 (by rw[if_neg aA];exact g0));(repeat first|(with_reducible apply dB (id:=12) [0,1,2,3,4,5,6,7,8,9,10]);kernel_rfl;kernel_rfl;rfl|refine b9 ?_);refine mm 0 rfl rfl rfl rfl ?q3 ?q4 rfl rfl (fun ba bT => ?_)
    case q3=>exact iP (eO hlen (by decide))
    case q4=>exact eO (ic 40 hlen) (by decide)
    (refine aT ?_);refine⟨r.length-(i+1),_,_,[],by omega,⟨i+1,ba,ii+1,by omega,rfl,by omega,rfl,rfl,rfl⟩,?_,rfl,⟨rfl,rfl,rfl,rfl,rfl,rfl,trivial⟩,trivial,rfl⟩;rw[aC,rs,←hx,hO,pB,EB];exact kj _ _ _
  ·have e:(lK r).take i=lK r:=fL (by rw[wE];omega);have p2:¬ii<(r.length:Int):=by omega
   rw[e,←aD];(refine aT ?_);exact⟨L.length-(k+1),_,_,[],by omega,⟨k+1,v,db+1,aj,rfl,by omega,rfl,rfl,rfl⟩,bc.refl _,rfl,⟨rfl,rfl,rfl,rfl,trivial⟩,trivial,rfl⟩
 ·have q2:¬db<(L.length:Int):=by omega
  have cr:L.take k=L:=fL (by omega);rw[cr];(refine aT ?_)
  ((refine yA rfl (aY rfl aM) rfl rfl (gE _) ?_))
  exact⟨v,rfl,rfl⟩
theorem aiV{A B:List (List cj)}{op fill rung cap:Int}(ct:A.length≤900000)(yr:∀r∈A,r.length≤900000)(anf:(gm 0 A).length≤400000)(cX:B.length≤900000)(yt:∀r∈B,r.length≤900000)(ang:(gm 1 B).length≤400000) :
  aO ah 47 [.w (.agg (hL A B op fill rung cap))] (cF 5 ((gm 0 A).length+(gm 1 B).length) (n3 (gm 0 A)++n3 (gm 1 B))):=by
 have dO:=X3 (L:=A) (o:=0) ct yr (by omega);have s8:=ais (L:=B) (o:=1) cX yt (by omega);refine bo (f:=47) Tryz.func47 rfl rfl rfl rfl ?_;refine td ?_;(repeat first|(with_reducible apply iG (id:=1) [0,1,3,4,2,5,6,7] [5]);kernel_rfl;kernel_rfl;rfl|refine b9 ?_);refine FB 0 rfl rfl rfl rfl dO rfl rfl (fun bx q h => ?_);obtain⟨ba,rfl,rfl⟩:=h;(refine oB ?_);refine mm 0 rfl rfl rfl rfl ?q1 ?q2 (aaz _) rfl (fun v2 mV => ?_)
 case q1=>exact iP (by show (gm 0 A).length+(gm 1 B).length≤1000000;omega)
 case q2=>show ((gm 0 A).length+(gm 1 B).length)*40≤140737488355328;omega
 (repeat first|(with_reducible apply QL);kernel_rfl|with_reducible apply UP|(with_reducible apply eT);rfl;(repeat first|(with_reducible apply ga);rfl);(with_reducible apply dC));refine xC 0 2 _ rfl rfl ?_;(refine aT ?_)
 ((refine bk rfl (aY rfl aM) ?_))
 exact ag.aU.refl _
instance anR:nn ah 65 127 1 24:=⟨by kernel_rfl⟩
theorem ai7{P:Program}{f:FuncId}{args n2:List ag}{r:ag}(h:aO P f args r)(fA:n2.all ag.aW=true)(al:n2.length=args.length)(hle:∀(i:Nat) x y,n2[i]?=some x→args[i]?=some y→x.aU y):aO P f n2 r :=
 ⟨fun x ab=>ag.c8 (bZ.1 fA x ab),h.cq,fun U W vs cO=>h.call U W vs ⟨by rw[←al];exact cO.1,fun i y v ai hv=>by
  have hi:i<n2.length:=by rw[al];exact(bq.1 ai).1
  exact hle i _ y (bB hi) ai U id W v (cO.2 i _ v (bB hi) hv)⟩⟩
theorem KE{A:List (List cj)}{op fill rung cap:Int}:ag.aU (.w (.agg [hf A,.c (.slice none 0 0),.c (.int .i64 op),.c (.int .i64 fill),.c (.int .i64 rung),.c (.int .i64 cap)])) (.w (.agg (hL A [] op fill rung cap))):=DX rfl fun j x y ab ai=>by
 match j with
 | 0=>cases ab;cases ai;exact .inl rfl
 | 1=>cases ab;cases ai;exact .inr ⟨rfl,1,rfl⟩
 | 2=>cases ab;cases ai;exact .inl rfl
 | 3=>cases ab;cases ai;exact .inl rfl
 | 4=>cases ab;cases ai;exact .inl rfl
 | 5=>cases ab;cases ai;exact .inl rfl
 | j+6=>simp at ab
theorem aeQ{op fill rung cap:Int}:ag.aU (.w (.agg [.c (.slice none 0 0),.c (.slice none 0 0),.c (.int .i64 op),.c (.int .i64 fill),.c (.int .i64 rung),.c (.int .i64 cap)])) (.w (.agg (hL [] [] op fill rung cap))):=DX rfl fun j x y ab ai=>by
 match j with
 | 0=>cases ab;cases ai;exact .inr ⟨rfl,1,rfl⟩
 | 1=>cases ab;cases ai;exact .inr ⟨rfl,1,rfl⟩
 | 2=>cases ab;cases ai;exact .inl rfl
 | 3=>cases ab;cases ai;exact .inl rfl
 | 4=>cases ab;cases ai;exact .inl rfl
 | 5=>cases ab;cases ai;exact .inl rfl
 | j+6=>simp at ab
theorem B9{P:Program}{f:FuncId}{x y:ag}{ys:List ag}{r:ag}(h:aO P f (y::ys) r)(wC:x.aW=true)(cs:ys.all ag.aW=true)(hle:x.aU y):aO P f (x::ys) r:=ai7 h (by rw[jI,wC,cs];rfl) rfl fun i a b aX aa=>by
 cases i with
 | zero=>cases aX;cases aa;exact hle
 | succ i=>rw[zj] at aX aa;rw[aX] at aa;cases aa;exact .refl _
def Xp(L:List (List cj))(b:Nat)(n:Nat)(az:List (Nat×ag))(aR:List (Nat×List AC)):Prop :=
 ∃(i:Nat) (ii c:Int),i≤L.length∧n=L.length-i∧ii=i∧c=((b+bP (L.take i):Nat):Int)∧aR=[]∧az=[(3,aL c),(24,.w (.one (hf L))),(25,aL L.length),(26,aL ii)]
theorem ahP{A B:List (List cj)}{op fill rung cap:Int}(aa:A.length+B.length+bP A+bP B≤1048576) :
  aO ah 96 [.w (.agg (hL A B op fill rung cap))] (aL ((A.length+B.length+(bP A+bP B):Nat):Int)):=by
 have jq:(A.length:Int).toNat-0=A.length:=by omega
 have z2:((A.map lC).drop (0*1)).take (A.length*1)=A.map lC:=by rw[Nat.zero_mul,List.drop_zero,Nat.mul_one,fL (by simp)]
 have z3:A.length+B.length=(A++B).length:=by simp
 have z4:A.map lC++B.map lC=(A++B).map lC:=by simp
 have z5:(A.length+B.length)*24≤140737488355328:=by omega
 have aoF:bP (A++B)=bP A+bP B:=by simp[bP]
 have Wn:(A.length:Int)+B.length=(((A++B).length+bP ((A++B).take 0):Nat):Int):=by simp[bP]
 have z9:A.length+B.length≤900000∨900000<A.length+B.length:=by omega
 have amj:A.length+B.length≤maxLen:=eO (m:=1048576) (by omega) (by decide);refine bo (f:=96) Tryz.func96 rfl rfl rfl rfl ?_;(repeat first|(with_reducible apply YY);(iterate 4 rfl);(omega);(omega);(assumption);(assumption);rfl|(with_reducible apply NC);(iterate 3 rfl);(assumption);(assumption);(assumption);(assumption);rfl|refine dc ?_);refine oE 36 (Xp (A++B) (A++B).length) (A++B).length _ [] ⟨0,0,_,dk _,rfl,rfl,Wn,rfl,rfl⟩ rfl ⟨rfl,rfl,rfl,rfl,trivial⟩ trivial rfl ?_;rintro n az aR ⟨i,ii,c,hi,rfl,ee,ak,rfl,rfl⟩ bz;clear bz jq z2 z4 z5 Wn z9 amj;generalize gh:A++B=M at *
 by_cases aj:i<M.length
 ·have q2:ii<(M.length:Int):=by omega
  have q3:0≤ii:=by omega
  obtain⟨r,j7⟩:∃r,M[i]?=some r:=⟨_,bB aj⟩;have gQ:=zo ee j7;have hs:=Mt j7;have al:=Ms (L:=M) (k:=i+1);(refine eK ?_);exact⟨M.length-(i+1),_,[],by omega,⟨i+1,ii+1,c+r.length,aj,rfl,by omega,by omega,rfl,rfl⟩,rfl,⟨rfl,rfl,rfl,rfl,trivial⟩,trivial,rfl⟩
 ·have e:i=M.length:=by omega
  subst e;rw[uf] at ak;have ny:((A.length+B.length+(bP A+bP B):Nat):Int)=c:=by omega
  rw[ny];(refine eK ?_)
  ((refine bk rfl (aY rfl aM) ?_))
  exact ag.aU.refl _
def fQ(c:aq→aq→Bool):List aq→Bool
 | []=>false
 | [_]=>false
 | p::q::V=>c p q||fQ c (q::V)
theorem yc{c:aq→aq→Bool}{R:aq→aq→Prop}(h:∀p q,c p q=false↔R p q):∀V,gu R V↔fQ c V=false
 | []=>by simp[gu,fQ]
 | [_]=>by simp[gu,fQ]
 | p::q::V=>by
  have cf:=yc h (q::V);simp only[gu,fQ,Bool.or_eq_false_iff,h p q,cf]
theorem NT{c:aq→aq→Bool}:∀(V:List aq) (p q:aq),fQ c (V++[p,q])=(fQ c (V++[p])||c p q)
 | [],p,q=>by simp[fQ]
 | [a],p,q=>by simp[fQ]
 | a::b::V,p,q=>by
  have cf:=NT (c:=c) (b::V) p q;simp only[uc,fQ] at cf ⊢;rw[cf,Bool.or_assoc]
theorem Av{c:aq→aq→Bool}{V:List aq}{k:Nat}{p q:aq}(h1:V[k]?=some p)(h2:V[k+1]?=some q):fQ c (V.take (k+2))=(fQ c (V.take (k+1))||c p q):=by
 have aH:V.take (k+1)=V.take k++[p]:=by
  rw[jL (bq.1 h1).1,(bq.1 h1).2]
 have aN:V.take (k+2)=V.take k++[p,q]:=by
  rw[jL (bq.1 h2).1,(bq.1 h2).2,aH];simp
 rw[aH,aN,NT]
theorem Au{c:aq→aq→Bool}(V:List aq):fQ c (V.take 1)=false:=by
 cases V <;> rfl
theorem akk{r:Nat}{V:List aq}{D:List Int}:xy r V D↔V≠[]∧V.length=D.length+1∧(∀v∈V,dX r v.1 v.2=true)∧fQ (fun p q=>dE p.1 p.2 q.1 q.2) V=false∧(∀d∈D,1≤d∧d≤1048576) ∧
  (fQ (fun p q=>decide (q.1<p.1)) V=false∨fQ (fun p q=>decide (q.1>p.1)) V=false)∧(fQ (fun p q=>decide (q.2<p.2)) V=false∨fQ (fun p q=>decide (q.2>p.2)) V=false):=by
 unfold xy;rw[yc (c:=fun p q=>dE p.1 p.2 q.1 q.2) (R:=(· ≠ ·)) (fun p q => ?_),yc (c:=fun p q=>decide (q.1<p.1)) (R:=fun p q=>p.1≤q.1) (fun p q => ?_),yc (c:=fun p q=>decide (q.1>p.1)) (R:=fun p q=>q.1≤p.1) (fun p q => ?_),yc (c:=fun p q=>decide (q.2<p.2)) (R:=fun p q=>p.2≤q.2) (fun p q => ?_),yc (c:=fun p q=>decide (q.2>p.2)) (R:=fun p q=>q.2≤p.2) (fun p q => ?_)]
 ·rw[kG];omega
 ·rw[kG];omega
 ·rw[kG];omega
 ·rw[kG];omega
 ·obtain⟨x,y⟩:=p;obtain⟨z,w⟩:=q
  constructor
  ·intro h e;have:=qY.2 (⟨congrArg Prod.fst e,congrArg Prod.snd e⟩:x=z∧y=w);rw[h] at this;cases this
  ·intro h;cases he:dE x y z w with
   | false=>rfl
   | true=>obtain⟨rfl,rfl⟩:=qY.1 he;exact absurd rfl h
theorem NS{c:aq→aq→Bool}:∀(V W:List aq),fQ c V=true→fQ c (V++W)=true
 | [],W,h=>by simp[fQ] at h
 | [a],W,h=>by simp[fQ] at h
 | a::b::V,W,h=>by
  have cf:=NS (c:=c) (b::V) W;simp only[uc,fQ,pA] at cf h ⊢;rcases h with h|h
  ·exact .inl h
  ·exact .inr (cf h)
theorem Zc{c:aq→aq→Bool}{V:List aq}{k:Nat}(h:fQ c (V.take k)=true):fQ c V=true:=by
 have:=NS (V.take k) (V.drop k) h;rwa [kg] at this
def Wr(r:Nat)(V:List aq)(n:Nat)(az:List (Nat×ag))(aR:List (Nat×List AC)):Prop :=
 ∃(i:Nat) (ii:Int),i≤V.length∧n=V.length-i∧ii=i∧(V.take i).all (fun v=>dX r v.1 v.2)=true∧aR=[]∧az=[(1,aL r),(15,fF V),(16,aL V.length),(17,aL ii)]
theorem ah9{V:List aq}{r:Nat}(ao:r≤28)(mO:0<V.length)(aa:V.length≤100000):aO ah 298 [fF V,aL r] (bl (V.all fun v=>dX r v.1 v.2)):=by
 have an:hj (r:Int) r:=⟨ao,.inr (.inr rfl)⟩;have bd:=Gr (k:=(r:Int));rw[show (decide (0≤(r:Int))&&decide ((r:Int)≤28))=true by rw[b5 (by omega),b5 (by omega)];rfl] at bd;have c4:¬(V.length:Int)=0:=by omega
 refine bo (f:=298) Tryz.func298 rfl rfl rfl rfl ?_;(repeat first|refine dc ?_|refine fw ?_|(with_reducible apply bR (c:=false));rfl;rfl;(exact cc (by omega)));refine oE 26 (Wr r V) V.length _ [] ⟨0,0,dk _,rfl,rfl,rfl,rfl,rfl⟩ rfl ⟨rfl,rfl,rfl,rfl,trivial⟩ trivial rfl ?_;rintro n az aR ⟨i,ii,hi,rfl,ee,wL,rfl,rfl⟩ bz;clear bz c4 bd
 by_cases aj:i<V.length
 ·have q2:ii<(V.length:Int):=by omega
  have q3:0≤ii:=by omega
  obtain⟨x,y,g1⟩:∃x y,V[i]?=some (x,y):=⟨_,_,bB aj⟩;have gQ:=oO ee g1
  have aC:V.take (i+1)=V.take i++[(x,y)]:=by
   rw[jL aj,(bq.1 g1).2]
  cases lO:dX r x y with
  | false =>
   have Xe:=tW an lO
   have e:(V.all fun v=>dX r v.1 v.2)=false:=by
    refine List.all_eq_false.2 ⟨(x,y),cM g1,?_⟩;simp only[lO];decide
   rw[e];clear an;(refine cK ?_)
   ((refine bk rfl (aY rfl aM) ?_))
   exact ag.aU.refl _
  | true =>
   have Xe:=tW an lO
   have e:(V.take (i+1)).all (fun v=>dX r v.1 v.2)=true:=by
    rw[aC,List.all_append,wL];simp[lO]
   clear an;(refine cK ?_);exact⟨V.length-(i+1),_,[],by omega,⟨i+1,ii+1,by omega,rfl,by omega,e,rfl,rfl⟩,rfl,⟨rfl,rfl,rfl,rfl,trivial⟩,trivial,rfl⟩
 ·have q2:¬ii<(V.length:Int):=by omega
  rw[fL (by omega)] at wL;rw[wL];(refine eK ?_)
  ((refine bk rfl (aY rfl aM) ?_))
  exact ag.aU.refl _
theorem ah8{V:List aq}{k:Int}(cs:(V.length:Int)=0∨(¬(V.length:Int)=0∧¬(0≤k∧k≤28))):aO ah 298 [fF V,aL k] (bl false):=by
 rcases cs with c4|⟨c4,q1⟩
 ·refine bo (f:=298) Tryz.func298 rfl rfl rfl rfl ?_;(repeat first|refine dc ?_|(with_reducible apply bR (c:=true));rfl;rfl;(exact b5 (by omega)))
  ((refine bk rfl (aY rfl aM) ?_))
  exact ag.aU.refl _
 ·have bd:=Gr (k:=k)
  rw[show (decide (0≤k)&&decide (k≤28))=false by
   rcases qy k 0 with h|h
   ·rw[cc (by omega)];rfl
   ·rw[cc (p:=k≤28) (by omega)];simp] at bd
  refine bo (f:=298) Tryz.func298 rfl rfl rfl rfl ?_;(repeat first|refine dc ?_|refine fw ?_|(with_reducible apply bR (c:=false));rfl;rfl;(exact cc (by omega)))
  ((refine bk rfl (aY rfl aM) ?_))
  exact ag.aU.refl _
def Wp(D:List Int)(n:Nat)(az:List (Nat×ag))(aR:List (Nat×List AC)):Prop :=
 ∃(i:Nat) (ii:Int),i≤D.length∧n=D.length-i∧ii=i∧(D.take i).all (fun d=>decide (1≤d∧d≤1048576))=true∧aR=[]∧az=[(5,iI D),(6,aL D.length),(7,aL ii)]
theorem ah7{D:List Int}(aa:D.length≤100000):aO ah 300 [iI D] (bl (D.all fun d=>decide (1≤d∧d≤1048576))):=by
 refine bo (f:=300) Tryz.func300 rfl rfl rfl rfl ?_;(refine eK ?_);refine oE 18 (Wp D) D.length _ [] ⟨0,0,dk _,rfl,rfl,rfl,rfl,rfl⟩ rfl ⟨rfl,rfl,rfl,trivial⟩ trivial rfl ?_;rintro n az aR ⟨i,ii,hi,rfl,ee,wL,rfl,rfl⟩ bz;clear bz
 by_cases aj:i<D.length
 ·have q2:ii<(D.length:Int):=by omega
  have q3:0≤ii:=by omega
  obtain⟨d,g1⟩:∃d,D[i]?=some d:=⟨_,bB aj⟩;have gQ:=oN ee g1
  have aC:D.take (i+1)=D.take i++[d]:=by
   rw[jL aj,(bq.1 g1).2]
  have no:¬(1≤d∧d≤1048576)→(D.all fun d=>decide (1≤d∧d≤1048576))=false:=fun h =>
   List.all_eq_false.2 ⟨d,cM g1,by rw[cc h];decide⟩
  by_cases c1:d<1
  ·rw[no (by omega)];(repeat first|refine dc ?_|(with_reducible apply bR (c:=true));rfl;rfl;(exact b5 (by omega)))
   ((refine bk rfl (aY rfl aM) ?_))
   exact ag.aU.refl _
  ·by_cases c2:d>1048576
   ·rw[no (by omega)];(repeat first|refine dc ?_|(with_reducible apply bR (c:=false));rfl;rfl;(exact cc (by omega)))
    ((refine bk rfl (aY rfl aM) ?_))
    exact ag.aU.refl _
   ·have e:(D.take (i+1)).all (fun d=>decide (1≤d∧d≤1048576))=true:=by
     rw[aC,List.all_append,wL];simp;omega
    (repeat first|refine dc ?_|(with_reducible apply bR (c:=false));rfl;rfl;(exact cc (by omega)));exact⟨D.length-(i+1),_,[],by omega,⟨i+1,ii+1,by omega,rfl,by omega,e,rfl,rfl⟩,rfl,⟨rfl,rfl,rfl,trivial⟩,trivial,rfl⟩
 ·have q2:¬ii<(D.length:Int):=by omega
  rw[fL (by omega)] at wL;rw[wL];(refine eK ?_)
  ((refine bk rfl (aY rfl aM) ?_))
  exact ag.aU.refl _
def Cl(p q:aq):Bool:=dE p.1 p.2 q.1 q.2
def LW(p q:aq):Bool:=decide (q.1>p.1)
def KV(p q:aq):Bool:=decide (q.1<p.1)
def MA(p q:aq):Bool:=decide (q.2>p.2)
def IE(p q:aq):Bool:=decide (q.2<p.2)
def tr(V:List aq):Bool := !fQ Cl V&&(!(fQ LW V&&fQ KV V) && !(fQ MA V&&fQ IE V))
def W5(V:List aq)(n:Nat)(az:List (Nat×ag))(aR:List (Nat×List AC)):Prop :=
 ∃(i:Nat) (ii:Int) (b1 b2 dK df:Bool),n=V.length+1-i∧ii=i∧1≤i∧i≤V.length+1∧fQ Cl (V.take i)=false∧fQ LW (V.take i)=b1∧fQ KV (V.take i)=b2∧fQ MA (V.take i)=dK∧fQ IE (V.take i)=df∧aR=[]∧az=[(0,fF V),(3,bl b1),(4,bl b2),(5,bl dK),(6,bl df),(7,aL ii)]
theorem aiw{V:List aq}(aa:V.length≤100000):aO ah 299 [fF V] (bl (tr V)):=by
 refine bo (f:=299) Tryz.func299 rfl rfl rfl rfl ?_;(refine eK ?_);refine oE 72 (W5 V) (V.length+1-1) _ [] ⟨1,1,false,false,false,false,rfl,rfl,cE _,by omega,Au V,Au V,Au V,Au V,Au V,rfl,rfl⟩ rfl ⟨rfl,rfl,rfl,rfl,rfl,rfl,trivial⟩ trivial rfl ?_;rintro n az aR ⟨i,ii,b1,b2,dK,df,rfl,ee,en,hi,aE,h1,h2,ar,aK,rfl,rfl⟩ bz;clear bz
 by_cases aj:i<V.length
 ·have q2:ii<(V.length:Int):=by omega
  have q3:0≤ii:=by omega
  have q4:0≤ii-1:=by omega
  have lV:ii-1<(V.length:Int):=by omega
  have w1:IntKind.i64.wrap (ii-1)=ii-1:=kC (by omega);obtain⟨k,rfl⟩:∃k,i=k+1:=⟨i-1,by omega⟩;obtain⟨x,y,g1⟩:∃x y,V[k]?=some (x,y):=⟨_,_,bB (by omega)⟩;obtain⟨z,w,g2⟩:∃z w,V[k+1]?=some (z,w):=⟨_,_,bB aj⟩;have gQ:=oO (j:=ii-1) (i:=k) (by omega) g1;have uA:=oO ee g2;have eA:=Av (c:=Cl) g1 g2;have s1:=Av (c:=LW) g1 g2;have s2:=Av (c:=KV) g1 g2;have bV:=Av (c:=MA) g1 g2;have b8:=Av (c:=IE) g1 g2;rw[aE] at eA;rw[h1] at s1;rw[h2] at s2;rw[ar] at bV;rw[aK] at b8;cases he:dE x y z w with
  | true =>
   have e:tr V=false:=by
    unfold tr;rw[Zc (c:=Cl) (V:=V) (k:=k+2) (by rw[eA];exact he)];rfl
   rw[e];clear eA s1 s2 bV b8 aE h1 h2 ar aK;(refine eK ?_)
   ((refine bk rfl (aY rfl aM) ?_))
   exact ag.aU.refl _
  | false =>
   have cr:fQ Cl (V.take (k+2))=false:=by rw[eA];exact he
   clear eA aE h1 h2 ar aK;cases b1 <;> cases b2 <;> cases dK <;> cases df
   all_goals
    (refine eK ?_);exact⟨V.length+1-(k+2),_,[],by omega,⟨k+2,ii+1,_,_,_,_,rfl,by omega,by omega,by omega,cr,s1,s2,bV,b8,rfl,rfl⟩,rfl,⟨rfl,rfl,rfl,rfl,rfl,rfl,trivial⟩,trivial,rfl⟩
 ·have q2:¬ii<(V.length:Int):=by omega
  rw[fL (by omega)] at aE h1 h2 ar aK;have e:tr V=(!(b1&&b2) && !(dK&&df)):=by unfold tr;rw[aE,h1,h2,ar,aK];rfl
  rw[e];clear aE h1 h2 ar aK e;cases b1 <;> cases b2 <;> cases dK <;> cases df
  all_goals
   (refine eK ?_)
   ((refine bk rfl (aY rfl aM) ?_))
   exact ag.aU.refl _
theorem aki{r:Nat}{V:List aq}{D:List Int}:xx r V D=(decide (0<V.length)&&((V.all fun v=>dX r v.1 v.2)&&(tr V&&(decide ((D.length:Int)=(V.length:Int)-1)&&D.all fun d=>decide (1≤d∧d≤1048576))))):=by
 have key:xy r V D↔(decide (0<V.length)&&((V.all fun v=>dX r v.1 v.2)&&(tr V&&(decide ((D.length:Int)=(V.length:Int)-1)&&D.all fun d=>decide (1≤d∧d≤1048576)))))=true:=by
  rw[akk];unfold tr;simp only[eg,cT,bZ,ua,Bool.and_eq_false_iff]
  constructor
  ·rintro⟨g1,g2,g3,g4,g5,g6,g7⟩;exact⟨by cases V <;> simp_all,g3,⟨g4,g6.symm,g7.symm⟩,by omega,g5⟩
  ·rintro⟨g1,g3,⟨g4,g6,g7⟩,g2,g5⟩;exact⟨fun h=>by simp[h] at g1,by omega,g3,g4,g5,g6.symm,g7.symm⟩
 by_cases h:xy r V D
 ·rw[UM h];exact(key.1 h).symm
 ·rw[akj h];cases aa:(decide (0<V.length)&&((V.all fun v=>dX r v.1 v.2)&&(tr V&&(decide ((D.length:Int)=(V.length:Int)-1)&&D.all fun d=>decide (1≤d∧d≤1048576))))) with
  | false=>rfl
  | true=>exact absurd (key.2 aa) h
theorem Uu{V:List aq}{D:List Int}{k:Int}{b1 b2 df:Bool}(aa:V.length≤1100)(a7:aO ah 298 [fF V,aL k] (bl b1))(bK:aO ah 299 [fF V] (bl b2))(js:aO ah 300 [iI D] (bl df)):aO ah 258 [oA V D,aL k] (bl (b1&&(b2&&(decide ((D.length:Int)=(V.length:Int)-1)&&df)))):=by
 by_cases q:(D.length:Int)=(V.length:Int)-1
 ·rw[b5 q];cases b1 <;> cases b2 <;> cases df
  all_goals
   refine bo (f:=258) Tryz.func258 rfl rfl rfl rfl ?_;(repeat first|refine dc ?_|refine fw ?_|(with_reducible apply bR (c:=true));rfl;rfl;(exact b5 (by omega)))
   ((refine bk rfl (aY rfl aM) ?_))
   exact ag.aU.refl _
 ·rw[cc q];cases b1 <;> cases b2
  all_goals
   simp only[Bool.false_and,Bool.and_false,pF];clear js;refine bo (f:=258) Tryz.func258 rfl rfl rfl rfl ?_;(repeat first|refine dc ?_|refine fw ?_|(with_reducible apply bR (c:=false));rfl;rfl;(exact cc (by omega)))
   ((refine bk rfl (aY rfl aM) ?_))
   exact ag.aU.refl _
theorem ae5:MX:=by
 intro V D r ao aa hd j5 oG;rw[aki];have bK:=aiw (V:=V) (by omega);have js:=ah7 (D:=D) (by omega)
 by_cases h:0<V.length
 ·rw[b5 h,pF];exact Uu aa (ah9 ao h (by omega)) bK js
 ·rw[cc h,Bool.false_and];have:=Uu aa (ah8 (k:=(r:Int)) (.inl (by omega))) bK js;rwa [Bool.false_and] at this
end Go.Proofs.YtklpfooafbjnpaaGreat
