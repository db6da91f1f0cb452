/-
  My own texts,without what this claim does not need. My own text.
-/
import Derived.Test.YtklpfooafbjnpaaGreatSLRoomsK11
set_option maxRecDepth 100000
set_option maxHeartbeats 64000000
set_option linter.unusedVariables false
set_option linter.unusedSimpArgs false
set_option linter.unusedSectionVars false
open Go.Proofs.Tryz renaming prog → ah
namespace Go.Proofs.YtklpfooafbjnpaaGreat
open Go.RowKit
def bM(L:List (List cj)):Nat:=(L.map List.length).sum
theorem MB{L:List (List cj)}{k:Nat}{r:List cj}(h:L[k]?=some r):bM (L.take (k+1))=bM (L.take k)+r.length:=by
 rw[take_one h];simp[bM]
theorem MA{L:List (List cj)}{k:Nat}:bM (L.take k)≤bM L:=by
 have e:bM L=bM (L.take k)+bM (L.drop k):=by
  conv=>lhs;rw[←kh k L]
  simp only[bM,sX,List.sum_append]
 omega
theorem VO{L:List (List cj)}{k:Nat}{r:List cj}(h:L[k]?=some r):r.length≤bM L:=by
 have h1:=MB h;have h2:=MA (L:=L) (k:=k+1);omega
def mZ:List (List cj)→Nat→Nat
 | [],c=>c
 | r::L,c=>if c≤256 then(if 256<r.length then 257 else mZ L (c+r.length)) else c
theorem ajJ(r:List cj)(L:List (List cj))(c:Nat):mZ (r::L) c=if c≤256 then(if 256<r.length then 257 else mZ L (c+r.length)) else c:=rfl
theorem LR:∀(L:List (List cj)) (c:Nat),c≤512→(c+bM L≤256→mZ L c=c+bM L)∧(256<c+bM L→256<mZ L c)∧mZ L c≤512
 | [],c,h=>by simp[mZ,bM];omega
 | r::L,c,h=>by
  have e:bM (r::L)=r.length+bM L:=by simp[bM]
  unfold mZ;rw[e]
  split
  ·split
   ·omega
   ·have:=LR L (c+r.length) (by omega);omega
  ·omega
def XM(L:List (List cj))(n:Nat)(az:List (Nat×ag))(aS:List (Nat×List AC)):Prop :=
 ∃(k:Nat) (dc:Int) (c:Nat),k≤L.length∧n=L.length-k∧dc=k∧c≤512∧mZ L 0=mZ (L.drop k) c∧aS=[]∧az=[(0,.w (.one (hc L))),(3,aL c),(4,aL dc)]
theorem TI{L:List (List cj)}(dm:L.length≤4611686018427387904)(ao:∀r∈L,r.length≤4611686018427387904):aP ah 99 [.w (.one (hc L))] (aL (mZ L 0)):=by
 refine bp (f:=99) Tryz.func99 rfl rfl rfl rfl ?_;(refine eI ?_);refine oI 29 (XM L) L.length _ [] ⟨0,0,0,dq _,rfl,rfl,by decide,rfl,rfl,rfl⟩ rfl ⟨rfl,rfl,rfl,trivial⟩ trivial rfl ?_;rintro n az aS ⟨k,dc,c,ae,rfl,jk,ak,hv,rfl,rfl⟩ bC;clear bC
 by_cases aj:k<L.length
 ·have q2:dc<(L.length:Int):=by omega
  have q3:0≤dc:=by omega
  obtain⟨r,j8⟩:∃r,L[k]?=some r:=⟨_,bE aj⟩;have hh:=zA jk j8;have hJ:=ao r (cN j8);have hd:L.drop k=r::L.drop (k+1):=by rw[jP aj,(bt.1 j8).2]
  rw[hd] at hv;rw[ajJ] at hv
  by_cases h1:(c:Int)≤256
  ·rw[if_pos (by omega)] at hv
   by_cases h2:(r.length:Int)>256
   ·rw[if_pos (by omega)] at hv;rw[hv];(repeat first|refine dd ?_|(with_reducible apply bT (c:=true));rfl;rfl;(exact b5 (by omega)))
    ((refine bk rfl (aX rfl aM) ?_))
    exact ag.aU.refl _
   ·rw[if_neg (by omega)] at hv;(repeat first|refine dd ?_|(with_reducible apply bT (c:=true));rfl;rfl;(exact b5 (by omega)));exact⟨L.length-(k+1),[(0,.w (.one (hc L))),(3,aL (c+r.length:Nat)),(4,aL (dc+1))],[],by omega,⟨k+1,dc+1,c+r.length,aj,rfl,by omega,by omega,hv,rfl,rfl⟩,rfl,⟨rfl,rfl,rfl,trivial⟩,trivial,rfl⟩
  ·rw[if_neg (by omega)] at hv;rw[hv];(repeat first|refine dd ?_|(with_reducible apply bT (c:=true));rfl;rfl;(exact b5 (by omega)))
   ((refine bk rfl (aX rfl aM) ?_))
   exact ag.aU.refl _
 ·have q2:¬dc<(L.length:Int):=by omega
  have cz:L.drop k=[]:=rE (by omega);rw[cz] at hv;rw[hv];(repeat first|refine dd ?_|(with_reducible apply bT (c:=false));rfl;rfl;(exact b8 (by omega)))
  ((refine bk rfl (aX rfl aM) ?_))
  exact ag.aU.refl _
def jj(p:cj):Bool:=decide (p.1>67108864)||decide (p.1 < -67108864)||decide (p.2>67108864)||decide (p.2 < -67108864)
def iH:List (List cj)→Int
 | []=>0
 | r::L=>if r.length<3 then 114 else if r.any jj=true then 115 else iH L
theorem CW(r:List cj)(L:List (List cj)):iH (r::L)=if r.length<3 then 114 else if r.any jj=true then 115 else iH L:=rfl
def XS(L:List (List cj))(n:Nat)(az:List (Nat×ag))(aS:List (Nat×List AC)):Prop :=
 ∃(k:Nat) (dc:Int),k≤L.length∧n=L.length-k∧dc=k∧iH L=iH (L.drop k)∧aS=[]∧az=[(0,.w (.one (hc L))),(3,aL dc)]
def XT(L:List (List cj))(r:List cj)(dc:Int)(n:Nat)(az:List (Nat×ag))(aS:List (Nat×List AC)):Prop :=
 ∃(i:Nat) (ii:Int),i≤r.length∧n=r.length-i∧ii=i∧r.any jj=(r.drop i).any jj∧aS=[]∧az=[(0,.w (.one (hc L))),(3,aL dc),(4,aL ii)]
theorem TK{L:List (List cj)}(dm:L.length≤4611686018427387904)(ao:∀r∈L,r.length≤4611686018427387904):aP ah 100 [.w (.one (hc L))] (aL (iH L)):=by
 refine bp (f:=100) Tryz.func100 rfl rfl rfl rfl ?_;(refine eI ?_);refine oI 52 (XS L) L.length _ [] ⟨0,0,dq _,rfl,rfl,rfl,rfl,rfl⟩ rfl ⟨rfl,rfl,trivial⟩ trivial rfl ?_;rintro n az aS ⟨k,dc,ae,rfl,jk,hv,rfl,rfl⟩ bC;clear bC
 by_cases aj:k<L.length
 ·have q2:dc<(L.length:Int):=by omega
  have q3:0≤dc:=by omega
  obtain⟨r,j8⟩:∃r,L[k]?=some r:=⟨_,bE aj⟩;have hh:=zA jk j8;have hJ:=ao r (cN j8);have hd:L.drop k=r::L.drop (k+1):=by rw[jP aj,(bt.1 j8).2]
  rw[hd] at hv;rw[CW] at hv
  by_cases ar:(r.length:Int)<3
  ·rw[if_pos (by omega)] at hv;rw[hv];(refine eI ?_)
   ((refine bk rfl (aX rfl aM) ?_))
   exact ag.aU.refl _
  ·rw[if_neg (by omega)] at hv;(refine eI ?_);refine oI 52 (XT L r dc) r.length _ [] ⟨0,0,dq _,rfl,rfl,rfl,rfl,rfl⟩ rfl ⟨rfl,rfl,rfl,trivial⟩ trivial rfl ?_;rintro n az aS ⟨i,ii,hi,rfl,eu,au,rfl,rfl⟩ bC;clear bC
   by_cases hp:i<r.length
   ·have p2:ii<(r.length:Int):=by omega
    have p3:0≤ii:=by omega
    obtain⟨x,y,g1⟩:∃x y,r[i]?=some (x,y):=⟨_,_,bE hp⟩;have kP:=rJ eu g1;have yK:r.drop i=(x,y)::r.drop (i+1):=by rw[jP hp,(bt.1 g1).2]
    rw[yK,List.any_cons] at au
    have cs:(x>67108864∧jj (x,y)=true)∨(¬x>67108864∧x < -67108864∧jj (x,y)=true)∨(¬x>67108864∧¬x < -67108864∧y>67108864∧jj (x,y)=true)∨(¬x>67108864∧¬x < -67108864∧¬y>67108864∧y < -67108864∧jj (x,y)=true)∨(¬x>67108864∧¬x < -67108864∧¬y>67108864∧¬y < -67108864∧jj (x,y)=false):=by
     unfold jj
     by_cases h1:x>67108864 <;> by_cases h2:x < -67108864 <;> by_cases aJ:y>67108864 <;> by_cases bR:y < -67108864 <;> simp[h1,h2,aJ,bR]
    rcases cs with ⟨c1,tN⟩|⟨c1,c2,tN⟩|⟨c1,c2,jg,tN⟩|⟨c1,c2,jg,AK,tN⟩|⟨c1,c2,jg,AK,tN⟩
    iterate 4
     ·rw[tN,Bool.true_or] at au;rw[if_pos au] at hv;rw[hv];(repeat first|refine dd ?_|(with_reducible apply bT (c:=true));rfl;rfl;(exact b5 (by omega))|(with_reducible apply bT (c:=false));rfl;rfl;(exact b8 (by omega)))
      ((refine bk rfl (aX rfl aM) ?_))
      exact ag.aU.refl _
    ·rw[tN,Bool.false_or] at au;(repeat first|refine dd ?_|(with_reducible apply bT (c:=false));rfl;rfl;(exact b8 (by omega)));exact⟨r.length-(i+1),_,[],by omega,⟨i+1,ii+1,hp,rfl,by omega,au,rfl,rfl⟩,rfl,⟨rfl,rfl,rfl,trivial⟩,trivial,rfl⟩
   ·have p2:¬ii<(r.length:Int):=by omega
    have cz:r.drop i=[]:=rE (by omega);rw[cz] at au;rw[au,List.any_nil,if_neg (by decide)] at hv;(refine eI ?_);exact⟨L.length-(k+1),_,[],by omega,⟨k+1,dc+1,aj,rfl,by omega,hv,rfl,rfl⟩,rfl,⟨rfl,rfl,trivial⟩,trivial,rfl⟩
 ·have q2:¬dc<(L.length:Int):=by omega
  have cz:L.drop k=[]:=rE (by omega);rw[cz] at hv;rw[hv];(refine eI ?_)
  ((refine bk rfl (aX rfl aM) ?_))
  exact ag.aU.refl _
def ir(A B:List (List cj))(op fill rung cap:Int):Int :=
 if op<0∨op>3 then 110 else if fill<0∨fill>1 then 111 else if rung<0∨rung>28 then 112 else if cap<1∨cap>1024 then 113 else if bM A+bM B<1∨bM A+bM B>256 then 116 else if iH A=0 then iH B else iH A
theorem ajg{A B:List (List cj)}{op fill rung cap:Int}(cr:A.length≤4611686018427387904)(yF:∀r∈A,r.length≤4611686018427387904)(cY:B.length≤4611686018427387904)(yG:∀r∈B,r.length≤4611686018427387904) :
  aP ah 45 [.w (.agg (h9 A B op fill rung cap))] (aL (ir A B op fill rung cap)):=by
 have fL:=TI cr yF;have gH:=TI cY yG;have bg:=TK cr yF;have dS:=TK cY yG;obtain⟨s1,s2,bW⟩:=LR A 0 (by decide);obtain⟨t1,t2,t3⟩:=LR B 0 (by decide);have aH:((mZ A 0:Int)+(mZ B 0:Int)<1∨(mZ A 0:Int)+(mZ B 0:Int)>256)↔(bM A+bM B<1∨bM A+bM B>256):=by omega
 unfold ir;generalize mZ A 0=a at *;generalize mZ B 0=b at *;generalize iH A=x at *;generalize iH B=y at *;generalize bM A+bM B=m at *;clear s1 s2 t1 t2
 by_cases k:op<0∨op>3
 ·rw[if_pos k];clear aH
  by_cases bD:op<0
  ·refine bp (f:=45) Tryz.func45 rfl rfl rfl rfl ?_;(repeat first|refine dd ?_|(with_reducible apply bT (c:=true));rfl;rfl;(exact b5 (by omega)))
   ((refine bk rfl (aX rfl aM) ?_))
   exact ag.aU.refl _
  ·have cp:op>3:=by omega
   refine bp (f:=45) Tryz.func45 rfl rfl rfl rfl ?_;(repeat first|refine dd ?_|(with_reducible apply bT (c:=false));rfl;rfl;(exact b8 (by omega)))
   ((refine bk rfl (aX rfl aM) ?_))
   exact ag.aU.refl _
 ·rw[if_neg k];have aoH:¬op<0:=fun h=>k (.inl h);have aoI:¬op>3:=fun h=>k (.inr h);clear k
  by_cases k:fill<0∨fill>1
  ·rw[if_pos k];clear aH
   by_cases bD:fill<0
   ·refine bp (f:=45) Tryz.func45 rfl rfl rfl rfl ?_;(repeat first|refine dd ?_|(with_reducible apply bT (c:=true));rfl;rfl;(exact b5 (by omega))|(with_reducible apply bT (c:=false));rfl;rfl;(exact b8 (by omega)))
    ((refine bk rfl (aX rfl aM) ?_))
    exact ag.aU.refl _
   ·have cp:fill>1:=by omega
    refine bp (f:=45) Tryz.func45 rfl rfl rfl rfl ?_;(repeat first|refine dd ?_|(with_reducible apply bT (c:=false));rfl;rfl;(exact b8 (by omega)))
    ((refine bk rfl (aX rfl aM) ?_))
    exact ag.aU.refl _
  ·rw[if_neg k];have aoE:¬fill<0:=fun h=>k (.inl h);have aoF:¬fill>1:=fun h=>k (.inr h);clear k
   by_cases k:rung<0∨rung>28
   ·rw[if_pos k];clear aH
    by_cases bD:rung<0
    ·refine bp (f:=45) Tryz.func45 rfl rfl rfl rfl ?_;(repeat first|refine dd ?_|(with_reducible apply bT (c:=true));rfl;rfl;(exact b5 (by omega))|(with_reducible apply bT (c:=false));rfl;rfl;(exact b8 (by omega)))
     ((refine bk rfl (aX rfl aM) ?_))
     exact ag.aU.refl _
    ·have cp:rung>28:=by omega
     refine bp (f:=45) Tryz.func45 rfl rfl rfl rfl ?_;(repeat first|refine dd ?_|(with_reducible apply bT (c:=false));rfl;rfl;(exact b8 (by omega)))
     ((refine bk rfl (aX rfl aM) ?_))
     exact ag.aU.refl _
   ·rw[if_neg k];have aoJ:¬rung<0:=fun h=>k (.inl h);have aoK:¬rung>28:=fun h=>k (.inr h);clear k
    by_cases k:cap<1∨cap>1024
    ·rw[if_pos k];clear aH
     by_cases bD:cap<1
     ·refine bp (f:=45) Tryz.func45 rfl rfl rfl rfl ?_;(repeat first|refine dd ?_|(with_reducible apply bT (c:=true));rfl;rfl;(exact b5 (by omega))|(with_reducible apply bT (c:=false));rfl;rfl;(exact b8 (by omega)))
      ((refine bk rfl (aX rfl aM) ?_))
      exact ag.aU.refl _
     ·have cp:cap>1024:=by omega
      refine bp (f:=45) Tryz.func45 rfl rfl rfl rfl ?_;(repeat first|refine dd ?_|(with_reducible apply bT (c:=false));rfl;rfl;(exact b8 (by omega)))
      ((refine bk rfl (aX rfl aM) ?_))
      exact ag.aU.refl _
    ·rw[if_neg k];have aoA:¬cap<1:=fun h=>k (.inl h);have aoB:¬cap>1024:=fun h=>k (.inr h);clear k
     by_cases k:(a:Int)+(b:Int)<1∨(a:Int)+(b:Int)>256
     ·rw[if_pos (aH.1 k)];clear aH
      by_cases bD:(a:Int)+(b:Int)<1
      ·refine bp (f:=45) Tryz.func45 rfl rfl rfl rfl ?_;(repeat first|refine dd ?_|refine fs ?_|refine uE gH ?_|(with_reducible apply bT (c:=true));rfl;rfl;(exact b5 (by omega))|(with_reducible apply bT (c:=false));rfl;rfl;(exact b8 (by omega)))
       ((refine bk rfl (aX rfl aM) ?_))
       exact ag.aU.refl _
      ·have cp:(a:Int)+(b:Int)>256:=by omega
       refine bp (f:=45) Tryz.func45 rfl rfl rfl rfl ?_;(repeat first|refine dd ?_|refine fs ?_|refine uE gH ?_|(with_reducible apply bT (c:=false));rfl;rfl;(exact b8 (by omega)))
       ((refine bk rfl (aX rfl aM) ?_))
       exact ag.aU.refl _
     ·rw[if_neg fun h=>k (aH.2 h)];have m1:¬(a:Int)+(b:Int)<1:=fun h=>k (.inl h);have m2:¬(a:Int)+(b:Int)>256:=fun h=>k (.inr h);clear k aH
      by_cases k:x=0
      ·rw[if_pos k];subst k;refine bp (f:=45) Tryz.func45 rfl rfl rfl rfl ?_;(repeat first|refine dd ?_|refine fs ?_|refine uE gH ?_|(with_reducible apply bT (c:=false));rfl;rfl;(exact b8 (by omega)))
       ((refine bk rfl (aX rfl aM) ?_))
       exact ag.aU.refl _
      ·rw[if_neg k];refine bp (f:=45) Tryz.func45 rfl rfl rfl rfl ?_;(repeat first|refine dd ?_|refine fs ?_|refine uE gH ?_|(with_reducible apply bT (c:=false));rfl;rfl;(exact b8 (by omega)))
       ((refine bk rfl (aX rfl aM) ?_))
       exact ag.aU.refl _
theorem VN(A B:List (List cj)):bM (A++B)=bM A+bM B:=by simp[bM]
theorem UE:∀(A B:List (List cj)),iH (A++B)=if iH A=0 then iH B else iH A
 | [],B=>rfl
 | r::A,B=>by
  rw[uo,CW,CW]
  by_cases h1:r.length<3
  ·rw[if_pos h1,if_pos h1];rfl
  ·rw[if_neg h1,if_neg h1]
   by_cases h2:r.any jj=true
   ·rw[if_pos h2,if_pos h2];rfl
   ·rw[if_neg h2,if_neg h2];exact UE A B
theorem UH{A B:List (List cj)}{i:Nat}{x:List ag}(h:(s7 A B)[i]?=some x):∃r,(A++B)[i]?=some r∧x=[.w (.one (lF r))]:=by
 rw[s7,dG] at h;obtain⟨r,h1,rfl⟩:=Option.map_eq_some_iff.1 h;exact⟨r,h1,rfl⟩
theorem UI{A B:List (List cj)}:∀x∈s7 A B,x.length=1∧x.all ag.aY=true:=fun x ab=>by
 obtain⟨r,_,rfl⟩:=fS.1 ab;exact⟨rfl,rfl⟩
def XH(M:List (List cj))(i:Nat)(R:aE)(cW:List (List AC)):Prop:=∃c:Int,R=dW∧cW=[[.c (.bool false)],[.c (.int .i64 c)]]∧c=(bM (M.take i):Nat)∧c≤256
def XI(M:List (List cj))(e:Exit)(R:aE)(cW:List (List AC)):Prop:=∃c:Int,e = .ret∧R=dW∧cW=[[.c (.bool true)],[.c (.int .i64 c)]]∧256<bM M
def xw(A B:List (List cj)):Bool:=decide (bM A+bM B<1∨bM A+bM B>256)
theorem ai3{A B:List (List cj)}{op fill rung cap:Int}(cr:A.length≤4611686018427387904)(cY:B.length≤4611686018427387904)(ao:∀r∈A++B,r.length≤4611686018427387904) :
  aP ah 162 [.w (.agg (h9 A B op fill rung cap))] (bl (xw A B)):=by
 have ko:=TE A B op fill rung cap;have nl:=Ru (A:=A) (B:=B) (op:=op) (fill:=fill) (rung:=rung) (cap:=cap) cr cY;refine LM (f:=162) Tryz.func162 rfl rfl rfl rfl ?_;(repeat first|refine cc ?_|refine gz ?_|(with_reducible first|apply xP|apply vR|apply G6));refine C4 (swp 2 1002) (lZ _ _) ?_;refine C4 (swp 3 1003) (lZ _ _) ?_;refine Mh 16 [(2,zR 1002),(3,zR 1003)] [1002,1003] [[.c (.bool false)],[.c (.int .i64 0)]] dW (XH (A++B)) (XI (A++B)) rfl nl (by decide) UI ?hp rfl ⟨rfl,rfl,trivial⟩ ⟨rfl,rfl,trivial⟩ (by decide) rfl rfl ⟨0,rfl,rfl,rfl,by decide⟩ (bd.refl _) (fun i r h=>by cases h) ?round ?done ?stop
 case hp =>
  intro p hp;simp only[fi,sZ,or_false] at hp;subst hp;exact⟨by decide,rfl⟩
 case round =>
  rintro i x R cW ab ⟨c,rfl,rfl,ak,fE⟩ bC;obtain⟨r,h1,rfl⟩:=UH ab;clear ab bC;have hs:=MB h1;have al:=MA (L:=A++B) (k:=i+1);have hJ:=ao r (cN h1)
  by_cases aj:c+r.length>256
  ·(refine aR ?_);exact⟨_,_,⟨_,rfl,rfl,rfl,by omega⟩,bd.refl _,(fun i r h=>by cases h),rfl,⟨rfl,rfl,trivial⟩,rfl⟩
  ·(refine aR ?_);exact⟨_,_,⟨_,rfl,rfl,by omega,by omega⟩,bd.refl _,(fun i r h=>by cases h),rfl,⟨rfl,rfl,trivial⟩,rfl⟩
 case done =>
  rintro R cW ⟨c,rfl,rfl,ak,fE⟩ bC;clear bC;have cz:(A++B).take (s7 A B).length=A++B:=gp (by simp[s7]);rw[cz,VN] at ak;have e:xw A B=decide (c=0):=by unfold xw;rw[vI];omega
  rw[e];(repeat first|refine cc ?_|(with_reducible first|apply xP|apply vR|apply Mi))
  ((refine bk rfl (GU rfl rfl rfl aM) ?_))
  exact ag.aU.refl _
 case stop =>
  rintro e c R cW he ⟨c',rfl,rfl,rfl,h2⟩ bC;clear bC he;rw[VN] at h2;have e:xw A B=true:=b5 (by omega);rw[e];(refine aR ?_)
  ((refine bk rfl (GU rfl rfl rfl aM) ?_))
  exact ag.aU.refl _
theorem ai2{x y:Int}:aP ah 223 [bn x y] (bl (jj (x,y))):=by
 have cs:((if y>x then y else x)>67108864∧jj (x,y)=true)∨(¬(if y>x then y else x)>67108864∧jj (x,y)=decide ((if y<x then y else x) < -67108864)):=by
  unfold jj
  by_cases h:(if y>x then y else x)>67108864
  ·refine .inl ⟨h,?_⟩;simp only[pC,cU]
   split at h <;> omega
  ·refine .inr ⟨h,?_⟩;rw[o6];simp only[pC,cU]
   split at h <;> split <;> omega
 rcases cs with ⟨h,e⟩|⟨h,e⟩
 all_goals
  rw[e];refine bp (f:=223) Tryz.func223 rfl rfl rfl rfl ?_;(repeat first|refine dd ?_|(with_reducible apply bT (c:=true));rfl;rfl;(exact b5 (by omega))|(with_reducible apply bT (c:=false));rfl;rfl;(exact b8 (by omega)))
  ((refine bk rfl (aX rfl aM) ?_))
  exact ag.aU.refl _
def tE:List cj→Int→Int
 | [],_ => -1
 | p::l,i=>if jj p=true then i else tE l (i+1)
theorem abk(p:cj)(l:List cj)(i:Int):tE (p::l) i=if jj p=true then i else tE l (i+1):=rfl
theorem PF:∀(l:List cj) (i:Int),0≤i→(decide (tE l i≥0))=l.any jj
 | [],i,h=>rfl
 | p::l,i,h=>by
  rw[List.any_cons];unfold tE;cases hp:jj p with
  | true=>rw[if_pos rfl,Bool.true_or];exact b5 h
  | false=>rw[if_neg (by simp),Bool.false_or];exact PF l (i+1) (by omega)
abbrev MK(f:Nat):ag:=aQ (.func (.func f) #[] #[])
def Xi(r:List cj)(k:Nat)(az:List (Nat×ag))(aS:List (Nat×List AC)):Prop :=
 ∃(i:Nat) (ii:Int),i≤r.length∧k=r.length-i∧ii=i∧tE r 0=tE (r.drop i) ii∧aS=[]∧az=[(0,.w (.one (lF r))),(1,MK 223),(7,aL r.length),(8,aL ii)]
theorem aiY{r:List cj}(ao:r.length≤4611686018427387904):aP ah 266 [.w (.one (lF r)),MK 223] (aL (tE r 0)):=by
 refine bp (f:=266) Tryz.func266 rfl rfl rfl rfl ?_;(refine eI ?_);refine oI 19 (Xi r) r.length _ [] ⟨0,0,dq _,rfl,rfl,rfl,rfl,rfl⟩ rfl ⟨rfl,rfl,rfl,rfl,trivial⟩ trivial rfl ?_;rintro n az aS ⟨j,dB,af,rfl,k0,gJ,rfl,rfl⟩ bC;clear bC
 by_cases hp:j<r.length
 ·have p2:dB<(r.length:Int):=by omega
  have p3:0≤dB:=by omega
  obtain⟨x,y,g1⟩:∃x y,r[j]?=some (x,y):=⟨_,_,bE hp⟩;have kP:=rJ k0 g1;have hd:r.drop j=(x,y)::r.drop (j+1):=by rw[jP hp,(bt.1 g1).2]
  have fL:=ai2 (x:=x) (y:=y);rw[hd,abk] at gJ;cases au:jj (x,y) with
  | true =>
   rw[au] at gJ fL;rw[if_pos rfl] at gJ;rw[gJ];(refine cI ?_)
   ((refine bk rfl (aX rfl aM) ?_))
   exact ag.aU.refl _
  | false =>
   rw[au] at gJ fL;rw[if_neg (by simp)] at gJ;(refine cI ?_);exact⟨r.length-(j+1),_,[],by omega,⟨j+1,dB+1,hp,rfl,by omega,gJ,rfl,rfl⟩,rfl,⟨rfl,rfl,rfl,rfl,trivial⟩,trivial,rfl⟩
 ·have e:j=r.length:=by omega
  subst e;rw[List.drop_length] at gJ;rw[show tE [] dB = -1 from rfl] at gJ;rw[gJ];(refine eI ?_)
  ((refine bk rfl (aX rfl aM) ?_))
  exact ag.aU.refl _
theorem aiG{r:List cj}(ao:r.length≤4611686018427387904):aP ah 222 [.w (.one (lF r)),MK 223] (bl (r.any jj)):=by
 have fL:=aiY ao;rw[←PF r 0 (by decide)];refine bp (f:=222) Tryz.func222 rfl rfl rfl rfl ?_;(refine cI ?_)
 ((refine bk rfl (aX rfl aM) ?_))
 exact ag.aU.refl _
def W2(M:List (List cj))(i:Nat)(R:aE)(cW:List (List AC)):Prop:=R=dW∧cW=[[.c (.int .i64 0)]]∧iH M=iH (M.drop i)
def W3(M:List (List cj))(e:Exit)(R:aE)(cW:List (List AC)):Prop:=e = .ret∧R=dW∧cW=[[.c (.int .i64 (iH M))]]
theorem aiD{A B:List (List cj)}{op fill rung cap:Int}(cr:A.length≤4611686018427387904)(cY:B.length≤4611686018427387904)(ao:∀r∈A++B,r.length≤4611686018427387904) :
  aP ah 163 [.w (.agg (h9 A B op fill rung cap))] (aL (iH (A++B))):=by
 have ko:=TE A B op fill rung cap;have nl:=Ru (A:=A) (B:=B) (op:=op) (fill:=fill) (rung:=rung) (cap:=cap) cr cY;refine LM (f:=163) Tryz.func163 rfl rfl rfl rfl ?_;(repeat first|refine cc ?_|refine gz ?_|(with_reducible first|apply xP|apply vR|apply G6));refine C4 (swp 2 1002) (lZ _ _) ?_;refine Mh 12 [(2,zR 1002)] [1002] [[.c (.int .i64 0)]] dW (W2 (A++B)) (W3 (A++B)) rfl nl (by decide) UI ?hp rfl ⟨rfl,trivial⟩ ⟨rfl,trivial⟩ (by decide) rfl rfl ⟨rfl,rfl,rfl⟩ (bd.refl _) (fun i r h=>by cases h) ?round ?done ?stop
 case hp =>
  intro p hp;simp only[fi,sZ,or_false] at hp;subst hp;exact⟨by decide,rfl⟩
 case round =>
  rintro i x R cW ab ⟨rfl,rfl,hv⟩ bC;obtain⟨r,h1,rfl⟩:=UH ab;clear ab bC;have hJ:=ao r (cN h1);have hd:(A++B).drop i=r::(A++B).drop (i+1):=by rw[jP (bt.1 h1).1,(bt.1 h1).2]
  rw[hd,CW] at hv;have fL:=aiG hJ
  by_cases aj:r.length<3
  ·rw[if_pos aj] at hv;have lS:(r.length:Int)<3:=by omega
   (refine aR ?_);exact⟨_,[[.c (.int .i64 114)]],⟨rfl,rfl,by rw[hv]⟩,bd.refl _,(fun i r h=>by cases h),rfl,⟨rfl,trivial⟩,rfl⟩
  ·rw[if_neg aj] at hv;have lS:¬(r.length:Int)<3:=by omega
   cases au:r.any jj with
   | true =>
    rw[au] at hv fL;rw[if_pos rfl] at hv;(refine nU ?_);exact⟨_,[[.c (.int .i64 115)]],⟨rfl,rfl,by rw[hv]⟩,bd.refl _,(fun i r h=>by cases h),rfl,⟨rfl,trivial⟩,rfl⟩
   | false =>
    rw[au] at hv fL;rw[if_neg (by simp)] at hv;(refine nU ?_);exact⟨_,_,⟨rfl,rfl,hv⟩,bd.refl _,(fun i r h=>by cases h),rfl,⟨rfl,trivial⟩,rfl⟩
 case done =>
  rintro R cW ⟨rfl,rfl,hv⟩ bC;clear bC;rw[rE (by simp[s7]),show iH []=0 from rfl] at hv;rw[hv];(repeat first|refine cc ?_|(with_reducible first|apply xP|apply vR|apply Mi))
  ((refine bk rfl (GU rfl rfl rfl aM) ?_))
  exact ag.aU.refl _
 case stop =>
  rintro e c R cW he ⟨rfl,rfl,rfl⟩ bC;clear bC he;(refine aR ?_)
  ((refine bk rfl (GU rfl rfl rfl aM) ?_))
  exact ag.aU.refl _
theorem Gy{A B:List (List cj)}{op fill rung cap:Int}(cr:A.length≤4611686018427387904)(cY:B.length≤4611686018427387904)(ao:∀r∈A++B,r.length≤4611686018427387904) :
  aP ah 97 [.w (.agg (h9 A B op fill rung cap))] (aL (ir A B op fill rung cap)):=by
 have fL:=ai3 (op:=op) (fill:=fill) (rung:=rung) (cap:=cap) cr cY ao;have gH:=aiD (op:=op) (fill:=fill) (rung:=rung) (cap:=cap) cr cY ao
 have cs:∃c,ir A B op fill rung cap=c∧((op<0∧c=110)∨(¬op<0∧op>3∧c=110)∨(¬op<0∧¬op>3∧((fill<0∧c=111)∨(¬fill<0∧fill>1∧c=111)∨(¬fill<0∧¬fill>1∧((rung<0∧c=112)∨(¬rung<0∧rung>28∧c=112)∨(¬rung<0∧¬rung>28∧((cap<1∧c=113)∨(¬cap<1∧cap>1024∧c=113)∨(¬cap<1∧¬cap>1024∧((xw A B=true∧c=116)∨(xw A B=false∧c=iH (A++B))))))))))):=by
  refine⟨_,rfl,?_⟩;unfold ir xw;rw[UE]
  by_cases o1:op<0
  ·exact .inl ⟨o1,by rw[if_pos (.inl o1)]⟩
  by_cases o2:op>3
  ·exact .inr (.inl ⟨o1,o2,by rw[if_pos (.inr o2)]⟩)
  refine .inr (.inr ⟨o1,o2,?_⟩);rw[if_neg (by omega)]
  by_cases f1:fill<0
  ·exact .inl ⟨f1,by rw[if_pos (.inl f1)]⟩
  by_cases f2:fill>1
  ·exact .inr (.inl ⟨f1,f2,by rw[if_pos (.inr f2)]⟩)
  refine .inr (.inr ⟨f1,f2,?_⟩);rw[if_neg (by omega)]
  by_cases cf:rung<0
  ·exact .inl ⟨cf,by rw[if_pos (.inl cf)]⟩
  by_cases dH:rung>28
  ·exact .inr (.inl ⟨cf,dH,by rw[if_pos (.inr dH)]⟩)
  refine .inr (.inr ⟨cf,dH,?_⟩);rw[if_neg (by omega)]
  by_cases c1:cap<1
  ·exact .inl ⟨c1,by rw[if_pos (.inl c1)]⟩
  by_cases c2:cap>1024
  ·exact .inr (.inl ⟨c1,c2,by rw[if_pos (.inr c2)]⟩)
  refine .inr (.inr ⟨c1,c2,?_⟩);rw[if_neg (by omega)]
  by_cases m1:bM A+bM B<1∨bM A+bM B>256
  ·exact .inl ⟨b5 m1,by rw[if_pos m1]⟩
  ·exact .inr ⟨b8 m1,by rw[if_neg m1]⟩
 obtain⟨c,e,cs⟩:=cs;rw[e];clear e cr cY ao;rcases cs with ⟨o1,rfl⟩|⟨o1,o2,rfl⟩|⟨o1,o2,cs⟩
 ·refine bp (f:=97) Tryz.func97 rfl rfl rfl rfl ?_;(repeat first|refine dd ?_|(with_reducible apply bT (c:=true));rfl;rfl;(exact b5 (by omega)))
  ((refine bk rfl (aX rfl aM) ?_))
  exact ag.aU.refl _
 ·refine bp (f:=97) Tryz.func97 rfl rfl rfl rfl ?_;(repeat first|refine dd ?_|(with_reducible apply bT (c:=false));rfl;rfl;(exact b8 (by omega)))
  ((refine bk rfl (aX rfl aM) ?_))
  exact ag.aU.refl _
 rcases cs with ⟨f1,rfl⟩|⟨f1,f2,rfl⟩|⟨f1,f2,cs⟩
 ·refine bp (f:=97) Tryz.func97 rfl rfl rfl rfl ?_;(repeat first|refine dd ?_|(with_reducible apply bT (c:=true));rfl;rfl;(exact b5 (by omega))|(with_reducible apply bT (c:=false));rfl;rfl;(exact b8 (by omega)))
  ((refine bk rfl (aX rfl aM) ?_))
  exact ag.aU.refl _
 ·refine bp (f:=97) Tryz.func97 rfl rfl rfl rfl ?_;(repeat first|refine dd ?_|(with_reducible apply bT (c:=false));rfl;rfl;(exact b8 (by omega)))
  ((refine bk rfl (aX rfl aM) ?_))
  exact ag.aU.refl _
 rcases cs with ⟨cf,rfl⟩|⟨cf,dH,rfl⟩|⟨cf,dH,cs⟩
 ·refine bp (f:=97) Tryz.func97 rfl rfl rfl rfl ?_;(repeat first|refine dd ?_|(with_reducible apply bT (c:=true));rfl;rfl;(exact b5 (by omega))|(with_reducible apply bT (c:=false));rfl;rfl;(exact b8 (by omega)))
  ((refine bk rfl (aX rfl aM) ?_))
  exact ag.aU.refl _
 ·refine bp (f:=97) Tryz.func97 rfl rfl rfl rfl ?_;(repeat first|refine dd ?_|(with_reducible apply bT (c:=false));rfl;rfl;(exact b8 (by omega)))
  ((refine bk rfl (aX rfl aM) ?_))
  exact ag.aU.refl _
 rcases cs with ⟨c1,rfl⟩|⟨c1,c2,rfl⟩|⟨c1,c2,cs⟩
 ·refine bp (f:=97) Tryz.func97 rfl rfl rfl rfl ?_;(repeat first|refine dd ?_|(with_reducible apply bT (c:=true));rfl;rfl;(exact b5 (by omega))|(with_reducible apply bT (c:=false));rfl;rfl;(exact b8 (by omega)))
  ((refine bk rfl (aX rfl aM) ?_))
  exact ag.aU.refl _
 ·refine bp (f:=97) Tryz.func97 rfl rfl rfl rfl ?_;(repeat first|refine dd ?_|(with_reducible apply bT (c:=false));rfl;rfl;(exact b8 (by omega)))
  ((refine bk rfl (aX rfl aM) ?_))
  exact ag.aU.refl _
 rcases cs with ⟨m1,rfl⟩|⟨m1,rfl⟩
 ·rw[m1] at fL;refine bp (f:=97) Tryz.func97 rfl rfl rfl rfl ?_;(repeat first|refine dd ?_|refine fs ?_|(with_reducible apply bT (c:=false));rfl;rfl;(exact b8 (by omega)))
  ((refine bk rfl (aX rfl aM) ?_))
  exact ag.aU.refl _
 ·rw[m1] at fL;refine bp (f:=97) Tryz.func97 rfl rfl rfl rfl ?_;(repeat first|refine dd ?_|refine fs ?_|refine uE gH ?_|(with_reducible apply bT (c:=false));rfl;rfl;(exact b8 (by omega)))
  ((refine bk rfl (aX rfl aM) ?_))
  exact ag.aU.refl _
instance aoc:nm ah 22 63 5 40:=⟨by kernel_rfl⟩
abbrev u2(v:Value)(l:List (Int×(cj×cj))):bF:=⟨63,5,v,l.length,n6 l⟩
theorem EN(v:Value)(l:List (Int×(cj×cj)))(x:Int×(cj×cj)):u2 v (l++[x])=⟨63,5,v,l.length+1,n6 l++EJ x⟩:=by
 simp[u2,n6,sY]
def gj(o:Int)(L:List (List cj)):List (Int×(cj×cj)):=(iv L).map fun e=>(o,e)
theorem S6{o:Int}{L:List (List cj)}{k:Nat}{r:List cj}(h:L[k]?=some r):gj o (L.take (k+1))=gj o (L.take k)++(lN r).map fun e=>(o,e):=by
 rw[take_one h];simp[gj,iv,sY]
theorem S5{o:Int}{L:List (List cj)}{k:Nat}:(gj o (L.take k)).length≤(gj o L).length:=by
 have e:gj o L=gj o (L.take k)++gj o (L.drop k):=by
  unfold gj iv;rw[←sX,←sY,kh]
 rw[e,cZ];omega
def NA(L:List (List cj))(o:Int)(n:Nat)(R:aE)(az:List (Nat×ag))(aS:List (Nat×List AC)):Prop :=
 ∃(k:Nat) (v:Value) (dc:Int),k≤L.length∧n=L.length-k∧dc=k∧R=br 0 (u2 v (gj o (L.take k)))∧aS=[]∧az=[(0,.w (.one (hc L))),(1,aL o),(5,aQ v),(6,aL dc)]
def Nz(L:List (List cj))(o:Int)(r:List cj)(S:List (Int×(cj×cj)))(dc:Int)(n:Nat)(R:aE)(az:List (Nat×ag))(aS:List (Nat×List AC)):Prop :=
 ∃(i:Nat) (v:Value) (ii:Int),i≤r.length∧n=r.length-i∧ii=i∧R=br 0 (u2 v (S++((lN r).take i).map fun e=>(o,e)))∧aS=[]∧az=[(0,.w (.one (hc L))),(1,aL o),(5,aQ v),(6,aL dc),(7,.w (.one (lF r))),(8,aL ii)]
theorem aiP{L:List (List cj)}{o:Int}(dm:L.length≤900000)(ao:∀r∈L,r.length≤900000)(gd:(gj o L).length≤900000):aP ah 101 [.w (.one (hc L)),aL o] (cE 5 (gj o L).length (n6 (gj o L))):=by
 refine bp (f:=101) Tryz.func101 rfl rfl rfl rfl ?_;refine sf ?_;refine oE 0 63 5 rfl ?_;(refine aR ?_);refine jv 50 (NA L o) L.length (br 0 (u2 (.slice none 0 0) [])) _ [] ⟨0,.slice none 0 0,0,dq _,rfl,rfl,rfl,rfl,rfl⟩ (k8 _ _ _) rfl ⟨rfl,rfl,rfl,rfl,trivial⟩ trivial rfl ?_;rintro n R az aS ⟨k,v,dc,ae,rfl,jk,rfl,rfl,rfl⟩ bC;clear bC
 by_cases aj:k<L.length
 ·have q2:dc<(L.length:Int):=by omega
  have q3:0≤dc:=by omega
  obtain⟨r,j8⟩:∃r,L[k]?=some r:=⟨_,bE aj⟩;have hh:=zA jk j8;have hJ:=ao r (cN j8);have aD:=S6 (o:=o) j8;have adR:=S5 (o:=o) (L:=L) (k:=k+1);generalize hS:gj o (L.take k)=S at *;(refine aR ?_);refine jv 50 (Nz L o r S dc) r.length _ _ [] ⟨0,v,0,dq _,rfl,rfl,by rw[List.take_zero,pD,nb],rfl,rfl⟩ (bd.refl _) rfl ⟨rfl,rfl,rfl,rfl,rfl,rfl,trivial⟩ trivial rfl ?_;rintro n R az aS ⟨i,v,ii,hi,rfl,eu,rfl,rfl,rfl⟩ bC;clear bC
  by_cases hp:i<r.length
  ·have p2:ii<(r.length:Int):=by omega
   have p3:0≤ii:=by omega
   obtain⟨x,y,g1⟩:∃x y,r[i]?=some (x,y):=⟨_,_,bE hp⟩;obtain⟨qE,lg,g0⟩:∃x y,r[0]?=some (x,y):=⟨_,_,bE (by omega)⟩;have kP:=rJ eu g1;have Nb:=rJ (ii:=0) rfl g0
   have hlen:(S++((lN r).take i).map fun e=>(o,e)).length+1≤900000:=by
    have aH:(lN r).length=r.length:=wP r;have aN:(gj o (L.take (k+1))).length=S.length+r.length:=by rw[aD];simp[aH]
    simp only[cZ,jN,ea];omega
   by_cases aA:i+1<r.length
   ·have gC:ii+1<(r.length:Int):=by omega
    obtain⟨dj,mA,g2⟩:∃x y,r[i+1]?=some (x,y):=⟨_,_,bE aA⟩;have pd:=rJ (ii:=ii+1) (by omega) g2;have aC:=take_one (AX g1 (by rw[if_pos aA];exact g2));(repeat first|(with_reducible apply dI (id:=12) [0,1,2,3,4,5,6,7,8,9,10]);kernel_rfl;kernel_rfl;rfl|refine cc ?_);refine mT 0 rfl rfl rfl rfl ?q1 ?q2 rfl rfl (fun ba bU => ?_)
    case q1=>exact js (eO hlen (by decide))
    case q2=>exact eO (ig 40 hlen) (by decide)
    (refine aR ?_);refine⟨r.length-(i+1),_,_,[],by omega,⟨i+1,ba,ii+1,by omega,rfl,by omega,rfl,rfl,rfl⟩,?_,rfl,⟨rfl,rfl,rfl,rfl,rfl,rfl,trivial⟩,trivial,rfl⟩;rw[aC,sX,←hz,hQ,pD,EN];exact k8 _ _ _
   ·have gC:¬ii+1<(r.length:Int):=by omega
    have aC:=take_one (AX g1 (by rw[if_neg aA];exact g0));(repeat first|(with_reducible apply dI (id:=12) [0,1,2,3,4,5,6,7,8,9,10]);kernel_rfl;kernel_rfl;rfl|refine cc ?_);refine mT 0 rfl rfl rfl rfl ?q3 ?q4 rfl rfl (fun ba bU => ?_)
    case q3=>exact js (eO hlen (by decide))
    case q4=>exact eO (ig 40 hlen) (by decide)
    (refine aR ?_);refine⟨r.length-(i+1),_,_,[],by omega,⟨i+1,ba,ii+1,by omega,rfl,by omega,rfl,rfl,rfl⟩,?_,rfl,⟨rfl,rfl,rfl,rfl,rfl,rfl,trivial⟩,trivial,rfl⟩;rw[aC,sX,←hz,hQ,pD,EN];exact k8 _ _ _
  ·have e:(lN r).take i=lN r:=gp (by rw[wP];omega);have p2:¬ii<(r.length:Int):=by omega
   rw[e,←aD];(refine aR ?_);exact⟨L.length-(k+1),_,_,[],by omega,⟨k+1,v,dc+1,aj,rfl,by omega,rfl,rfl,rfl⟩,bd.refl _,rfl,⟨rfl,rfl,rfl,rfl,trivial⟩,trivial,rfl⟩
 ·have q2:¬dc<(L.length:Int):=by omega
  have cz:L.take k=L:=gp (by omega);rw[cz];refine zH 0 5 (u2 v (gj o L)) rfl rfl ?_;(refine aR ?_)
  ((refine bk rfl (aX rfl aM) ?_))
  exact ag.aU.refl _
theorem aaN(l:List (Int×(cj×cj))):(n6 l).all AC.aY=true:=by
 rw[b6];intro x ab;obtain⟨e,_,he⟩:=List.mem_flatMap.1 ab;simp only[EJ,fi,sZ,or_false] at he;rcases he with rfl|rfl|rfl|rfl|rfl <;> rfl
instance aod:Enters ah 101:=⟨by kernel_rfl⟩
theorem Yg{L:List (List cj)}{o:Int}(dm:L.length≤900000)(ao:∀r∈L,r.length≤900000)(gd:(gj o L).length≤900000):pb ah 101 [.w (.one (hc L)),aL o] fun v q=>∃ba,v=aQ ba∧q=u2 ba (gj o L):=by
 refine D4 rfl (fun v q h=>by obtain⟨ba,rfl,_⟩:=h;rfl) ?_;refine cD (f:=101) Tryz.func101 rfl (cm rfl) (by exact jy) ?_;refine oE 0 63 5 rfl ?_;(refine aR ?_);refine jv 50 (NA L o) L.length (br 0 (u2 (.slice none 0 0) [])) _ [] ⟨0,.slice none 0 0,0,dq _,rfl,rfl,rfl,rfl,rfl⟩ (k8 _ _ _) rfl ⟨rfl,rfl,rfl,rfl,trivial⟩ trivial rfl ?_;rintro n R az aS ⟨k,v,dc,ae,rfl,jk,rfl,rfl,rfl⟩ bC;clear bC
 by_cases aj:k<L.length
 ·have q2:dc<(L.length:Int):=by omega
  have q3:0≤dc:=by omega
  obtain⟨r,j8⟩:∃r,L[k]?=some r:=⟨_,bE aj⟩;have hh:=zA jk j8;have hJ:=ao r (cN j8);have aD:=S6 (o:=o) j8;have adR:=S5 (o:=o) (L:=L) (k:=k+1);generalize hS:gj o (L.take k)=S at *;(refine aR ?_);refine jv 50 (Nz L o r S dc) r.length _ _ [] ⟨0,v,0,dq _,rfl,rfl,by rw[List.take_zero,pD,nb],rfl,rfl⟩ (bd.refl _) rfl ⟨rfl,rfl,rfl,rfl,rfl,rfl,trivial⟩ trivial rfl ?_;rintro n R az aS ⟨i,v,ii,hi,rfl,eu,rfl,rfl,rfl⟩ bC;clear bC
  by_cases hp:i<r.length
  ·have p2:ii<(r.length:Int):=by omega
   have p3:0≤ii:=by omega
   obtain⟨x,y,g1⟩:∃x y,r[i]?=some (x,y):=⟨_,_,bE hp⟩;obtain⟨qE,lg,g0⟩:∃x y,r[0]?=some (x,y):=⟨_,_,bE (by omega)⟩;have kP:=rJ eu g1;have Nb:=rJ (ii:=0) rfl g0
   have hlen:(S++((lN r).take i).map fun e=>(o,e)).length+1≤900000:=by
    have aH:(lN r).length=r.length:=wP r;have aN:(gj o (L.take (k+1))).length=S.length+r.length:=by rw[aD];simp[aH]
    simp only[cZ,jN,ea];omega
   by_cases aA:i+1<r.length
   ·have gC:ii+1<(r.length:Int):=by omega
    obtain⟨dj,mA,g2⟩:∃x y,r[i+1]?=some (x,y):=⟨_,_,bE aA⟩;have pd:=rJ (ii:=ii+1) (by omega) g2;have aC:=take_one (AX g1 (by rw[if_pos aA];exact g2));(repeat first|(with_reducible apply dI (id:=12) [0,1,2,3,4,5,6,7,8,9,10]);kernel_rfl;kernel_rfl;rfl|refine cc ?_);refine mT 0 rfl rfl rfl rfl ?q1 ?q2 rfl rfl (fun ba bU => ?_)
    case q1=>exact js (eO hlen (by decide))
    case q2=>exact eO (ig 40 hlen) (by decide)
    (refine aR ?_);refine⟨r.length-(i+1),_,_,[],by omega,⟨i+1,ba,ii+1,by omega,rfl,by omega,rfl,rfl,rfl⟩,?_,rfl,⟨rfl,rfl,rfl,rfl,rfl,rfl,trivial⟩,trivial,rfl⟩;rw[aC,sX,←hz,hQ,pD,EN];exact k8 _ _ _
   ·have gC:¬ii+1<(r.length:Int):=by omega
    have aC:=take_one (AX g1 (by rw[if_neg aA];exact g0));(repeat first|(with_reducible apply dI (id:=12) [0,1,2,3,4,5,6,7,8,9,10]);kernel_rfl;kernel_rfl;rfl|refine cc ?_);refine mT 0 rfl rfl rfl rfl ?q3 ?q4 rfl rfl (fun ba bU => ?_)
    case q3=>exact js (eO hlen (by decide))
    case q4=>exact eO (ig 40 hlen) (by decide)
    (refine aR ?_);refine⟨r.length-(i+1),_,_,[],by omega,⟨i+1,ba,ii+1,by omega,rfl,by omega,rfl,rfl,rfl⟩,?_,rfl,⟨rfl,rfl,rfl,rfl,rfl,rfl,trivial⟩,trivial,rfl⟩;rw[aC,sX,←hz,hQ,pD,EN];exact k8 _ _ _
  ·have e:(lN r).take i=lN r:=gp (by rw[wP];omega);have p2:¬ii<(r.length:Int):=by omega
   rw[e,←aD];(refine aR ?_);exact⟨L.length-(k+1),_,_,[],by omega,⟨k+1,v,dc+1,aj,rfl,by omega,rfl,rfl,rfl⟩,bd.refl _,rfl,⟨rfl,rfl,rfl,rfl,trivial⟩,trivial,rfl⟩
 ·have q2:¬dc<(L.length:Int):=by omega
  have cz:L.take k=L:=gp (by omega);rw[cz];(refine aR ?_)
  ((refine yN rfl (aX rfl aM) rfl rfl (gE _) ?_))
  exact⟨v,rfl,rfl⟩
theorem ajh{A B:List (List cj)}{op fill rung cap:Int}(cr:A.length≤900000)(yF:∀r∈A,r.length≤900000)(anA:(gj 0 A).length≤400000)(cY:B.length≤900000)(yG:∀r∈B,r.length≤900000)(anB:(gj 1 B).length≤400000) :
  aP ah 47 [.w (.agg (h9 A B op fill rung cap))] (cE 5 ((gj 0 A).length+(gj 1 B).length) (n6 (gj 0 A)++n6 (gj 1 B))):=by
 have dC:=Yg (L:=A) (o:=0) cr yF (by omega);have r9:=aiP (L:=B) (o:=1) cY yG (by omega);refine bp (f:=47) Tryz.func47 rfl rfl rfl rfl ?_;refine sf ?_;(repeat first|(with_reducible apply hf (id:=1) [0,1,3,4,2,5,6,7] [5]);kernel_rfl;kernel_rfl;rfl|refine cc ?_);refine FN 0 rfl rfl rfl rfl dC rfl rfl (fun bz q h => ?_);obtain⟨ba,rfl,rfl⟩:=h;(refine nU ?_);refine mT 0 rfl rfl rfl rfl ?q1 ?q2 (aaN _) rfl (fun v2 mV => ?_)
 case q1=>exact js (by show (gj 0 A).length+(gj 1 B).length≤1000000;omega)
 case q2=>show ((gj 0 A).length+(gj 1 B).length)*40≤140737488355328;omega
 (repeat first|(with_reducible apply QX);kernel_rfl|with_reducible apply U6|(with_reducible apply eY);rfl;(repeat first|(with_reducible apply fY);rfl);(with_reducible apply dR));refine zH 0 2 _ rfl rfl ?_;(refine aR ?_)
 ((refine bk rfl (aX rfl aM) ?_))
 exact ag.aU.refl _
instance aob:nm ah 65 127 1 24:=⟨by kernel_rfl⟩
theorem ajt{P:Program}{f:FuncId}{args n5:List ag}{r:ag}(h:aP P f args r)(hl:n5.all ag.aY=true)(al:n5.length=args.length)(hle:∀(i:Nat) x y,n5[i]?=some x→args[i]?=some y→x.aU y):aP P f n5 r :=
 ⟨fun x ab=>ag.c9 (b6.1 hl x ab),h.cq,fun U W vs cM=>h.call U W vs ⟨by rw[←al];exact cM.1,fun i y v ai hv=>by
  have hi:i<n5.length:=by rw[al];exact(bt.1 ai).1
  exact hle i _ y (bE hi) ai U id W v (cM.2 i _ v (bE hi) hv)⟩⟩
theorem KN{A:List (List cj)}{op fill rung cap:Int}:ag.aU (.w (.agg [hc A,.c (.slice none 0 0),.c (.int .i64 op),.c (.int .i64 fill),.c (.int .i64 rung),.c (.int .i64 cap)])) (.w (.agg (h9 A [] op fill rung cap))):=D8 rfl fun j x y ab ai=>by
 match j with
 | 0=>cases ab;cases ai;exact .inl rfl
 | 1=>cases ab;cases ai;exact .inr ⟨rfl,1,rfl⟩
 | 2=>cases ab;cases ai;exact .inl rfl
 | 3=>cases ab;cases ai;exact .inl rfl
 | 4=>cases ab;cases ai;exact .inl rfl
 | 5=>cases ab;cases ai;exact .inl rfl
 | j+6=>simp at ab
theorem ae7{op fill rung cap:Int}:ag.aU (.w (.agg [.c (.slice none 0 0),.c (.slice none 0 0),.c (.int .i64 op),.c (.int .i64 fill),.c (.int .i64 rung),.c (.int .i64 cap)])) (.w (.agg (h9 [] [] op fill rung cap))):=D8 rfl fun j x y ab ai=>by
 match j with
 | 0=>cases ab;cases ai;exact .inr ⟨rfl,1,rfl⟩
 | 1=>cases ab;cases ai;exact .inr ⟨rfl,1,rfl⟩
 | 2=>cases ab;cases ai;exact .inl rfl
 | 3=>cases ab;cases ai;exact .inl rfl
 | 4=>cases ab;cases ai;exact .inl rfl
 | 5=>cases ab;cases ai;exact .inl rfl
 | j+6=>simp at ab
theorem Cj{P:Program}{f:FuncId}{x y:ag}{ys:List ag}{r:ag}(h:aP P f (y::ys) r)(wM:x.aY=true)(cs:ys.all ag.aY=true)(hle:x.aU y):aP P f (x::ys) r:=ajt h (by rw[kI,wM,cs];rfl) rfl fun i a b aV aa=>by
 cases i with
 | zero=>cases aV;cases aa;exact hle
 | succ i=>rw[zv] at aV aa;rw[aV] at aa;cases aa;exact .refl _
def XE(L:List (List cj))(b:Nat)(n:Nat)(az:List (Nat×ag))(aS:List (Nat×List AC)):Prop :=
 ∃(i:Nat) (ii c:Int),i≤L.length∧n=L.length-i∧ii=i∧c=((b+bM (L.take i):Nat):Int)∧aS=[]∧az=[(3,aL c),(24,.w (.one (hc L))),(25,aL L.length),(26,aL ii)]
theorem aic{A B:List (List cj)}{op fill rung cap:Int}(aa:A.length+B.length+bM A+bM B≤1048576) :
  aP ah 96 [.w (.agg (h9 A B op fill rung cap))] (aL ((A.length+B.length+(bM A+bM B):Nat):Int)):=by
 have jU:(A.length:Int).toNat-0=A.length:=by omega
 have z2:((A.map lF).drop (0*1)).take (A.length*1)=A.map lF:=by rw[Nat.zero_mul,List.drop_zero,Nat.mul_one,gp (by simp)]
 have z3:A.length+B.length=(A++B).length:=by simp
 have z4:A.map lF++B.map lF=(A++B).map lF:=by simp
 have z5:(A.length+B.length)*24≤140737488355328:=by omega
 have aoY:bM (A++B)=bM A+bM B:=by simp[bM]
 have WC:(A.length:Int)+B.length=(((A++B).length+bM ((A++B).take 0):Nat):Int):=by simp[bM]
 have z9:A.length+B.length≤900000∨900000<A.length+B.length:=by omega
 have amE:A.length+B.length≤maxLen:=eO (m:=1048576) (by omega) (by decide);refine bp (f:=96) Tryz.func96 rfl rfl rfl rfl ?_;(repeat first|(with_reducible apply Za);(iterate 4 rfl);(omega);(omega);(assumption);(assumption);rfl|(with_reducible apply NN);(iterate 3 rfl);(assumption);(assumption);(assumption);(assumption);rfl|refine dd ?_);refine oI 36 (XE (A++B) (A++B).length) (A++B).length _ [] ⟨0,0,_,dq _,rfl,rfl,WC,rfl,rfl⟩ rfl ⟨rfl,rfl,rfl,rfl,trivial⟩ trivial rfl ?_;rintro n az aS ⟨i,ii,c,hi,rfl,eu,ak,rfl,rfl⟩ bC;clear bC jU z2 z4 z5 WC z9 amE;generalize gd:A++B=M at *
 by_cases aj:i<M.length
 ·have q2:ii<(M.length:Int):=by omega
  have q3:0≤ii:=by omega
  obtain⟨r,j8⟩:∃r,M[i]?=some r:=⟨_,bE aj⟩;have hh:=zA eu j8;have hs:=MB j8;have al:=MA (L:=M) (k:=i+1);(refine eI ?_);exact⟨M.length-(i+1),_,[],by omega,⟨i+1,ii+1,c+r.length,aj,rfl,by omega,by omega,rfl,rfl⟩,rfl,⟨rfl,rfl,rfl,rfl,trivial⟩,trivial,rfl⟩
 ·have e:i=M.length:=by omega
  subst e;rw[List.take_length] at ak;have ny:((A.length+B.length+(bM A+bM B):Nat):Int)=c:=by omega
  rw[ny];(refine eI ?_)
  ((refine bk rfl (aX rfl aM) ?_))
  exact ag.aU.refl _
def fO(c:aq→aq→Bool):List aq→Bool
 | []=>false
 | [_]=>false
 | p::q::V=>c p q||fO c (q::V)
theorem yp{c:aq→aq→Bool}{R:aq→aq→Prop}(h:∀p q,c p q=false↔R p q):∀V,gr R V↔fO c V=false
 | []=>by simp[gr,fO]
 | [_]=>by simp[gr,fO]
 | p::q::V=>by
  have bY:=yp h (q::V);simp only[gr,fO,Bool.or_eq_false_iff,h p q,bY]
theorem N4{c:aq→aq→Bool}:∀(V:List aq) (p q:aq),fO c (V++[p,q])=(fO c (V++[p])||c p q)
 | [],p,q=>by simp[fO]
 | [a],p,q=>by simp[fO]
 | a::b::V,p,q=>by
  have bY:=N4 (c:=c) (b::V) p q;simp only[uo,fO] at bY ⊢;rw[bY,Bool.or_assoc]
theorem AH{c:aq→aq→Bool}{V:List aq}{k:Nat}{p q:aq}(h1:V[k]?=some p)(h2:V[k+1]?=some q):fO c (V.take (k+2))=(fO c (V.take (k+1))||c p q):=by
 have aH:V.take (k+1)=V.take k++[p]:=by
  rw[kJ (bt.1 h1).1,(bt.1 h1).2]
 have aN:V.take (k+2)=V.take k++[p,q]:=by
  rw[kJ (bt.1 h2).1,(bt.1 h2).2,aH];simp
 rw[aH,aN,N4]
theorem AG{c:aq→aq→Bool}(V:List aq):fO c (V.take 1)=false:=by
 cases V <;> rfl
theorem akH{r:Nat}{V:List aq}{D:List Int}:xL r V D↔V≠[]∧V.length=D.length+1∧(∀v∈V,dZ r v.1 v.2=true)∧fO (fun p q=>dK p.1 p.2 q.1 q.2) V=false∧(∀d∈D,1≤d∧d≤1048576) ∧
  (fO (fun p q=>decide (q.1<p.1)) V=false∨fO (fun p q=>decide (q.1>p.1)) V=false)∧(fO (fun p q=>decide (q.2<p.2)) V=false∨fO (fun p q=>decide (q.2>p.2)) V=false):=by
 unfold xL;rw[yp (c:=fun p q=>dK p.1 p.2 q.1 q.2) (R:=(· ≠ ·)) (fun p q => ?_),yp (c:=fun p q=>decide (q.1<p.1)) (R:=fun p q=>p.1≤q.1) (fun p q => ?_),yp (c:=fun p q=>decide (q.1>p.1)) (R:=fun p q=>q.1≤p.1) (fun p q => ?_),yp (c:=fun p q=>decide (q.2<p.2)) (R:=fun p q=>p.2≤q.2) (fun p q => ?_),yp (c:=fun p q=>decide (q.2>p.2)) (R:=fun p q=>q.2≤p.2) (fun p q => ?_)]
 ·rw[kG];omega
 ·rw[kG];omega
 ·rw[kG];omega
 ·rw[kG];omega
 ·obtain⟨x,y⟩:=p;obtain⟨z,w⟩:=q
  constructor
  ·intro h e;have:=q6.2 (⟨congrArg Prod.fst e,congrArg Prod.snd e⟩:x=z∧y=w);rw[h] at this;cases this
  ·intro h;cases he:dK x y z w with
   | false=>rfl
   | true=>obtain⟨rfl,rfl⟩:=q6.1 he;exact absurd rfl h
theorem N3{c:aq→aq→Bool}:∀(V W:List aq),fO c V=true→fO c (V++W)=true
 | [],W,h=>by simp[fO] at h
 | [a],W,h=>by simp[fO] at h
 | a::b::V,W,h=>by
  have bY:=N3 (c:=c) (b::V) W;simp only[uo,fO,pC] at bY h ⊢;rcases h with h|h
  ·exact .inl h
  ·exact .inr (bY h)
theorem Zo{c:aq→aq→Bool}{V:List aq}{k:Nat}(h:fO c (V.take k)=true):fO c V=true:=by
 have:=N3 (V.take k) (V.drop k) h;rwa [kh] at this
def WH(r:Nat)(V:List aq)(n:Nat)(az:List (Nat×ag))(aS:List (Nat×List AC)):Prop :=
 ∃(i:Nat) (ii:Int),i≤V.length∧n=V.length-i∧ii=i∧(V.take i).all (fun v=>dZ r v.1 v.2)=true∧aS=[]∧az=[(1,aL r),(15,fD V),(16,aL V.length),(17,aL ii)]
theorem aix{V:List aq}{r:Nat}(ao:r≤28)(mM:0<V.length)(aa:V.length≤100000):aP ah 298 [fD V,aL r] (bl (V.all fun v=>dZ r v.1 v.2)):=by
 have an:hj (r:Int) r:=⟨ao,.inr (.inr rfl)⟩;have bg:=GD (k:=(r:Int));rw[show (decide (0≤(r:Int))&&decide ((r:Int)≤28))=true by rw[b5 (by omega),b5 (by omega)];rfl] at bg;have c5:¬(V.length:Int)=0:=by omega
 refine bp (f:=298) Tryz.func298 rfl rfl rfl rfl ?_;(repeat first|refine dd ?_|refine fs ?_|(with_reducible apply bT (c:=false));rfl;rfl;(exact b8 (by omega)));refine oI 26 (WH r V) V.length _ [] ⟨0,0,dq _,rfl,rfl,rfl,rfl,rfl⟩ rfl ⟨rfl,rfl,rfl,rfl,trivial⟩ trivial rfl ?_;rintro n az aS ⟨i,ii,hi,rfl,eu,wW,rfl,rfl⟩ bC;clear bC c5 bg
 by_cases aj:i<V.length
 ·have q2:ii<(V.length:Int):=by omega
  have q3:0≤ii:=by omega
  obtain⟨x,y,g1⟩:∃x y,V[i]?=some (x,y):=⟨_,_,bE aj⟩;have hh:=oR eu g1
  have aC:V.take (i+1)=V.take i++[(x,y)]:=by
   rw[kJ aj,(bt.1 g1).2]
  cases mf:dZ r x y with
  | false =>
   have Xt:=ui an mf
   have e:(V.all fun v=>dZ r v.1 v.2)=false:=by
    refine List.all_eq_false.2 ⟨(x,y),cN g1,?_⟩;simp only[mf];decide
   rw[e];clear an;(refine cI ?_)
   ((refine bk rfl (aX rfl aM) ?_))
   exact ag.aU.refl _
  | true =>
   have Xt:=ui an mf
   have e:(V.take (i+1)).all (fun v=>dZ r v.1 v.2)=true:=by
    rw[aC,List.all_append,wW];simp[mf]
   clear an;(refine cI ?_);exact⟨V.length-(i+1),_,[],by omega,⟨i+1,ii+1,by omega,rfl,by omega,e,rfl,rfl⟩,rfl,⟨rfl,rfl,rfl,rfl,trivial⟩,trivial,rfl⟩
 ·have q2:¬ii<(V.length:Int):=by omega
  rw[gp (by omega)] at wW;rw[wW];(refine eI ?_)
  ((refine bk rfl (aX rfl aM) ?_))
  exact ag.aU.refl _
theorem aiw{V:List aq}{k:Int}(cs:(V.length:Int)=0∨(¬(V.length:Int)=0∧¬(0≤k∧k≤28))):aP ah 298 [fD V,aL k] (bl false):=by
 rcases cs with c5|⟨c5,q1⟩
 ·refine bp (f:=298) Tryz.func298 rfl rfl rfl rfl ?_;(repeat first|refine dd ?_|(with_reducible apply bT (c:=true));rfl;rfl;(exact b5 (by omega)))
  ((refine bk rfl (aX rfl aM) ?_))
  exact ag.aU.refl _
 ·have bg:=GD (k:=k)
  rw[show (decide (0≤k)&&decide (k≤28))=false by
   rcases qC k 0 with h|h
   ·rw[b8 (by omega)];rfl
   ·rw[b8 (p:=k≤28) (by omega)];simp] at bg
  refine bp (f:=298) Tryz.func298 rfl rfl rfl rfl ?_;(repeat first|refine dd ?_|refine fs ?_|(with_reducible apply bT (c:=false));rfl;rfl;(exact b8 (by omega)))
  ((refine bk rfl (aX rfl aM) ?_))
  exact ag.aU.refl _
def WE(D:List Int)(n:Nat)(az:List (Nat×ag))(aS:List (Nat×List AC)):Prop :=
 ∃(i:Nat) (ii:Int),i≤D.length∧n=D.length-i∧ii=i∧(D.take i).all (fun d=>decide (1≤d∧d≤1048576))=true∧aS=[]∧az=[(5,lH D),(6,aL D.length),(7,aL ii)]
theorem aiv{D:List Int}(aa:D.length≤100000):aP ah 300 [lH D] (bl (D.all fun d=>decide (1≤d∧d≤1048576))):=by
 refine bp (f:=300) Tryz.func300 rfl rfl rfl rfl ?_;(refine eI ?_);refine oI 18 (WE D) D.length _ [] ⟨0,0,dq _,rfl,rfl,rfl,rfl,rfl⟩ rfl ⟨rfl,rfl,rfl,trivial⟩ trivial rfl ?_;rintro n az aS ⟨i,ii,hi,rfl,eu,wW,rfl,rfl⟩ bC;clear bC
 by_cases aj:i<D.length
 ·have q2:ii<(D.length:Int):=by omega
  have q3:0≤ii:=by omega
  obtain⟨d,g1⟩:∃d,D[i]?=some d:=⟨_,bE aj⟩;have hh:=tY eu g1
  have aC:D.take (i+1)=D.take i++[d]:=by
   rw[kJ aj,(bt.1 g1).2]
  have no:¬(1≤d∧d≤1048576)→(D.all fun d=>decide (1≤d∧d≤1048576))=false:=fun h =>
   List.all_eq_false.2 ⟨d,cN g1,by rw[b8 h];decide⟩
  by_cases c1:d<1
  ·rw[no (by omega)];(repeat first|refine dd ?_|(with_reducible apply bT (c:=true));rfl;rfl;(exact b5 (by omega)))
   ((refine bk rfl (aX rfl aM) ?_))
   exact ag.aU.refl _
  ·by_cases c2:d>1048576
   ·rw[no (by omega)];(repeat first|refine dd ?_|(with_reducible apply bT (c:=false));rfl;rfl;(exact b8 (by omega)))
    ((refine bk rfl (aX rfl aM) ?_))
    exact ag.aU.refl _
   ·have e:(D.take (i+1)).all (fun d=>decide (1≤d∧d≤1048576))=true:=by
     rw[aC,List.all_append,wW];simp;omega
    (repeat first|refine dd ?_|(with_reducible apply bT (c:=false));rfl;rfl;(exact b8 (by omega)));exact⟨D.length-(i+1),_,[],by omega,⟨i+1,ii+1,by omega,rfl,by omega,e,rfl,rfl⟩,rfl,⟨rfl,rfl,rfl,trivial⟩,trivial,rfl⟩
 ·have q2:¬ii<(D.length:Int):=by omega
  rw[gp (by omega)] at wW;rw[wW];(refine eI ?_)
  ((refine bk rfl (aX rfl aM) ?_))
  exact ag.aU.refl _
def Cv(p q:aq):Bool:=dK p.1 p.2 q.1 q.2
def L4(p q:aq):Bool:=decide (q.1>p.1)
def K4(p q:aq):Bool:=decide (q.1<p.1)
def MJ(p q:aq):Bool:=decide (q.2>p.2)
def IM(p q:aq):Bool:=decide (q.2<p.2)
def tG(V:List aq):Bool := !fO Cv V&&(!(fO L4 V&&fO K4 V) && !(fO MJ V&&fO IM V))
def Xk(V:List aq)(n:Nat)(az:List (Nat×ag))(aS:List (Nat×List AC)):Prop :=
 ∃(i:Nat) (ii:Int) (b1 b2 dO dh:Bool),n=V.length+1-i∧ii=i∧1≤i∧i≤V.length+1∧fO Cv (V.take i)=false∧fO L4 (V.take i)=b1∧fO K4 (V.take i)=b2∧fO MJ (V.take i)=dO∧fO IM (V.take i)=dh∧aS=[]∧az=[(0,fD V),(3,bl b1),(4,bl b2),(5,bl dO),(6,bl dh),(7,aL ii)]
theorem aiT{V:List aq}(aa:V.length≤100000):aP ah 299 [fD V] (bl (tG V)):=by
 refine bp (f:=299) Tryz.func299 rfl rfl rfl rfl ?_;(refine eI ?_);refine oI 72 (Xk V) (V.length+1-1) _ [] ⟨1,1,false,false,false,false,rfl,rfl,cF _,by omega,AG V,AG V,AG V,AG V,AG V,rfl,rfl⟩ rfl ⟨rfl,rfl,rfl,rfl,rfl,rfl,trivial⟩ trivial rfl ?_;rintro n az aS ⟨i,ii,b1,b2,dO,dh,rfl,eu,en,hi,aF,h1,h2,ar,aJ,rfl,rfl⟩ bC;clear bC
 by_cases aj:i<V.length
 ·have q2:ii<(V.length:Int):=by omega
  have q3:0≤ii:=by omega
  have q4:0≤ii-1:=by omega
  have lV:ii-1<(V.length:Int):=by omega
  have w1:IntKind.i64.wrap (ii-1)=ii-1:=jo (by omega);obtain⟨k,rfl⟩:∃k,i=k+1:=⟨i-1,by omega⟩;obtain⟨x,y,g1⟩:∃x y,V[k]?=some (x,y):=⟨_,_,bE (by omega)⟩;obtain⟨z,w,g2⟩:∃z w,V[k+1]?=some (z,w):=⟨_,_,bE aj⟩;have hh:=oR (j:=ii-1) (i:=k) (by omega) g1;have we:=oR eu g2;have eH:=AH (c:=Cv) g1 g2;have s1:=AH (c:=L4) g1 g2;have s2:=AH (c:=K4) g1 g2;have bW:=AH (c:=MJ) g1 g2;have b9:=AH (c:=IM) g1 g2;rw[aF] at eH;rw[h1] at s1;rw[h2] at s2;rw[ar] at bW;rw[aJ] at b9;cases he:dK x y z w with
  | true =>
   have e:tG V=false:=by
    unfold tG;rw[Zo (c:=Cv) (V:=V) (k:=k+2) (by rw[eH];exact he)];rfl
   rw[e];clear eH s1 s2 bW b9 aF h1 h2 ar aJ;(refine eI ?_)
   ((refine bk rfl (aX rfl aM) ?_))
   exact ag.aU.refl _
  | false =>
   have cz:fO Cv (V.take (k+2))=false:=by rw[eH];exact he
   clear eH aF h1 h2 ar aJ;cases b1 <;> cases b2 <;> cases dO <;> cases dh
   all_goals
    (refine eI ?_);exact⟨V.length+1-(k+2),_,[],by omega,⟨k+2,ii+1,_,_,_,_,rfl,by omega,by omega,by omega,cz,s1,s2,bW,b9,rfl,rfl⟩,rfl,⟨rfl,rfl,rfl,rfl,rfl,rfl,trivial⟩,trivial,rfl⟩
 ·have q2:¬ii<(V.length:Int):=by omega
  rw[gp (by omega)] at aF h1 h2 ar aJ;have e:tG V=(!(b1&&b2) && !(dO&&dh)):=by unfold tG;rw[aF,h1,h2,ar,aJ];rfl
  rw[e];clear aF h1 h2 ar aJ e;cases b1 <;> cases b2 <;> cases dO <;> cases dh
  all_goals
   (refine eI ?_)
   ((refine bk rfl (aX rfl aM) ?_))
   exact ag.aU.refl _
theorem akF{r:Nat}{V:List aq}{D:List Int}:xK r V D=(decide (0<V.length)&&((V.all fun v=>dZ r v.1 v.2)&&(tG V&&(decide ((D.length:Int)=(V.length:Int)-1)&&D.all fun d=>decide (1≤d∧d≤1048576))))):=by
 have key:xL r V D↔(decide (0<V.length)&&((V.all fun v=>dZ r v.1 v.2)&&(tG V&&(decide ((D.length:Int)=(V.length:Int)-1)&&D.all fun d=>decide (1≤d∧d≤1048576)))))=true:=by
  rw[akH];unfold tG;simp only[ef,cU,b6,ul,Bool.and_eq_false_iff]
  constructor
  ·rintro⟨g1,g2,g3,g4,g5,g6,g7⟩;exact⟨by cases V <;> simp_all,g3,⟨g4,g6.symm,g7.symm⟩,by omega,g5⟩
  ·rintro⟨g1,g3,⟨g4,g6,g7⟩,g2,g5⟩;exact⟨fun h=>by simp[h] at g1,by omega,g3,g4,g5,g6.symm,g7.symm⟩
 by_cases h:xL r V D
 ·rw[U3 h];exact(key.1 h).symm
 ·rw[akG h];cases aa:(decide (0<V.length)&&((V.all fun v=>dZ r v.1 v.2)&&(tG V&&(decide ((D.length:Int)=(V.length:Int)-1)&&D.all fun d=>decide (1≤d∧d≤1048576))))) with
  | false=>rfl
  | true=>exact absurd (key.2 aa) h
theorem UK{V:List aq}{D:List Int}{k:Int}{b1 b2 dh:Bool}(aa:V.length≤1100)(a8:aP ah 298 [fD V,aL k] (bl b1))(bL:aP ah 299 [fD V] (bl b2))(jx:aP ah 300 [lH D] (bl dh)):aP ah 258 [oF V D,aL k] (bl (b1&&(b2&&(decide ((D.length:Int)=(V.length:Int)-1)&&dh)))):=by
 by_cases q:(D.length:Int)=(V.length:Int)-1
 ·rw[b5 q];cases b1 <;> cases b2 <;> cases dh
  all_goals
   refine bp (f:=258) Tryz.func258 rfl rfl rfl rfl ?_;(repeat first|refine dd ?_|refine fs ?_|(with_reducible apply bT (c:=true));rfl;rfl;(exact b5 (by omega)))
   ((refine bk rfl (aX rfl aM) ?_))
   exact ag.aU.refl _
 ·rw[b8 q];cases b1 <;> cases b2
  all_goals
   simp only[Bool.false_and,Bool.and_false,pH];clear jx;refine bp (f:=258) Tryz.func258 rfl rfl rfl rfl ?_;(repeat first|refine dd ?_|refine fs ?_|(with_reducible apply bT (c:=false));rfl;rfl;(exact b8 (by omega)))
   ((refine bk rfl (aX rfl aM) ?_))
   exact ag.aU.refl _
theorem afm:M7:=by
 intro V D r ao aa hd j6 oK;rw[akF];have bL:=aiT (V:=V) (by omega);have jx:=aiv (D:=D) (by omega)
 by_cases h:0<V.length
 ·rw[b5 h,pH];exact UK aa (aix ao h (by omega)) bL jx
 ·rw[b8 h,Bool.false_and];have:=UK aa (aiw (k:=(r:Int)) (.inl (by omega))) bL jx;rwa [Bool.false_and] at this
end Go.Proofs.YtklpfooafbjnpaaGreat
