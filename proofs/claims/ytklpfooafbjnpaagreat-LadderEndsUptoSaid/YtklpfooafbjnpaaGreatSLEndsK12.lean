/-
  My own texts,without what this claim does not need. My own text.
-/
import Derived.Test.YtklpfooafbjnpaaGreatSLEndsK11
set_option maxRecDepth 100000
set_option maxHeartbeats 64000000
set_option linter.unusedVariables false
set_option linter.unusedSimpArgs false
set_option linter.unusedSectionVars false
open Go.Proofs.Tryz renaming prog → ah
namespace Go.Proofs.YtklpfooafbjnpaaGreat
open Go.RowKit
def bL(L:List (List cf)):Nat:=(L.map List.length).sum
theorem L2{L:List (List cf)}{k:Nat}{r:List cf}(h:L[k]?=some r):bL (L.take (k+1))=bL (L.take k)+r.length:=by
 rw[take_one h];simp[bL]
theorem L1{L:List (List cf)}{k:Nat}:bL (L.take k)≤bL L:=by
 have e:bL L=bL (L.take k)+bL (L.drop k):=by
  conv=>lhs;rw[←j8 k L]
  simp only[bL,sx,List.sum_append]
 omega
theorem U7{L:List (List cf)}{k:Nat}{r:List cf}(h:L[k]?=some r):r.length≤bL L:=by
 have h1:=L2 h;have h2:=L1 (L:=L) (k:=k+1);omega
def mQ:List (List cf)→Nat→Nat
 | [],c=>c
 | r::L,c=>if c≤256 then(if 256<r.length then 257 else mQ L (c+r.length)) else c
theorem aiG(r:List cf)(L:List (List cf))(c:Nat):mQ (r::L) c=if c≤256 then(if 256<r.length then 257 else mQ L (c+r.length)) else c:=rfl
theorem Lf:∀(L:List (List cf)) (c:Nat),c≤512→(c+bL L≤256→mQ L c=c+bL L)∧(256<c+bL L→256<mQ L c)∧mQ L c≤512
 | [],c,h=>by simp[mQ,bL];omega
 | r::L,c,h=>by
  have e:bL (r::L)=r.length+bL L:=by simp[bL]
  unfold mQ;rw[e]
  split
  ·split
   ·omega
   ·have:=Lf L (c+r.length) (by omega);omega
  ·omega
def W1(L:List (List cf))(n:Nat)(az:List (Nat×ag))(aU:List (Nat×List AC)):Prop :=
 ∃(k:Nat) (ef:Int) (c:Nat),k≤L.length∧n=L.length-k∧ef=k∧c≤512∧mQ L 0=mQ (L.drop k) c∧aU=[]∧az=[(0,.w (.one (gW L))),(3,aL c),(4,aL ef)]
theorem S1{L:List (List cf)}(dj:L.length≤4611686018427387904)(ao:∀r∈L,r.length≤4611686018427387904):aO ah 99 [.w (.one (gW L))] (aL (mQ L 0)):=by
 refine bq (f:=99) Tryz.func99 rfl rfl rfl rfl ?_;(refine fs ?_);refine qJ 29 (W1 L) L.length _ [] ⟨0,0,0,dy _,rfl,rfl,by decide,rfl,rfl,rfl⟩ rfl ⟨rfl,rfl,rfl,trivial⟩ trivial rfl ?_;rintro n az aU ⟨k,ef,c,ae,rfl,lJ,ak,hv,rfl,rfl⟩ bE;clear bE
 by_cases aj:k<L.length
 ·have q2:ef<(L.length:Int):=by omega
  have q3:0≤ef:=by omega
  obtain⟨r,jZ⟩:∃r,L[k]?=some r:=⟨_,bG aj⟩;have hx:=y8 lJ jZ;have hB:=ao r (cP jZ);have hd:L.drop k=r::L.drop (k+1):=by rw[jE aj,(br.1 jZ).2]
  rw[hd] at hv;rw[aiG] at hv
  by_cases h1:(c:Int)≤256
  ·rw[if_pos (by omega)] at hv
   by_cases h2:(r.length:Int)>256
   ·rw[if_pos (by omega)] at hv;rw[hv];(repeat first|refine db ?_|(with_reducible apply bT (c:=true));rfl;rfl;(exact ca (by omega)))
    ((refine bm rfl (aZ rfl aM) ?_))
    exact ag.aV.refl _
   ·rw[if_neg (by omega)] at hv;(repeat first|refine db ?_|(with_reducible apply bT (c:=true));rfl;rfl;(exact ca (by omega)));exact⟨L.length-(k+1),[(0,.w (.one (gW L))),(3,aL (c+r.length:Nat)),(4,aL (ef+1))],[],by omega,⟨k+1,ef+1,c+r.length,aj,rfl,by omega,by omega,hv,rfl,rfl⟩,rfl,⟨rfl,rfl,rfl,trivial⟩,trivial,rfl⟩
  ·rw[if_neg (by omega)] at hv;rw[hv];(repeat first|refine db ?_|(with_reducible apply bT (c:=true));rfl;rfl;(exact ca (by omega)))
   ((refine bm rfl (aZ rfl aM) ?_))
   exact ag.aV.refl _
 ·have q2:¬ef<(L.length:Int):=by omega
  have cy:L.drop k=[]:=re (by omega);rw[cy] at hv;rw[hv];(repeat first|refine db ?_|(with_reducible apply bT (c:=false));rfl;rfl;(exact cm (by omega)))
  ((refine bm rfl (aZ rfl aM) ?_))
  exact ag.aV.refl _
def iZ(p:cf):Bool:=decide (p.1>67108864)||decide (p.1 < -67108864)||decide (p.2>67108864)||decide (p.2 < -67108864)
def iC:List (List cf)→Int
 | []=>0
 | r::L=>if r.length<3 then 114 else if r.any iZ=true then 115 else iC L
theorem Cu(r:List cf)(L:List (List cf)):iC (r::L)=if r.length<3 then 114 else if r.any iZ=true then 115 else iC L:=rfl
def W7(L:List (List cf))(n:Nat)(az:List (Nat×ag))(aU:List (Nat×List AC)):Prop :=
 ∃(k:Nat) (ef:Int),k≤L.length∧n=L.length-k∧ef=k∧iC L=iC (L.drop k)∧aU=[]∧az=[(0,.w (.one (gW L))),(3,aL ef)]
def W8(L:List (List cf))(r:List cf)(ef:Int)(n:Nat)(az:List (Nat×ag))(aU:List (Nat×List AC)):Prop :=
 ∃(i:Nat) (ii:Int),i≤r.length∧n=r.length-i∧ii=i∧r.any iZ=(r.drop i).any iZ∧aU=[]∧az=[(0,.w (.one (gW L))),(3,aL ef),(4,aL ii)]
theorem S3{L:List (List cf)}(dj:L.length≤4611686018427387904)(ao:∀r∈L,r.length≤4611686018427387904):aO ah 100 [.w (.one (gW L))] (aL (iC L)):=by
 refine bq (f:=100) Tryz.func100 rfl rfl rfl rfl ?_;(refine fs ?_);refine qJ 52 (W7 L) L.length _ [] ⟨0,0,dy _,rfl,rfl,rfl,rfl,rfl⟩ rfl ⟨rfl,rfl,trivial⟩ trivial rfl ?_;rintro n az aU ⟨k,ef,ae,rfl,lJ,hv,rfl,rfl⟩ bE;clear bE
 by_cases aj:k<L.length
 ·have q2:ef<(L.length:Int):=by omega
  have q3:0≤ef:=by omega
  obtain⟨r,jZ⟩:∃r,L[k]?=some r:=⟨_,bG aj⟩;have hx:=y8 lJ jZ;have hB:=ao r (cP jZ);have hd:L.drop k=r::L.drop (k+1):=by rw[jE aj,(br.1 jZ).2]
  rw[hd] at hv;rw[Cu] at hv
  by_cases ar:(r.length:Int)<3
  ·rw[if_pos (by omega)] at hv;rw[hv];(refine fs ?_)
   ((refine bm rfl (aZ rfl aM) ?_))
   exact ag.aV.refl _
  ·rw[if_neg (by omega)] at hv;(refine fs ?_);refine qJ 52 (W8 L r ef) r.length _ [] ⟨0,0,dy _,rfl,rfl,rfl,rfl,rfl⟩ rfl ⟨rfl,rfl,rfl,trivial⟩ trivial rfl ?_;rintro n az aU ⟨i,ii,hi,rfl,er,ay,rfl,rfl⟩ bE;clear bE
   by_cases hp:i<r.length
   ·have p2:ii<(r.length:Int):=by omega
    have p3:0≤ii:=by omega
    obtain⟨x,y,g1⟩:∃x y,r[i]?=some (x,y):=⟨_,_,bG hp⟩;have k8:=rl er g1;have yi:r.drop i=(x,y)::r.drop (i+1):=by rw[jE hp,(br.1 g1).2]
    rw[yi,List.any_cons] at ay
    have cs:(x>67108864∧iZ (x,y)=true)∨(¬x>67108864∧x < -67108864∧iZ (x,y)=true)∨(¬x>67108864∧¬x < -67108864∧y>67108864∧iZ (x,y)=true)∨(¬x>67108864∧¬x < -67108864∧¬y>67108864∧y < -67108864∧iZ (x,y)=true)∨(¬x>67108864∧¬x < -67108864∧¬y>67108864∧¬y < -67108864∧iZ (x,y)=false):=by
     unfold iZ
     by_cases h1:x>67108864 <;> by_cases h2:x < -67108864 <;> by_cases aK:y>67108864 <;> by_cases bX:y < -67108864 <;> simp[h1,h2,aK,bX]
    rcases cs with ⟨c1,tq⟩|⟨c1,c2,tq⟩|⟨c1,c2,iX,tq⟩|⟨c1,c2,iX,Aj,tq⟩|⟨c1,c2,iX,Aj,tq⟩
    iterate 4
     ·rw[tq,Bool.true_or] at ay;rw[if_pos ay] at hv;rw[hv];(repeat first|refine db ?_|(with_reducible apply bT (c:=true));rfl;rfl;(exact ca (by omega))|(with_reducible apply bT (c:=false));rfl;rfl;(exact cm (by omega)))
      ((refine bm rfl (aZ rfl aM) ?_))
      exact ag.aV.refl _
    ·rw[tq,Bool.false_or] at ay;(repeat first|refine db ?_|(with_reducible apply bT (c:=false));rfl;rfl;(exact cm (by omega)));exact⟨r.length-(i+1),_,[],by omega,⟨i+1,ii+1,hp,rfl,by omega,ay,rfl,rfl⟩,rfl,⟨rfl,rfl,rfl,trivial⟩,trivial,rfl⟩
   ·have p2:¬ii<(r.length:Int):=by omega
    have cy:r.drop i=[]:=re (by omega);rw[cy] at ay;rw[ay,List.any_nil,if_neg (by decide)] at hv;(refine fs ?_);exact⟨L.length-(k+1),_,[],by omega,⟨k+1,ef+1,aj,rfl,by omega,hv,rfl,rfl⟩,rfl,⟨rfl,rfl,trivial⟩,trivial,rfl⟩
 ·have q2:¬ef<(L.length:Int):=by omega
  have cy:L.drop k=[]:=re (by omega);rw[cy] at hv;rw[hv];(refine fs ?_)
  ((refine bm rfl (aZ rfl aM) ?_))
  exact ag.aV.refl _
def jn(A B:List (List cf))(op fill rung cap:Int):Int :=
 if op<0∨op>3 then 110 else if fill<0∨fill>1 then 111 else if rung<0∨rung>28 then 112 else if cap<1∨cap>1024 then 113 else if bL A+bL B<1∨bL A+bL B>256 then 116 else if iC A=0 then iC B else iC A
theorem aid{A B:List (List cf)}{op fill rung cap:Int}(cp:A.length≤4611686018427387904)(yd:∀r∈A,r.length≤4611686018427387904)(cX:B.length≤4611686018427387904)(ye:∀r∈B,r.length≤4611686018427387904) :
  aO ah 45 [.w (.agg (h3 A B op fill rung cap))] (aL (jn A B op fill rung cap)):=by
 have gv:=S1 cp yd;have hQ:=S1 cX ye;have bf:=S3 cp yd;have dL:=S3 cX ye;obtain⟨s1,s2,bV⟩:=Lf A 0 (by decide);obtain⟨t1,t2,t3⟩:=Lf B 0 (by decide);have aI:((mQ A 0:Int)+(mQ B 0:Int)<1∨(mQ A 0:Int)+(mQ B 0:Int)>256)↔(bL A+bL B<1∨bL A+bL B>256):=by omega
 unfold jn;generalize mQ A 0=a at *;generalize mQ B 0=b at *;generalize iC A=x at *;generalize iC B=y at *;generalize bL A+bL B=m at *;clear s1 s2 t1 t2
 by_cases k:op<0∨op>3
 ·rw[if_pos k];clear aI
  by_cases bB:op<0
  ·refine bq (f:=45) Tryz.func45 rfl rfl rfl rfl ?_;(repeat first|refine db ?_|(with_reducible apply bT (c:=true));rfl;rfl;(exact ca (by omega)))
   ((refine bm rfl (aZ rfl aM) ?_))
   exact ag.aV.refl _
  ·have cl:op>3:=by omega
   refine bq (f:=45) Tryz.func45 rfl rfl rfl rfl ?_;(repeat first|refine db ?_|(with_reducible apply bT (c:=false));rfl;rfl;(exact cm (by omega)))
   ((refine bm rfl (aZ rfl aM) ?_))
   exact ag.aV.refl _
 ·rw[if_neg k];have anC:¬op<0:=fun h=>k (.inl h);have anD:¬op>3:=fun h=>k (.inr h);clear k
  by_cases k:fill<0∨fill>1
  ·rw[if_pos k];clear aI
   by_cases bB:fill<0
   ·refine bq (f:=45) Tryz.func45 rfl rfl rfl rfl ?_;(repeat first|refine db ?_|(with_reducible apply bT (c:=true));rfl;rfl;(exact ca (by omega))|(with_reducible apply bT (c:=false));rfl;rfl;(exact cm (by omega)))
    ((refine bm rfl (aZ rfl aM) ?_))
    exact ag.aV.refl _
   ·have cl:fill>1:=by omega
    refine bq (f:=45) Tryz.func45 rfl rfl rfl rfl ?_;(repeat first|refine db ?_|(with_reducible apply bT (c:=false));rfl;rfl;(exact cm (by omega)))
    ((refine bm rfl (aZ rfl aM) ?_))
    exact ag.aV.refl _
  ·rw[if_neg k];have anz:¬fill<0:=fun h=>k (.inl h);have anA:¬fill>1:=fun h=>k (.inr h);clear k
   by_cases k:rung<0∨rung>28
   ·rw[if_pos k];clear aI
    by_cases bB:rung<0
    ·refine bq (f:=45) Tryz.func45 rfl rfl rfl rfl ?_;(repeat first|refine db ?_|(with_reducible apply bT (c:=true));rfl;rfl;(exact ca (by omega))|(with_reducible apply bT (c:=false));rfl;rfl;(exact cm (by omega)))
     ((refine bm rfl (aZ rfl aM) ?_))
     exact ag.aV.refl _
    ·have cl:rung>28:=by omega
     refine bq (f:=45) Tryz.func45 rfl rfl rfl rfl ?_;(repeat first|refine db ?_|(with_reducible apply bT (c:=false));rfl;rfl;(exact cm (by omega)))
     ((refine bm rfl (aZ rfl aM) ?_))
     exact ag.aV.refl _
   ·rw[if_neg k];have anE:¬rung<0:=fun h=>k (.inl h);have anF:¬rung>28:=fun h=>k (.inr h);clear k
    by_cases k:cap<1∨cap>1024
    ·rw[if_pos k];clear aI
     by_cases bB:cap<1
     ·refine bq (f:=45) Tryz.func45 rfl rfl rfl rfl ?_;(repeat first|refine db ?_|(with_reducible apply bT (c:=true));rfl;rfl;(exact ca (by omega))|(with_reducible apply bT (c:=false));rfl;rfl;(exact cm (by omega)))
      ((refine bm rfl (aZ rfl aM) ?_))
      exact ag.aV.refl _
     ·have cl:cap>1024:=by omega
      refine bq (f:=45) Tryz.func45 rfl rfl rfl rfl ?_;(repeat first|refine db ?_|(with_reducible apply bT (c:=false));rfl;rfl;(exact cm (by omega)))
      ((refine bm rfl (aZ rfl aM) ?_))
      exact ag.aV.refl _
    ·rw[if_neg k];have anu:¬cap<1:=fun h=>k (.inl h);have anv:¬cap>1024:=fun h=>k (.inr h);clear k
     by_cases k:(a:Int)+(b:Int)<1∨(a:Int)+(b:Int)>256
     ·rw[if_pos (aI.1 k)];clear aI
      by_cases bB:(a:Int)+(b:Int)<1
      ·refine bq (f:=45) Tryz.func45 rfl rfl rfl rfl ?_;(repeat first|refine db ?_|refine fA ?_|refine uf hQ ?_|(with_reducible apply bT (c:=true));rfl;rfl;(exact ca (by omega))|(with_reducible apply bT (c:=false));rfl;rfl;(exact cm (by omega)))
       ((refine bm rfl (aZ rfl aM) ?_))
       exact ag.aV.refl _
      ·have cl:(a:Int)+(b:Int)>256:=by omega
       refine bq (f:=45) Tryz.func45 rfl rfl rfl rfl ?_;(repeat first|refine db ?_|refine fA ?_|refine uf hQ ?_|(with_reducible apply bT (c:=false));rfl;rfl;(exact cm (by omega)))
       ((refine bm rfl (aZ rfl aM) ?_))
       exact ag.aV.refl _
     ·rw[if_neg fun h=>k (aI.2 h)];have m1:¬(a:Int)+(b:Int)<1:=fun h=>k (.inl h);have m2:¬(a:Int)+(b:Int)>256:=fun h=>k (.inr h);clear k aI
      by_cases k:x=0
      ·rw[if_pos k];subst k;refine bq (f:=45) Tryz.func45 rfl rfl rfl rfl ?_;(repeat first|refine db ?_|refine fA ?_|refine uf hQ ?_|(with_reducible apply bT (c:=false));rfl;rfl;(exact cm (by omega)))
       ((refine bm rfl (aZ rfl aM) ?_))
       exact ag.aV.refl _
      ·rw[if_neg k];refine bq (f:=45) Tryz.func45 rfl rfl rfl rfl ?_;(repeat first|refine db ?_|refine fA ?_|refine uf hQ ?_|(with_reducible apply bT (c:=false));rfl;rfl;(exact cm (by omega)))
       ((refine bm rfl (aZ rfl aM) ?_))
       exact ag.aV.refl _
theorem U6(A B:List (List cf)):bL (A++B)=bL A+bL B:=by simp[bL]
theorem TX:∀(A B:List (List cf)),iC (A++B)=if iC A=0 then iC B else iC A
 | [],B=>rfl
 | r::A,B=>by
  rw[tS,Cu,Cu]
  by_cases h1:r.length<3
  ·rw[if_pos h1,if_pos h1];rfl
  ·rw[if_neg h1,if_neg h1]
   by_cases h2:r.any iZ=true
   ·rw[if_pos h2,if_pos h2];rfl
   ·rw[if_neg h2,if_neg h2];exact TX A B
theorem T0{A B:List (List cf)}{i:Nat}{x:List ag}(h:(sG A B)[i]?=some x):∃r,(A++B)[i]?=some r∧x=[.w (.one (lv r))]:=by
 rw[sG,dx] at h;obtain⟨r,h1,rfl⟩:=Option.map_eq_some_iff.1 h;exact⟨r,h1,rfl⟩
theorem T1{A B:List (List cf)}:∀x∈sG A B,x.length=1∧x.all ag.aW=true:=fun x ab=>by
 obtain⟨r,_,rfl⟩:=fO.1 ab;exact⟨rfl,rfl⟩
def WW(M:List (List cf))(i:Nat)(R:aE)(cU:List (List AC)):Prop:=∃c:Int,R=dP∧cU=[[.c (.bool false)],[.c (.int .i64 c)]]∧c=(bL (M.take i):Nat)∧c≤256
def WX(M:List (List cf))(e:Exit)(R:aE)(cU:List (List AC)):Prop:=∃c:Int,e = .ret∧R=dP∧cU=[[.c (.bool true)],[.c (.int .i64 c)]]∧256<bL M
def w7(A B:List (List cf)):Bool:=decide (bL A+bL B<1∨bL A+bL B>256)
theorem ah1{A B:List (List cf)}{op fill rung cap:Int}(cp:A.length≤4611686018427387904)(cX:B.length≤4611686018427387904)(ao:∀r∈A++B,r.length≤4611686018427387904) :
  aO ah 162 [.w (.agg (h3 A B op fill rung cap))] (bl (w7 A B)):=by
 have kg:=SX A B op fill rung cap;have lA:=QQ (A:=A) (B:=B) (op:=op) (fill:=fill) (rung:=rung) (cap:=cap) cp cX;refine La (f:=162) Tryz.func162 rfl rfl rfl rfl ?_;(repeat first|refine b3 ?_|refine gu ?_|(with_reducible first|apply xq|apply vv|apply GC));refine CC (swp 2 1002) (lR _ _) ?_;refine CC (swp 3 1003) (lR _ _) ?_;refine LF 16 [(2,zo 1002),(3,zo 1003)] [1002,1003] [[.c (.bool false)],[.c (.int .i64 0)]] dP (WW (A++B)) (WX (A++B)) rfl lA (by decide) T1 ?hp rfl ⟨rfl,rfl,trivial⟩ ⟨rfl,rfl,trivial⟩ (by decide) rfl rfl ⟨0,rfl,rfl,rfl,by decide⟩ (ba.refl _) (fun i r h=>by cases h) ?round ?done ?stop
 case hp =>
  intro p hp;simp only[fe,sA,or_false] at hp;subst hp;exact⟨by decide,rfl⟩
 case round =>
  rintro i x R cU ab ⟨c,rfl,rfl,ak,hA⟩ bE;obtain⟨r,h1,rfl⟩:=T0 ab;clear ab bE;have hs:=L2 h1;have al:=L1 (L:=A++B) (k:=i+1);have hB:=ao r (cP h1)
  by_cases aj:c+r.length>256
  ·(refine aS ?_);exact⟨_,_,⟨_,rfl,rfl,rfl,by omega⟩,ba.refl _,(fun i r h=>by cases h),rfl,⟨rfl,rfl,trivial⟩,rfl⟩
  ·(refine aS ?_);exact⟨_,_,⟨_,rfl,rfl,by omega,by omega⟩,ba.refl _,(fun i r h=>by cases h),rfl,⟨rfl,rfl,trivial⟩,rfl⟩
 case done =>
  rintro R cU ⟨c,rfl,rfl,ak,hA⟩ bE;clear bE;have cy:(A++B).take (sG A B).length=A++B:=gV (by simp[sG]);rw[cy,U6] at ak;have e:w7 A B=decide (c=0):=by unfold w7;rw[vn];omega
  rw[e];(repeat first|refine b3 ?_|(with_reducible first|apply xq|apply vv|apply LG))
  ((refine bm rfl (Gq rfl rfl rfl aM) ?_))
  exact ag.aV.refl _
 case stop =>
  rintro e c R cU he ⟨c',rfl,rfl,rfl,h2⟩ bE;clear bE he;rw[U6] at h2;have e:w7 A B=true:=ca (by omega);rw[e];(refine aS ?_)
  ((refine bm rfl (Gq rfl rfl rfl aM) ?_))
  exact ag.aV.refl _
theorem ah0{x y:Int}:aO ah 223 [bn x y] (bl (iZ (x,y))):=by
 have cs:((if y>x then y else x)>67108864∧iZ (x,y)=true)∨(¬(if y>x then y else x)>67108864∧iZ (x,y)=decide ((if y<x then y else x) < -67108864)):=by
  unfold iZ
  by_cases h:(if y>x then y else x)>67108864
  ·refine .inl ⟨h,?_⟩;simp only[pk,cS]
   split at h <;> omega
  ·refine .inr ⟨h,?_⟩;rw[oN];simp only[pk,cS]
   split at h <;> split <;> omega
 rcases cs with ⟨h,e⟩|⟨h,e⟩
 all_goals
  rw[e];refine bq (f:=223) Tryz.func223 rfl rfl rfl rfl ?_;(repeat first|refine db ?_|(with_reducible apply bT (c:=true));rfl;rfl;(exact ca (by omega))|(with_reducible apply bT (c:=false));rfl;rfl;(exact cm (by omega)))
  ((refine bm rfl (aZ rfl aM) ?_))
  exact ag.aV.refl _
def tf:List cf→Int→Int
 | [],_ => -1
 | p::l,i=>if iZ p=true then i else tf l (i+1)
theorem aav(p:cf)(l:List cf)(i:Int):tf (p::l) i=if iZ p=true then i else tf l (i+1):=rfl
theorem O0:∀(l:List cf) (i:Int),0≤i→(decide (tf l i≥0))=l.any iZ
 | [],i,h=>rfl
 | p::l,i,h=>by
  rw[List.any_cons];unfold tf;cases hp:iZ p with
  | true=>rw[if_pos rfl,Bool.true_or];exact ca h
  | false=>rw[if_neg (by simp),Bool.false_or];exact O0 l (i+1) (by omega)
abbrev Ma(f:Nat):ag:=aQ (.func (.func f) #[] #[])
def Wu(r:List cf)(k:Nat)(az:List (Nat×ag))(aU:List (Nat×List AC)):Prop :=
 ∃(i:Nat) (ii:Int),i≤r.length∧k=r.length-i∧ii=i∧tf r 0=tf (r.drop i) ii∧aU=[]∧az=[(0,.w (.one (lv r))),(1,Ma 223),(7,aL r.length),(8,aL ii)]
theorem ahW{r:List cf}(ao:r.length≤4611686018427387904):aO ah 266 [.w (.one (lv r)),Ma 223] (aL (tf r 0)):=by
 refine bq (f:=266) Tryz.func266 rfl rfl rfl rfl ?_;(refine fs ?_);refine qJ 19 (Wu r) r.length _ [] ⟨0,0,dy _,rfl,rfl,rfl,rfl,rfl⟩ rfl ⟨rfl,rfl,rfl,rfl,trivial⟩ trivial rfl ?_;rintro n az aU ⟨j,dN,af,rfl,l7,gC,rfl,rfl⟩ bE;clear bE
 by_cases hp:j<r.length
 ·have p2:dN<(r.length:Int):=by omega
  have p3:0≤dN:=by omega
  obtain⟨x,y,g1⟩:∃x y,r[j]?=some (x,y):=⟨_,_,bG hp⟩;have k8:=rl l7 g1;have hd:r.drop j=(x,y)::r.drop (j+1):=by rw[jE hp,(br.1 g1).2]
  have gv:=ah0 (x:=x) (y:=y);rw[hd,aav] at gC;cases ay:iZ (x,y) with
  | true =>
   rw[ay] at gC gv;rw[if_pos rfl] at gC;rw[gC];(refine cQ ?_)
   ((refine bm rfl (aZ rfl aM) ?_))
   exact ag.aV.refl _
  | false =>
   rw[ay] at gC gv;rw[if_neg (by simp)] at gC;(refine cQ ?_);exact⟨r.length-(j+1),_,[],by omega,⟨j+1,dN+1,hp,rfl,by omega,gC,rfl,rfl⟩,rfl,⟨rfl,rfl,rfl,rfl,trivial⟩,trivial,rfl⟩
 ·have e:j=r.length:=by omega
  subst e;rw[List.drop_length] at gC;rw[show tf [] dN = -1 from rfl] at gC;rw[gC];(refine fs ?_)
  ((refine bm rfl (aZ rfl aM) ?_))
  exact ag.aV.refl _
theorem ahE{r:List cf}(ao:r.length≤4611686018427387904):aO ah 222 [.w (.one (lv r)),Ma 223] (bl (r.any iZ)):=by
 have gv:=ahW ao;rw[←O0 r 0 (by decide)];refine bq (f:=222) Tryz.func222 rfl rfl rfl rfl ?_;(refine cQ ?_)
 ((refine bm rfl (aZ rfl aM) ?_))
 exact ag.aV.refl _
def Wh(M:List (List cf))(i:Nat)(R:aE)(cU:List (List AC)):Prop:=R=dP∧cU=[[.c (.int .i64 0)]]∧iC M=iC (M.drop i)
def Wi(M:List (List cf))(e:Exit)(R:aE)(cU:List (List AC)):Prop:=e = .ret∧R=dP∧cU=[[.c (.int .i64 (iC M))]]
theorem ahB{A B:List (List cf)}{op fill rung cap:Int}(cp:A.length≤4611686018427387904)(cX:B.length≤4611686018427387904)(ao:∀r∈A++B,r.length≤4611686018427387904) :
  aO ah 163 [.w (.agg (h3 A B op fill rung cap))] (aL (iC (A++B))):=by
 have kg:=SX A B op fill rung cap;have lA:=QQ (A:=A) (B:=B) (op:=op) (fill:=fill) (rung:=rung) (cap:=cap) cp cX;refine La (f:=163) Tryz.func163 rfl rfl rfl rfl ?_;(repeat first|refine b3 ?_|refine gu ?_|(with_reducible first|apply xq|apply vv|apply GC));refine CC (swp 2 1002) (lR _ _) ?_;refine LF 12 [(2,zo 1002)] [1002] [[.c (.int .i64 0)]] dP (Wh (A++B)) (Wi (A++B)) rfl lA (by decide) T1 ?hp rfl ⟨rfl,trivial⟩ ⟨rfl,trivial⟩ (by decide) rfl rfl ⟨rfl,rfl,rfl⟩ (ba.refl _) (fun i r h=>by cases h) ?round ?done ?stop
 case hp =>
  intro p hp;simp only[fe,sA,or_false] at hp;subst hp;exact⟨by decide,rfl⟩
 case round =>
  rintro i x R cU ab ⟨rfl,rfl,hv⟩ bE;obtain⟨r,h1,rfl⟩:=T0 ab;clear ab bE;have hB:=ao r (cP h1);have hd:(A++B).drop i=r::(A++B).drop (i+1):=by rw[jE (br.1 h1).1,(br.1 h1).2]
  rw[hd,Cu] at hv;have gv:=ahE hB
  by_cases aj:r.length<3
  ·rw[if_pos aj] at hv;have lK:(r.length:Int)<3:=by omega
   (refine aS ?_);exact⟨_,[[.c (.int .i64 114)]],⟨rfl,rfl,by rw[hv]⟩,ba.refl _,(fun i r h=>by cases h),rfl,⟨rfl,trivial⟩,rfl⟩
  ·rw[if_neg aj] at hv;have lK:¬(r.length:Int)<3:=by omega
   cases ay:r.any iZ with
   | true =>
    rw[ay] at hv gv;rw[if_pos rfl] at hv;(refine oR ?_);exact⟨_,[[.c (.int .i64 115)]],⟨rfl,rfl,by rw[hv]⟩,ba.refl _,(fun i r h=>by cases h),rfl,⟨rfl,trivial⟩,rfl⟩
   | false =>
    rw[ay] at hv gv;rw[if_neg (by simp)] at hv;(refine oR ?_);exact⟨_,_,⟨rfl,rfl,hv⟩,ba.refl _,(fun i r h=>by cases h),rfl,⟨rfl,trivial⟩,rfl⟩
 case done =>
  rintro R cU ⟨rfl,rfl,hv⟩ bE;clear bE;rw[re (by simp[sG]),show iC []=0 from rfl] at hv;rw[hv];(repeat first|refine b3 ?_|(with_reducible first|apply xq|apply vv|apply LG))
  ((refine bm rfl (Gq rfl rfl rfl aM) ?_))
  exact ag.aV.refl _
 case stop =>
  rintro e c R cU he ⟨rfl,rfl,rfl⟩ bE;clear bE he;(refine aS ?_)
  ((refine bm rfl (Gq rfl rfl rfl aM) ?_))
  exact ag.aV.refl _
theorem F5{A B:List (List cf)}{op fill rung cap:Int}(cp:A.length≤4611686018427387904)(cX:B.length≤4611686018427387904)(ao:∀r∈A++B,r.length≤4611686018427387904) :
  aO ah 97 [.w (.agg (h3 A B op fill rung cap))] (aL (jn A B op fill rung cap)):=by
 have gv:=ah1 (op:=op) (fill:=fill) (rung:=rung) (cap:=cap) cp cX ao;have hQ:=ahB (op:=op) (fill:=fill) (rung:=rung) (cap:=cap) cp cX ao
 have cs:∃c,jn A B op fill rung cap=c∧((op<0∧c=110)∨(¬op<0∧op>3∧c=110)∨(¬op<0∧¬op>3∧((fill<0∧c=111)∨(¬fill<0∧fill>1∧c=111)∨(¬fill<0∧¬fill>1∧((rung<0∧c=112)∨(¬rung<0∧rung>28∧c=112)∨(¬rung<0∧¬rung>28∧((cap<1∧c=113)∨(¬cap<1∧cap>1024∧c=113)∨(¬cap<1∧¬cap>1024∧((w7 A B=true∧c=116)∨(w7 A B=false∧c=iC (A++B))))))))))):=by
  refine⟨_,rfl,?_⟩;unfold jn w7;rw[TX]
  by_cases o1:op<0
  ·exact .inl ⟨o1,by rw[if_pos (.inl o1)]⟩
  by_cases o2:op>3
  ·exact .inr (.inl ⟨o1,o2,by rw[if_pos (.inr o2)]⟩)
  refine .inr (.inr ⟨o1,o2,?_⟩);rw[if_neg (by omega)]
  by_cases f1:fill<0
  ·exact .inl ⟨f1,by rw[if_pos (.inl f1)]⟩
  by_cases f2:fill>1
  ·exact .inr (.inl ⟨f1,f2,by rw[if_pos (.inr f2)]⟩)
  refine .inr (.inr ⟨f1,f2,?_⟩);rw[if_neg (by omega)]
  by_cases cr:rung<0
  ·exact .inl ⟨cr,by rw[if_pos (.inl cr)]⟩
  by_cases dK:rung>28
  ·exact .inr (.inl ⟨cr,dK,by rw[if_pos (.inr dK)]⟩)
  refine .inr (.inr ⟨cr,dK,?_⟩);rw[if_neg (by omega)]
  by_cases c1:cap<1
  ·exact .inl ⟨c1,by rw[if_pos (.inl c1)]⟩
  by_cases c2:cap>1024
  ·exact .inr (.inl ⟨c1,c2,by rw[if_pos (.inr c2)]⟩)
  refine .inr (.inr ⟨c1,c2,?_⟩);rw[if_neg (by omega)]
  by_cases m1:bL A+bL B<1∨bL A+bL B>256
  ·exact .inl ⟨ca m1,by rw[if_pos m1]⟩
  ·exact .inr ⟨cm m1,by rw[if_neg m1]⟩
 obtain⟨c,e,cs⟩:=cs;rw[e];clear e cp cX ao;rcases cs with ⟨o1,rfl⟩|⟨o1,o2,rfl⟩|⟨o1,o2,cs⟩
 ·refine bq (f:=97) Tryz.func97 rfl rfl rfl rfl ?_;(repeat first|refine db ?_|(with_reducible apply bT (c:=true));rfl;rfl;(exact ca (by omega)))
  ((refine bm rfl (aZ rfl aM) ?_))
  exact ag.aV.refl _
 ·refine bq (f:=97) Tryz.func97 rfl rfl rfl rfl ?_;(repeat first|refine db ?_|(with_reducible apply bT (c:=false));rfl;rfl;(exact cm (by omega)))
  ((refine bm rfl (aZ rfl aM) ?_))
  exact ag.aV.refl _
 rcases cs with ⟨f1,rfl⟩|⟨f1,f2,rfl⟩|⟨f1,f2,cs⟩
 ·refine bq (f:=97) Tryz.func97 rfl rfl rfl rfl ?_;(repeat first|refine db ?_|(with_reducible apply bT (c:=true));rfl;rfl;(exact ca (by omega))|(with_reducible apply bT (c:=false));rfl;rfl;(exact cm (by omega)))
  ((refine bm rfl (aZ rfl aM) ?_))
  exact ag.aV.refl _
 ·refine bq (f:=97) Tryz.func97 rfl rfl rfl rfl ?_;(repeat first|refine db ?_|(with_reducible apply bT (c:=false));rfl;rfl;(exact cm (by omega)))
  ((refine bm rfl (aZ rfl aM) ?_))
  exact ag.aV.refl _
 rcases cs with ⟨cr,rfl⟩|⟨cr,dK,rfl⟩|⟨cr,dK,cs⟩
 ·refine bq (f:=97) Tryz.func97 rfl rfl rfl rfl ?_;(repeat first|refine db ?_|(with_reducible apply bT (c:=true));rfl;rfl;(exact ca (by omega))|(with_reducible apply bT (c:=false));rfl;rfl;(exact cm (by omega)))
  ((refine bm rfl (aZ rfl aM) ?_))
  exact ag.aV.refl _
 ·refine bq (f:=97) Tryz.func97 rfl rfl rfl rfl ?_;(repeat first|refine db ?_|(with_reducible apply bT (c:=false));rfl;rfl;(exact cm (by omega)))
  ((refine bm rfl (aZ rfl aM) ?_))
  exact ag.aV.refl _
 rcases cs with ⟨c1,rfl⟩|⟨c1,c2,rfl⟩|⟨c1,c2,cs⟩
 ·refine bq (f:=97) Tryz.func97 rfl rfl rfl rfl ?_;(repeat first|refine db ?_|(with_reducible apply bT (c:=true));rfl;rfl;(exact ca (by omega))|(with_reducible apply bT (c:=false));rfl;rfl;(exact cm (by omega)))
  ((refine bm rfl (aZ rfl aM) ?_))
  exact ag.aV.refl _
 ·refine bq (f:=97) Tryz.func97 rfl rfl rfl rfl ?_;(repeat first|refine db ?_|(with_reducible apply bT (c:=false));rfl;rfl;(exact cm (by omega)))
  ((refine bm rfl (aZ rfl aM) ?_))
  exact ag.aV.refl _
 rcases cs with ⟨m1,rfl⟩|⟨m1,rfl⟩
 ·rw[m1] at gv;refine bq (f:=97) Tryz.func97 rfl rfl rfl rfl ?_;(repeat first|refine db ?_|refine fA ?_|(with_reducible apply bT (c:=false));rfl;rfl;(exact cm (by omega)))
  ((refine bm rfl (aZ rfl aM) ?_))
  exact ag.aV.refl _
 ·rw[m1] at gv;refine bq (f:=97) Tryz.func97 rfl rfl rfl rfl ?_;(repeat first|refine db ?_|refine fA ?_|refine uf hQ ?_|(with_reducible apply bT (c:=false));rfl;rfl;(exact cm (by omega)))
  ((refine bm rfl (aZ rfl aM) ?_))
  exact ag.aV.refl _
instance am4:nb ah 22 63 5 40:=⟨by kernel_rfl⟩
abbrev uG(v:Value)(l:List (Int×(cf×cf))):bC:=⟨63,5,v,l.length,nV l⟩
theorem Ek(v:Value)(l:List (Int×(cf×cf)))(x:Int×(cf×cf)):uG v (l++[x])=⟨63,5,v,l.length+1,nV l++Eh x⟩:=by
 simp[uG,nV,sy]
def gb(o:Int)(L:List (List cf)):List (Int×(cf×cf)):=(ik L).map fun e=>(o,e)
theorem Sp{o:Int}{L:List (List cf)}{k:Nat}{r:List cf}(h:L[k]?=some r):gb o (L.take (k+1))=gb o (L.take k)++(lE r).map fun e=>(o,e):=by
 rw[take_one h];simp[gb,ik,sy]
theorem So{o:Int}{L:List (List cf)}{k:Nat}:(gb o (L.take k)).length≤(gb o L).length:=by
 have e:gb o L=gb o (L.take k)++gb o (L.drop k):=by
  unfold gb ik;rw[←sx,←sy,j8]
 rw[e,cY];omega
def MT(L:List (List cf))(o:Int)(n:Nat)(R:aE)(az:List (Nat×ag))(aU:List (Nat×List AC)):Prop :=
 ∃(k:Nat) (v:Value) (ef:Int),k≤L.length∧n=L.length-k∧ef=k∧R=bo 0 (uG v (gb o (L.take k)))∧aU=[]∧az=[(0,.w (.one (gW L))),(1,aL o),(5,aQ v),(6,aL ef)]
def MS(L:List (List cf))(o:Int)(r:List cf)(S:List (Int×(cf×cf)))(ef:Int)(n:Nat)(R:aE)(az:List (Nat×ag))(aU:List (Nat×List AC)):Prop :=
 ∃(i:Nat) (v:Value) (ii:Int),i≤r.length∧n=r.length-i∧ii=i∧R=bo 0 (uG v (S++((lE r).take i).map fun e=>(o,e)))∧aU=[]∧az=[(0,.w (.one (gW L))),(1,aL o),(5,aQ v),(6,aL ef),(7,.w (.one (lv r))),(8,aL ii)]
theorem ahN{L:List (List cf)}{o:Int}(dj:L.length≤900000)(ao:∀r∈L,r.length≤900000)(fY:(gb o L).length≤900000):aO ah 101 [.w (.one (gW L)),aL o] (cD 5 (gb o L).length (nV (gb o L))):=by
 refine bq (f:=101) Tryz.func101 rfl rfl rfl rfl ?_;refine s3 ?_;refine oo 0 63 5 rfl ?_;(refine aS ?_);refine jk 50 (MT L o) L.length (bo 0 (uG (.slice none 0 0) [])) _ [] ⟨0,.slice none 0 0,0,dy _,rfl,rfl,rfl,rfl,rfl⟩ (kX _ _ _) rfl ⟨rfl,rfl,rfl,rfl,trivial⟩ trivial rfl ?_;rintro n R az aU ⟨k,v,ef,ae,rfl,lJ,rfl,rfl,rfl⟩ bE;clear bE
 by_cases aj:k<L.length
 ·have q2:ef<(L.length:Int):=by omega
  have q3:0≤ef:=by omega
  obtain⟨r,jZ⟩:∃r,L[k]?=some r:=⟨_,bG aj⟩;have hx:=y8 lJ jZ;have hB:=ao r (cP jZ);have aC:=Sp (o:=o) jZ;have acY:=So (o:=o) (L:=L) (k:=k+1);generalize hS:gb o (L.take k)=S at *;(refine aS ?_);refine jk 50 (MS L o r S ef) r.length _ _ [] ⟨0,v,0,dy _,rfl,rfl,by rw[List.take_zero,pn,mS],rfl,rfl⟩ (ba.refl _) rfl ⟨rfl,rfl,rfl,rfl,rfl,rfl,trivial⟩ trivial rfl ?_;rintro n R az aU ⟨i,v,ii,hi,rfl,er,rfl,rfl,rfl⟩ bE;clear bE
  by_cases hp:i<r.length
  ·have p2:ii<(r.length:Int):=by omega
   have p3:0≤ii:=by omega
   obtain⟨x,y,g1⟩:∃x y,r[i]?=some (x,y):=⟨_,_,bG hp⟩;obtain⟨qs,k4,g0⟩:∃x y,r[0]?=some (x,y):=⟨_,_,bG (by omega)⟩;have k8:=rl er g1;have Mz:=rl (ii:=0) rfl g0
   have hlen:(S++((lE r).take i).map fun e=>(o,e)).length+1≤900000:=by
    have aI:(lE r).length=r.length:=wk r;have aN:(gb o (L.take (k+1))).length=S.length+r.length:=by rw[aC];simp[aI]
    simp only[cY,jC,dV];omega
   by_cases aA:i+1<r.length
   ·have gy:ii+1<(r.length:Int):=by omega
    obtain⟨de,mr,g2⟩:∃x y,r[i+1]?=some (x,y):=⟨_,_,bG aA⟩;have pB:=rl (ii:=ii+1) (by omega) g2;have aD:=take_one (Av g1 (by rw[if_pos aA];exact g2));(repeat first|(with_reducible apply dz (id:=12) [0,1,2,3,4,5,6,7,8,9,10]);kernel_rfl;kernel_rfl;rfl|refine b3 ?_);refine mL 0 rfl rfl rfl rfl ?q1 ?q2 rfl rfl (fun a8 bS => ?_)
    case q1=>exact jg (eL hlen (by decide))
    case q2=>exact eL (h8 40 hlen) (by decide)
    (refine aS ?_);refine⟨r.length-(i+1),_,_,[],by omega,⟨i+1,a8,ii+1,by omega,rfl,by omega,rfl,rfl,rfl⟩,?_,rfl,⟨rfl,rfl,rfl,rfl,rfl,rfl,trivial⟩,trivial,rfl⟩;rw[aD,sx,←hl,hK,pn,Ek];exact kX _ _ _
   ·have gy:¬ii+1<(r.length:Int):=by omega
    have aD:=take_one (Av g1 (by rw[if_neg aA];exact g0));(repeat first|(with_reducible apply dz (id:=12) [0,1,2,3,4,5,6,7,8,9,10]);kernel_rfl;kernel_rfl;rfl|refine b3 ?_);refine mL 0 rfl rfl rfl rfl ?q3 ?q4 rfl rfl (fun a8 bS => ?_)
    case q3=>exact jg (eL hlen (by decide))
    case q4=>exact eL (h8 40 hlen) (by decide)
    (refine aS ?_);refine⟨r.length-(i+1),_,_,[],by omega,⟨i+1,a8,ii+1,by omega,rfl,by omega,rfl,rfl,rfl⟩,?_,rfl,⟨rfl,rfl,rfl,rfl,rfl,rfl,trivial⟩,trivial,rfl⟩;rw[aD,sx,←hl,hK,pn,Ek];exact kX _ _ _
  ·have e:(lE r).take i=lE r:=gV (by rw[wk];omega);have p2:¬ii<(r.length:Int):=by omega
   rw[e,←aC];(refine aS ?_);exact⟨L.length-(k+1),_,_,[],by omega,⟨k+1,v,ef+1,aj,rfl,by omega,rfl,rfl,rfl⟩,ba.refl _,rfl,⟨rfl,rfl,rfl,rfl,trivial⟩,trivial,rfl⟩
 ·have q2:¬ef<(L.length:Int):=by omega
  have cy:L.take k=L:=gV (by omega);rw[cy];refine zf 0 5 (uG v (gb o L)) rfl rfl ?_;(refine aS ?_)
  ((refine bm rfl (aZ rfl aM) ?_))
  exact ag.aV.refl _
theorem Z0(l:List (Int×(cf×cf))):(nV l).all AC.aW=true:=by
 rw[b5];intro x ab;obtain⟨e,_,he⟩:=List.mem_flatMap.1 ab;simp only[Eh,fe,sA,or_false] at he;rcases he with rfl|rfl|rfl|rfl|rfl <;> rfl
instance am5:Enters ah 101:=⟨by kernel_rfl⟩
theorem Xv{L:List (List cf)}{o:Int}(dj:L.length≤900000)(ao:∀r∈L,r.length≤900000)(fY:(gb o L).length≤900000):oT ah 101 [.w (.one (gW L)),aL o] fun v q=>∃a8,v=aQ a8∧q=uG a8 (gb o L):=by
 refine DD rfl (fun v q h=>by obtain⟨a8,rfl,_⟩:=h;rfl) ?_;refine cC (f:=101) Tryz.func101 rfl (cg rfl) (by exact jm) ?_;refine oo 0 63 5 rfl ?_;(refine aS ?_);refine jk 50 (MT L o) L.length (bo 0 (uG (.slice none 0 0) [])) _ [] ⟨0,.slice none 0 0,0,dy _,rfl,rfl,rfl,rfl,rfl⟩ (kX _ _ _) rfl ⟨rfl,rfl,rfl,rfl,trivial⟩ trivial rfl ?_;rintro n R az aU ⟨k,v,ef,ae,rfl,lJ,rfl,rfl,rfl⟩ bE;clear bE
 by_cases aj:k<L.length
 ·have q2:ef<(L.length:Int):=by omega
  have q3:0≤ef:=by omega
  obtain⟨r,jZ⟩:∃r,L[k]?=some r:=⟨_,bG aj⟩;have hx:=y8 lJ jZ;have hB:=ao r (cP jZ);have aC:=Sp (o:=o) jZ;have acY:=So (o:=o) (L:=L) (k:=k+1);generalize hS:gb o (L.take k)=S at *;(refine aS ?_);refine jk 50 (MS L o r S ef) r.length _ _ [] ⟨0,v,0,dy _,rfl,rfl,by rw[List.take_zero,pn,mS],rfl,rfl⟩ (ba.refl _) rfl ⟨rfl,rfl,rfl,rfl,rfl,rfl,trivial⟩ trivial rfl ?_;rintro n R az aU ⟨i,v,ii,hi,rfl,er,rfl,rfl,rfl⟩ bE;clear bE
  by_cases hp:i<r.length
  ·have p2:ii<(r.length:Int):=by omega
   have p3:0≤ii:=by omega
   obtain⟨x,y,g1⟩:∃x y,r[i]?=some (x,y):=⟨_,_,bG hp⟩;obtain⟨qs,k4,g0⟩:∃x y,r[0]?=some (x,y):=⟨_,_,bG (by omega)⟩;have k8:=rl er g1;have Mz:=rl (ii:=0) rfl g0
   have hlen:(S++((lE r).take i).map fun e=>(o,e)).length+1≤900000:=by
    have aI:(lE r).length=r.length:=wk r;have aN:(gb o (L.take (k+1))).length=S.length+r.length:=by rw[aC];simp[aI]
    simp only[cY,jC,dV];omega
   by_cases aA:i+1<r.length
   ·have gy:ii+1<(r.length:Int):=by omega
    obtain⟨de,mr,g2⟩:∃x y,r[i+1]?=some (x,y):=⟨_,_,bG aA⟩;have pB:=rl (ii:=ii+1) (by omega) g2;have aD:=take_one (Av g1 (by rw[if_pos aA];exact g2));(repeat first|(with_reducible apply dz (id:=12) [0,1,2,3,4,5,6,7,8,9,10]);kernel_rfl;kernel_rfl;rfl|refine b3 ?_);refine mL 0 rfl rfl rfl rfl ?q1 ?q2 rfl rfl (fun a8 bS => ?_)
    case q1=>exact jg (eL hlen (by decide))
    case q2=>exact eL (h8 40 hlen) (by decide)
    (refine aS ?_);refine⟨r.length-(i+1),_,_,[],by omega,⟨i+1,a8,ii+1,by omega,rfl,by omega,rfl,rfl,rfl⟩,?_,rfl,⟨rfl,rfl,rfl,rfl,rfl,rfl,trivial⟩,trivial,rfl⟩;rw[aD,sx,←hl,hK,pn,Ek];exact kX _ _ _
   ·have gy:¬ii+1<(r.length:Int):=by omega
    have aD:=take_one (Av g1 (by rw[if_neg aA];exact g0));(repeat first|(with_reducible apply dz (id:=12) [0,1,2,3,4,5,6,7,8,9,10]);kernel_rfl;kernel_rfl;rfl|refine b3 ?_);refine mL 0 rfl rfl rfl rfl ?q3 ?q4 rfl rfl (fun a8 bS => ?_)
    case q3=>exact jg (eL hlen (by decide))
    case q4=>exact eL (h8 40 hlen) (by decide)
    (refine aS ?_);refine⟨r.length-(i+1),_,_,[],by omega,⟨i+1,a8,ii+1,by omega,rfl,by omega,rfl,rfl,rfl⟩,?_,rfl,⟨rfl,rfl,rfl,rfl,rfl,rfl,trivial⟩,trivial,rfl⟩;rw[aD,sx,←hl,hK,pn,Ek];exact kX _ _ _
  ·have e:(lE r).take i=lE r:=gV (by rw[wk];omega);have p2:¬ii<(r.length:Int):=by omega
   rw[e,←aC];(refine aS ?_);exact⟨L.length-(k+1),_,_,[],by omega,⟨k+1,v,ef+1,aj,rfl,by omega,rfl,rfl,rfl⟩,ba.refl _,rfl,⟨rfl,rfl,rfl,rfl,trivial⟩,trivial,rfl⟩
 ·have q2:¬ef<(L.length:Int):=by omega
  have cy:L.take k=L:=gV (by omega);rw[cy];(refine aS ?_)
  ((refine yl rfl (aZ rfl aM) rfl rfl (gz _) ?_))
  exact⟨v,rfl,rfl⟩
theorem aie{A B:List (List cf)}{op fill rung cap:Int}(cp:A.length≤900000)(yd:∀r∈A,r.length≤900000)(amt:(gb 0 A).length≤400000)(cX:B.length≤900000)(ye:∀r∈B,r.length≤900000)(amu:(gb 1 B).length≤400000) :
  aO ah 47 [.w (.agg (h3 A B op fill rung cap))] (cD 5 ((gb 0 A).length+(gb 1 B).length) (nV (gb 0 A)++nV (gb 1 B))):=by
 have dJ:=Xv (L:=A) (o:=0) cp yd (by omega);have zZ:=ahN (L:=B) (o:=1) cX ye (by omega);refine bq (f:=47) Tryz.func47 rfl rfl rfl rfl ?_;refine s3 ?_;(repeat first|(with_reducible apply hN (id:=1) [0,1,3,4,2,5,6,7] [5]);kernel_rfl;kernel_rfl;rfl|refine b3 ?_);refine Fh 0 rfl rfl rfl rfl dJ rfl rfl (fun bx q h => ?_);obtain⟨a8,rfl,rfl⟩:=h;(refine oR ?_);refine mL 0 rfl rfl rfl rfl ?q1 ?q2 (Z0 _) rfl (fun v2 mN => ?_)
 case q1=>exact jg (by show (gb 0 A).length+(gb 1 B).length≤1000000;omega)
 case q2=>show ((gb 0 A).length+(gb 1 B).length)*40≤140737488355328;omega
 (repeat first|(with_reducible apply Qk);kernel_rfl|with_reducible apply Uo|(with_reducible apply eU);rfl;(repeat first|(with_reducible apply fT);rfl);(with_reducible apply dA));refine zf 0 2 _ rfl rfl ?_;(refine aS ?_)
 ((refine bm rfl (aZ rfl aM) ?_))
 exact ag.aV.refl _
instance am3:nb ah 65 127 1 24:=⟨by kernel_rfl⟩
theorem aiq{P:Program}{f:FuncId}{args nU:List ag}{r:ag}(h:aO P f args r)(ha:nU.all ag.aW=true)(al:nU.length=args.length)(hle:∀(i:Nat) x y,nU[i]?=some x→args[i]?=some y→x.aV y):aO P f nU r :=
 ⟨fun x ab=>ag.c6 (b5.1 ha x ab),h.cn,fun U W vs cL=>h.call U W vs ⟨by rw[←al];exact cL.1,fun i y v ai hv=>by
  have hi:i<nU.length:=by rw[al];exact(br.1 ai).1
  exact hle i _ y (bG hi) ai U id W v (cL.2 i _ v (bG hi) hv)⟩⟩
theorem Kf{A:List (List cf)}{op fill rung cap:Int}:ag.aV (.w (.agg [gW A,.c (.slice none 0 0),.c (.int .i64 op),.c (.int .i64 fill),.c (.int .i64 rung),.c (.int .i64 cap)])) (.w (.agg (h3 A [] op fill rung cap))):=DH rfl fun j x y ab ai=>by
 match j with
 | 0=>cases ab;cases ai;exact .inl rfl
 | 1=>cases ab;cases ai;exact .inr ⟨rfl,1,rfl⟩
 | 2=>cases ab;cases ai;exact .inl rfl
 | 3=>cases ab;cases ai;exact .inl rfl
 | 4=>cases ab;cases ai;exact .inl rfl
 | 5=>cases ab;cases ai;exact .inl rfl
 | j+6=>simp at ab
theorem aef{op fill rung cap:Int}:ag.aV (.w (.agg [.c (.slice none 0 0),.c (.slice none 0 0),.c (.int .i64 op),.c (.int .i64 fill),.c (.int .i64 rung),.c (.int .i64 cap)])) (.w (.agg (h3 [] [] op fill rung cap))):=DH rfl fun j x y ab ai=>by
 match j with
 | 0=>cases ab;cases ai;exact .inr ⟨rfl,1,rfl⟩
 | 1=>cases ab;cases ai;exact .inr ⟨rfl,1,rfl⟩
 | 2=>cases ab;cases ai;exact .inl rfl
 | 3=>cases ab;cases ai;exact .inl rfl
 | 4=>cases ab;cases ai;exact .inl rfl
 | 5=>cases ab;cases ai;exact .inl rfl
 | j+6=>simp at ab
theorem BQ{P:Program}{f:FuncId}{x y:ag}{ys:List ag}{r:ag}(h:aO P f (y::ys) r)(wh:x.aW=true)(cs:ys.all ag.aW=true)(hle:x.aV y):aO P f (x::ys) r:=aiq h (by rw[kA,wh,cs];rfl) rfl fun i a b aX aa=>by
 cases i with
 | zero=>cases aX;cases aa;exact hle
 | succ i=>rw[List.getElem?_cons_succ] at aX aa;rw[aX] at aa;cases aa;exact .refl _
def WT(L:List (List cf))(b:Nat)(n:Nat)(az:List (Nat×ag))(aU:List (Nat×List AC)):Prop :=
 ∃(i:Nat) (ii c:Int),i≤L.length∧n=L.length-i∧ii=i∧c=((b+bL (L.take i):Nat):Int)∧aU=[]∧az=[(3,aL c),(24,.w (.one (gW L))),(25,aL L.length),(26,aL ii)]
theorem ahc{A B:List (List cf)}{op fill rung cap:Int}(aa:A.length+B.length+bL A+bL B≤1048576) :
  aO ah 96 [.w (.agg (h3 A B op fill rung cap))] (aL ((A.length+B.length+(bL A+bL B):Nat):Int)):=by
 have jK:(A.length:Int).toNat-0=A.length:=by omega
 have z2:((A.map lv).drop (0*1)).take (A.length*1)=A.map lv:=by rw[Nat.zero_mul,List.drop_zero,Nat.mul_one,gV (by simp)]
 have z3:A.length+B.length=(A++B).length:=by simp
 have z4:A.map lv++B.map lv=(A++B).map lv:=by simp
 have z5:(A.length+B.length)*24≤140737488355328:=by omega
 have anT:bL (A++B)=bL A+bL B:=by simp[bL]
 have VV:(A.length:Int)+B.length=(((A++B).length+bL ((A++B).take 0):Nat):Int):=by simp[bL]
 have z9:A.length+B.length≤900000∨900000<A.length+B.length:=by omega
 have alB:A.length+B.length≤maxLen:=eL (m:=1048576) (by omega) (by decide);refine bq (f:=96) Tryz.func96 rfl rfl rfl rfl ?_;(repeat first|(with_reducible apply Yo);(iterate 4 rfl);(omega);(omega);(assumption);(assumption);rfl|(with_reducible apply M7);(iterate 3 rfl);(assumption);(assumption);(assumption);(assumption);rfl|refine db ?_);refine qJ 36 (WT (A++B) (A++B).length) (A++B).length _ [] ⟨0,0,_,dy _,rfl,rfl,VV,rfl,rfl⟩ rfl ⟨rfl,rfl,rfl,rfl,trivial⟩ trivial rfl ?_;rintro n az aU ⟨i,ii,c,hi,rfl,er,ak,rfl,rfl⟩ bE;clear bE jK z2 z4 z5 VV z9 alB;generalize fY:A++B=M at *
 by_cases aj:i<M.length
 ·have q2:ii<(M.length:Int):=by omega
  have q3:0≤ii:=by omega
  obtain⟨r,jZ⟩:∃r,M[i]?=some r:=⟨_,bG aj⟩;have hx:=y8 er jZ;have hs:=L2 jZ;have al:=L1 (L:=M) (k:=i+1);(refine fs ?_);exact⟨M.length-(i+1),_,[],by omega,⟨i+1,ii+1,c+r.length,aj,rfl,by omega,by omega,rfl,rfl⟩,rfl,⟨rfl,rfl,rfl,rfl,trivial⟩,trivial,rfl⟩
 ·have e:i=M.length:=by omega
  subst e;rw[List.take_length] at ak;have nl:((A.length+B.length+(bL A+bL B):Nat):Int)=c:=by omega
  rw[nl];(refine fs ?_)
  ((refine bm rfl (aZ rfl aM) ?_))
  exact ag.aV.refl _
def fJ(c:aq→aq→Bool):List aq→Bool
 | []=>false
 | [_]=>false
 | p::q::V=>c p q||fJ c (q::V)
theorem xZ{c:aq→aq→Bool}{R:aq→aq→Prop}(h:∀p q,c p q=false↔R p q):∀V,gj R V↔fJ c V=false
 | []=>by simp[gj,fJ]
 | [_]=>by simp[gj,fJ]
 | p::q::V=>by
  have ck:=xZ h (q::V);simp only[gj,fJ,Bool.or_eq_false_iff,h p q,ck]
theorem Nr{c:aq→aq→Bool}:∀(V:List aq) (p q:aq),fJ c (V++[p,q])=(fJ c (V++[p])||c p q)
 | [],p,q=>by simp[fJ]
 | [a],p,q=>by simp[fJ]
 | a::b::V,p,q=>by
  have ck:=Nr (c:=c) (b::V) p q;simp only[tS,fJ] at ck ⊢;rw[ck,Bool.or_assoc]
theorem Ah{c:aq→aq→Bool}{V:List aq}{k:Nat}{p q:aq}(h1:V[k]?=some p)(h2:V[k+1]?=some q):fJ c (V.take (k+2))=(fJ c (V.take (k+1))||c p q):=by
 have aI:V.take (k+1)=V.take k++[p]:=by
  rw[ls (br.1 h1).1,(br.1 h1).2]
 have aN:V.take (k+2)=V.take k++[p,q]:=by
  rw[ls (br.1 h2).1,(br.1 h2).2,aI];simp
 rw[aI,aN,Nr]
theorem Ag{c:aq→aq→Bool}(V:List aq):fJ c (V.take 1)=false:=by
 cases V <;> rfl
theorem ajC{r:Nat}{V:List aq}{D:List Int}:xm r V D↔V≠[]∧V.length=D.length+1∧(∀v∈V,dU r v.1 v.2=true)∧fJ (fun p q=>dG p.1 p.2 q.1 q.2) V=false∧(∀d∈D,1≤d∧d≤1048576) ∧
  (fJ (fun p q=>decide (q.1<p.1)) V=false∨fJ (fun p q=>decide (q.1>p.1)) V=false)∧(fJ (fun p q=>decide (q.2<p.2)) V=false∨fJ (fun p q=>decide (q.2>p.2)) V=false):=by
 unfold xm;rw[xZ (c:=fun p q=>dG p.1 p.2 q.1 q.2) (R:=(· ≠ ·)) (fun p q => ?_),xZ (c:=fun p q=>decide (q.1<p.1)) (R:=fun p q=>p.1≤q.1) (fun p q => ?_),xZ (c:=fun p q=>decide (q.1>p.1)) (R:=fun p q=>q.1≤p.1) (fun p q => ?_),xZ (c:=fun p q=>decide (q.2<p.2)) (R:=fun p q=>p.2≤q.2) (fun p q => ?_),xZ (c:=fun p q=>decide (q.2>p.2)) (R:=fun p q=>q.2≤p.2) (fun p q => ?_)]
 ·rw[ky];omega
 ·rw[ky];omega
 ·rw[ky];omega
 ·rw[ky];omega
 ·obtain⟨x,y⟩:=p;obtain⟨z,w⟩:=q
  constructor
  ·intro h e;have:=tc.2 (⟨congrArg Prod.fst e,congrArg Prod.snd e⟩:x=z∧y=w);rw[h] at this;cases this
  ·intro h;cases he:dG x y z w with
   | false=>rfl
   | true=>obtain⟨rfl,rfl⟩:=tc.1 he;exact absurd rfl h
theorem Nq{c:aq→aq→Bool}:∀(V W:List aq),fJ c V=true→fJ c (V++W)=true
 | [],W,h=>by simp[fJ] at h
 | [a],W,h=>by simp[fJ] at h
 | a::b::V,W,h=>by
  have ck:=Nq (c:=c) (b::V) W;simp only[tS,fJ,pk] at ck h ⊢;rcases h with h|h
  ·exact .inl h
  ·exact .inr (ck h)
theorem YC{c:aq→aq→Bool}{V:List aq}{k:Nat}(h:fJ c (V.take k)=true):fJ c V=true:=by
 have:=Nq (V.take k) (V.drop k) h;rwa [j8] at this
def VZ(r:Nat)(V:List aq)(n:Nat)(az:List (Nat×ag))(aU:List (Nat×List AC)):Prop :=
 ∃(i:Nat) (ii:Int),i≤V.length∧n=V.length-i∧ii=i∧(V.take i).all (fun v=>dU r v.1 v.2)=true∧aU=[]∧az=[(1,aL r),(15,gr V),(16,aL V.length),(17,aL ii)]
theorem ahv{V:List aq}{r:Nat}(ao:r≤28)(mF:0<V.length)(aa:V.length≤100000):aO ah 298 [gr V,aL r] (bl (V.all fun v=>dU r v.1 v.2)):=by
 have an:gY (r:Int) r:=⟨ao,.inr (.inr rfl)⟩;have bf:=Ga (k:=(r:Int));rw[show (decide (0≤(r:Int))&&decide ((r:Int)≤28))=true by rw[ca (by omega),ca (by omega)];rfl] at bf;have dl:¬(V.length:Int)=0:=by omega
 refine bq (f:=298) Tryz.func298 rfl rfl rfl rfl ?_;(repeat first|refine db ?_|refine fA ?_|(with_reducible apply bT (c:=false));rfl;rfl;(exact cm (by omega)));refine qJ 26 (VZ r V) V.length _ [] ⟨0,0,dy _,rfl,rfl,rfl,rfl,rfl⟩ rfl ⟨rfl,rfl,rfl,rfl,trivial⟩ trivial rfl ?_;rintro n az aU ⟨i,ii,hi,rfl,er,wy,rfl,rfl⟩ bE;clear bE dl bf
 by_cases aj:i<V.length
 ·have q2:ii<(V.length:Int):=by omega
  have q3:0≤ii:=by omega
  obtain⟨x,y,g1⟩:∃x y,V[i]?=some (x,y):=⟨_,_,bG aj⟩;have hx:=p7 er g1
  have aD:V.take (i+1)=V.take i++[(x,y)]:=by
   rw[ls aj,(br.1 g1).2]
  cases l5:dU r x y with
  | false =>
   have WG:=tN an l5
   have e:(V.all fun v=>dU r v.1 v.2)=false:=by
    refine List.all_eq_false.2 ⟨(x,y),cP g1,?_⟩;simp only[l5];decide
   rw[e];clear an;(refine cQ ?_)
   ((refine bm rfl (aZ rfl aM) ?_))
   exact ag.aV.refl _
  | true =>
   have WG:=tN an l5
   have e:(V.take (i+1)).all (fun v=>dU r v.1 v.2)=true:=by
    rw[aD,List.all_append,wy];simp[l5]
   clear an;(refine cQ ?_);exact⟨V.length-(i+1),_,[],by omega,⟨i+1,ii+1,by omega,rfl,by omega,e,rfl,rfl⟩,rfl,⟨rfl,rfl,rfl,rfl,trivial⟩,trivial,rfl⟩
 ·have q2:¬ii<(V.length:Int):=by omega
  rw[gV (by omega)] at wy;rw[wy];(refine fs ?_)
  ((refine bm rfl (aZ rfl aM) ?_))
  exact ag.aV.refl _
theorem ahu{V:List aq}{k:Int}(cs:(V.length:Int)=0∨(¬(V.length:Int)=0∧¬(0≤k∧k≤28))):aO ah 298 [gr V,aL k] (bl false):=by
 rcases cs with dl|⟨dl,q1⟩
 ·refine bq (f:=298) Tryz.func298 rfl rfl rfl rfl ?_;(repeat first|refine db ?_|(with_reducible apply bT (c:=true));rfl;rfl;(exact ca (by omega)))
  ((refine bm rfl (aZ rfl aM) ?_))
  exact ag.aV.refl _
 ·have bf:=Ga (k:=k)
  rw[show (decide (0≤k)&&decide (k≤28))=false by
   rcases qp k 0 with h|h
   ·rw[cm (by omega)];rfl
   ·rw[cm (p:=k≤28) (by omega)];simp] at bf
  refine bq (f:=298) Tryz.func298 rfl rfl rfl rfl ?_;(repeat first|refine db ?_|refine fA ?_|(with_reducible apply bT (c:=false));rfl;rfl;(exact cm (by omega)))
  ((refine bm rfl (aZ rfl aM) ?_))
  exact ag.aV.refl _
def VX(D:List Int)(n:Nat)(az:List (Nat×ag))(aU:List (Nat×List AC)):Prop :=
 ∃(i:Nat) (ii:Int),i≤D.length∧n=D.length-i∧ii=i∧(D.take i).all (fun d=>decide (1≤d∧d≤1048576))=true∧aU=[]∧az=[(5,nJ D),(6,aL D.length),(7,aL ii)]
theorem aht{D:List Int}(aa:D.length≤100000):aO ah 300 [nJ D] (bl (D.all fun d=>decide (1≤d∧d≤1048576))):=by
 refine bq (f:=300) Tryz.func300 rfl rfl rfl rfl ?_;(refine fs ?_);refine qJ 18 (VX D) D.length _ [] ⟨0,0,dy _,rfl,rfl,rfl,rfl,rfl⟩ rfl ⟨rfl,rfl,rfl,trivial⟩ trivial rfl ?_;rintro n az aU ⟨i,ii,hi,rfl,er,wy,rfl,rfl⟩ bE;clear bE
 by_cases aj:i<D.length
 ·have q2:ii<(D.length:Int):=by omega
  have q3:0≤ii:=by omega
  obtain⟨d,g1⟩:∃d,D[i]?=some d:=⟨_,bG aj⟩;have hx:=wR er g1
  have aD:D.take (i+1)=D.take i++[d]:=by
   rw[ls aj,(br.1 g1).2]
  have no:¬(1≤d∧d≤1048576)→(D.all fun d=>decide (1≤d∧d≤1048576))=false:=fun h =>
   List.all_eq_false.2 ⟨d,cP g1,by rw[cm h];decide⟩
  by_cases c1:d<1
  ·rw[no (by omega)];(repeat first|refine db ?_|(with_reducible apply bT (c:=true));rfl;rfl;(exact ca (by omega)))
   ((refine bm rfl (aZ rfl aM) ?_))
   exact ag.aV.refl _
  ·by_cases c2:d>1048576
   ·rw[no (by omega)];(repeat first|refine db ?_|(with_reducible apply bT (c:=false));rfl;rfl;(exact cm (by omega)))
    ((refine bm rfl (aZ rfl aM) ?_))
    exact ag.aV.refl _
   ·have e:(D.take (i+1)).all (fun d=>decide (1≤d∧d≤1048576))=true:=by
     rw[aD,List.all_append,wy];simp;omega
    (repeat first|refine db ?_|(with_reducible apply bT (c:=false));rfl;rfl;(exact cm (by omega)));exact⟨D.length-(i+1),_,[],by omega,⟨i+1,ii+1,by omega,rfl,by omega,e,rfl,rfl⟩,rfl,⟨rfl,rfl,rfl,trivial⟩,trivial,rfl⟩
 ·have q2:¬ii<(D.length:Int):=by omega
  rw[gV (by omega)] at wy;rw[wy];(refine fs ?_)
  ((refine bm rfl (aZ rfl aM) ?_))
  exact ag.aV.refl _
def B4(p q:aq):Bool:=dG p.1 p.2 q.1 q.2
def Lr(p q:aq):Bool:=decide (q.1>p.1)
def Ku(p q:aq):Bool:=decide (q.1<p.1)
def L9(p q:aq):Bool:=decide (q.2>p.2)
def Ie(p q:aq):Bool:=decide (q.2<p.2)
def th(V:List aq):Bool := !fJ B4 V&&(!(fJ Lr V&&fJ Ku V) && !(fJ L9 V&&fJ Ie V))
def Ww(V:List aq)(n:Nat)(az:List (Nat×ag))(aU:List (Nat×List AC)):Prop :=
 ∃(i:Nat) (ii:Int) (b1 b2 dF dc:Bool),n=V.length+1-i∧ii=i∧1≤i∧i≤V.length+1∧fJ B4 (V.take i)=false∧fJ Lr (V.take i)=b1∧fJ Ku (V.take i)=b2∧fJ L9 (V.take i)=dF∧fJ Ie (V.take i)=dc∧aU=[]∧az=[(0,gr V),(3,bl b1),(4,bl b2),(5,bl dF),(6,bl dc),(7,aL ii)]
theorem ahR{V:List aq}(aa:V.length≤100000):aO ah 299 [gr V] (bl (th V)):=by
 refine bq (f:=299) Tryz.func299 rfl rfl rfl rfl ?_;(refine fs ?_);refine qJ 72 (Ww V) (V.length+1-1) _ [] ⟨1,1,false,false,false,false,rfl,rfl,cH _,by omega,Ag V,Ag V,Ag V,Ag V,Ag V,rfl,rfl⟩ rfl ⟨rfl,rfl,rfl,rfl,rfl,rfl,trivial⟩ trivial rfl ?_;rintro n az aU ⟨i,ii,b1,b2,dF,dc,rfl,er,ej,hi,aF,h1,h2,ar,aK,rfl,rfl⟩ bE;clear bE
 by_cases aj:i<V.length
 ·have q2:ii<(V.length:Int):=by omega
  have q3:0≤ii:=by omega
  have q4:0≤ii-1:=by omega
  have ra:ii-1<(V.length:Int):=by omega
  have w1:IntKind.i64.wrap (ii-1)=ii-1:=jd (by omega);obtain⟨k,rfl⟩:∃k,i=k+1:=⟨i-1,by omega⟩;obtain⟨x,y,g1⟩:∃x y,V[k]?=some (x,y):=⟨_,_,bG (by omega)⟩;obtain⟨z,w,g2⟩:∃z w,V[k+1]?=some (z,w):=⟨_,_,bG aj⟩;have hx:=p7 (j:=ii-1) (i:=k) (by omega) g1;have zF:=p7 er g2;have eF:=Ah (c:=B4) g1 g2;have s1:=Ah (c:=Lr) g1 g2;have s2:=Ah (c:=Ku) g1 g2;have bV:=Ah (c:=L9) g1 g2;have b6:=Ah (c:=Ie) g1 g2;rw[aF] at eF;rw[h1] at s1;rw[h2] at s2;rw[ar] at bV;rw[aK] at b6;cases he:dG x y z w with
  | true =>
   have e:th V=false:=by
    unfold th;rw[YC (c:=B4) (V:=V) (k:=k+2) (by rw[eF];exact he)];rfl
   rw[e];clear eF s1 s2 bV b6 aF h1 h2 ar aK;(refine fs ?_)
   ((refine bm rfl (aZ rfl aM) ?_))
   exact ag.aV.refl _
  | false =>
   have cy:fJ B4 (V.take (k+2))=false:=by rw[eF];exact he
   clear eF aF h1 h2 ar aK;cases b1 <;> cases b2 <;> cases dF <;> cases dc
   all_goals
    (refine fs ?_);exact⟨V.length+1-(k+2),_,[],by omega,⟨k+2,ii+1,_,_,_,_,rfl,by omega,by omega,by omega,cy,s1,s2,bV,b6,rfl,rfl⟩,rfl,⟨rfl,rfl,rfl,rfl,rfl,rfl,trivial⟩,trivial,rfl⟩
 ·have q2:¬ii<(V.length:Int):=by omega
  rw[gV (by omega)] at aF h1 h2 ar aK;have e:th V=(!(b1&&b2) && !(dF&&dc)):=by unfold th;rw[aF,h1,h2,ar,aK];rfl
  rw[e];clear aF h1 h2 ar aK e;cases b1 <;> cases b2 <;> cases dF <;> cases dc
  all_goals
   (refine fs ?_)
   ((refine bm rfl (aZ rfl aM) ?_))
   exact ag.aV.refl _
theorem ajA{r:Nat}{V:List aq}{D:List Int}:xl r V D=(decide (0<V.length)&&((V.all fun v=>dU r v.1 v.2)&&(th V&&(decide ((D.length:Int)=(V.length:Int)-1)&&D.all fun d=>decide (1≤d∧d≤1048576))))):=by
 have key:xm r V D↔(decide (0<V.length)&&((V.all fun v=>dU r v.1 v.2)&&(th V&&(decide ((D.length:Int)=(V.length:Int)-1)&&D.all fun d=>decide (1≤d∧d≤1048576)))))=true:=by
  rw[ajC];unfold th;simp only[eb,cS,b5,tQ,Bool.and_eq_false_iff]
  constructor
  ·rintro⟨g1,g2,g3,g4,g5,g6,g7⟩;exact⟨by cases V <;> simp_all,g3,⟨g4,g6.symm,g7.symm⟩,by omega,g5⟩
  ·rintro⟨g1,g3,⟨g4,g6,g7⟩,g2,g5⟩;exact⟨fun h=>by simp[h] at g1,by omega,g3,g4,g5,g6.symm,g7.symm⟩
 by_cases h:xm r V D
 ·rw[Ul h];exact(key.1 h).symm
 ·rw[ajB h];cases aa:(decide (0<V.length)&&((V.all fun v=>dU r v.1 v.2)&&(th V&&(decide ((D.length:Int)=(V.length:Int)-1)&&D.all fun d=>decide (1≤d∧d≤1048576))))) with
  | false=>rfl
  | true=>exact absurd (key.2 aa) h
theorem T3{V:List aq}{D:List Int}{k:Int}{b1 b2 dc:Bool}(aa:V.length≤1100)(bc:aO ah 298 [gr V,aL k] (bl b1))(bP:aO ah 299 [gr V] (bl b2))(jN:aO ah 300 [nJ D] (bl dc)):aO ah 258 [pw V D,aL k] (bl (b1&&(b2&&(decide ((D.length:Int)=(V.length:Int)-1)&&dc)))):=by
 by_cases q:(D.length:Int)=(V.length:Int)-1
 ·rw[ca q];cases b1 <;> cases b2 <;> cases dc
  all_goals
   refine bq (f:=258) Tryz.func258 rfl rfl rfl rfl ?_;(repeat first|refine db ?_|refine fA ?_|(with_reducible apply bT (c:=true));rfl;rfl;(exact ca (by omega)))
   ((refine bm rfl (aZ rfl aM) ?_))
   exact ag.aV.refl _
 ·rw[cm q];cases b1 <;> cases b2
  all_goals
   simp only[Bool.false_and,Bool.and_false,pr];clear jN;refine bq (f:=258) Tryz.func258 rfl rfl rfl rfl ?_;(repeat first|refine db ?_|refine fA ?_|(with_reducible apply bT (c:=false));rfl;rfl;(exact cm (by omega)))
   ((refine bm rfl (aZ rfl aM) ?_))
   exact ag.aV.refl _
theorem aev:Mv:=by
 intro V D r ao aa hd jX o9;rw[ajA];have bP:=ahR (V:=V) (by omega);have jN:=aht (D:=D) (by omega)
 by_cases h:0<V.length
 ·rw[ca h,pr];exact T3 aa (ahv ao h (by omega)) bP jN
 ·rw[cm h,Bool.false_and];have:=T3 aa (ahu (k:=(r:Int)) (.inl (by omega))) bP jN;rwa [Bool.false_and] at this
end Go.Proofs.YtklpfooafbjnpaaGreat
