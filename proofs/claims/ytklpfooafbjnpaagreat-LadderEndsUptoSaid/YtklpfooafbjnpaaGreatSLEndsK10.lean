/-
  My own texts,without what this claim does not need. My own text.
-/
import Derived.Laws.BytesArg
import Derived.Test.YtklpfooafbjnpaaGreatSLEndsK9
set_option maxRecDepth 100000
set_option maxHeartbeats 64000000
set_option linter.unusedVariables false
set_option linter.unusedSimpArgs false
set_option linter.unusedSectionVars false
open Go.Proofs.Tryz renaming prog → ah
namespace Go.Proofs.YtklpfooafbjnpaaGreat
open Go.RowKit
theorem Tb{n m:Int}(aF : -9223372036854775808≤n)(h1:n<9223372036854775808)(e0 : -9223372036854775808≤m)(bB:m<9223372036854775808):aO ah 246 [aL n,aL m] (gA (n*m)):=by
 have bc:=vk aF h1;have bP:=vk e0 bB;have ec:=ahh (OP aF h1) (OP e0 bB);rw[xD (ak4 aF h1 e0 bB)] at ec;clear aF h1 e0 bB;refine bq (f:=246) Tryz.func246 rfl rfl rfl rfl ?_;(refine cQ ?_)
 ((refine bm rfl (c8 rfl rfl rfl aM) ?_))
 exact ag.aV.refl _
theorem aad(a b c d a' cE c' d':Int)(W:World):(Op.equalIn 10000 237 (.agg #[.int .i64 a,.int .i64 b,.int .i64 c,.int .i64 d]) (.agg #[.int .i64 a',.int .i64 cE,.int .i64 c',.int .i64 d'])).run ah W = .ok (wm a b c d a' cE c' d') W:=by
 unfold wm dG
 go_simp
 by_cases h1:a=a' <;> by_cases h2:b=cE <;> by_cases ar:c=c' <;> by_cases aK:d=d' <;> simp[h1,h2,ar,aK]
instance amY:My ah 237:=⟨by kernel_rfl,aad⟩
theorem aio{a b c d:Int}:(qi a b c d>0↔¬dI a b c d):=by
 unfold qi dI;cases h:dG a b c d with
 | true=>rw[tc] at h;rw[if_pos rfl];omega
 | false =>
  have:¬(a=c∧b=d):=fun k=>by rw[tc.2 k] at h;cases h
  rw[if_neg (by simp)]
  split <;> omega
theorem K3{a1 a2 b1 b2:Int}:aO ah 241 [bn a1 a2,bn b1 b2] (.cd [.agg [.c (.int .i64 (eV a1 a2 b1 b2)),.c (.int .i64 (eE a1 a2 b1 b2))],.agg [.c (.int .i64 (ej a1 a2 b1 b2)),.c (.int .i64 (ee a1 a2 b1 b2))]]):=by
 have bc:=aib (a:=a1) (b:=a2) (c:=b1) (d:=b2);have h:=aio (a:=a1) (b:=a2) (c:=b1) (d:=b2)
 have cs:(qi a1 a2 b1 b2>0∧eV a1 a2 b1 b2=b1∧eE a1 a2 b1 b2=b2∧ej a1 a2 b1 b2=a1∧ee a1 a2 b1 b2=a2)∨(¬qi a1 a2 b1 b2>0∧eV a1 a2 b1 b2=a1∧eE a1 a2 b1 b2=a2∧ej a1 a2 b1 b2=b1∧ee a1 a2 b1 b2=b2):=by
  rw[h];unfold eV eE ej ee
  by_cases k:dI a1 a2 b1 b2 <;> simp[k]
 clear h;generalize eV a1 a2 b1 b2=l1 at *;generalize eE a1 a2 b1 b2=l2 at *;generalize ej a1 a2 b1 b2=h1 at *;generalize ee a1 a2 b1 b2=h2 at *;generalize qi a1 a2 b1 b2=c at *;rcases cs with ⟨q,rfl,rfl,rfl,rfl⟩|⟨q,rfl,rfl,rfl,rfl⟩
 all_goals
  refine bq (f:=241) Tryz.func241 rfl rfl rfl rfl ?_;(refine cQ ?_)
  ((refine bm rfl (c8 rfl rfl rfl (c8 rfl rfl rfl aM)) ?_))
  exact ag.aV.refl _
theorem F7{a1 a2 b1 b2:Int}:aO ah 186 [bn a1 a2,bn b1 b2] (kd (eV a1 a2 b1 b2) (eE a1 a2 b1 b2) (ej a1 a2 b1 b2) (ee a1 a2 b1 b2)):=by
 have bc:=K3 (a1:=a1) (a2:=a2) (b1:=b1) (b2:=b2);generalize eV a1 a2 b1 b2=l1 at *;generalize eE a1 a2 b1 b2=l2 at *;generalize ej a1 a2 b1 b2=h1 at *;generalize ee a1 a2 b1 b2=h2 at *;refine bq (f:=186) Tryz.func186 rfl rfl rfl rfl ?_;(refine cQ ?_)
 ((refine bm rfl (c8 rfl rfl rfl aM) ?_))
 exact ag.aV.refl _
theorem F6{s1 s2 bV b6 p1 p2:Int}(h1:eC s1 s2=true)(h2:eC bV b6=true)(ar:eC p1 p2=true):aO ah 187 [kd s1 s2 bV b6,bn p1 p2] (aL (cn s1 s2 bV b6 p1 p2)):=by
 have bc:=SF h1 h2 ar;clear h1 h2 ar;generalize cn s1 s2 bV b6 p1 p2=c at *;refine bq (f:=187) Tryz.func187 rfl rfl rfl rfl ?_;(refine cQ ?_)
 ((refine bm rfl (aZ rfl aM) ?_))
 exact ag.aV.refl _
theorem agJ{s1 s2 bV b6 p1 p2:Int}(h1:eC s1 s2=true)(h2:eC bV b6=true)(ar:eC p1 p2=true):F0 p1 p2 s1 s2 bV b6=decide (dE p1 p2 s1 s2 bV b6):=by
 rw[oN,cS];unfold F0 dE tC;rw[h1,h2,ar];simp only[pr,eb,cS,abk]
 constructor
 ·rintro⟨⟨a,b,c,d⟩,e⟩;exact⟨e,a,b,c,d⟩
 ·rintro⟨e,a,b,c,d⟩;exact⟨⟨a,b,c,d⟩,e⟩
theorem SR{s1 s2 bV b6 p1 p2:Int}(h1:eC s1 s2=true)(h2:eC bV b6=true)(ar:eC p1 p2=true):aO ah 243 [kd s1 s2 bV b6,bn p1 p2] (bl (decide (dE p1 p2 s1 s2 bV b6))):=by
 have bc:=ahj (agJ h1 h2 ar);clear h1 h2 ar;generalize decide (dE p1 p2 s1 s2 bV b6)=c at *;refine bq (f:=243) Tryz.func243 rfl rfl rfl rfl ?_;(refine cQ ?_)
 ((refine bm rfl (aZ rfl aM) ?_))
 exact ag.aV.refl _
theorem S4{m n:Int}{r:Bool}(ao:decide (same m n)=r):aO ah 189 [aL m,aL n] (bl r):=by
 have cs:(m>0∧n>0∧r=true)∨(m>0∧¬n>0∧¬m<0∧r=false)∨(¬m>0∧m<0∧n<0∧r=true)∨(¬m>0∧m<0∧¬n<0∧r=false)∨(¬m>0∧¬m<0∧r=false):=by
  rw[←ao];unfold same
  by_cases h1:m>0 <;> by_cases h2:n>0 <;> by_cases ar:m<0 <;> by_cases aK:n<0 <;> simp[h1,h2,ar,aK] <;> omega
 clear ao;rcases cs with ⟨q1,q2,rfl⟩|⟨q1,q2,q3,rfl⟩|⟨q1,q2,q3,rfl⟩|⟨q1,q2,q3,rfl⟩|⟨q1,q2,rfl⟩
 all_goals
  refine bq (f:=189) Tryz.func189 rfl rfl rfl rfl ?_;(repeat first|refine db ?_|(with_reducible apply bT (c:=true));rfl;rfl;(exact ca (by omega))|(with_reducible apply bT (c:=false));rfl;rfl;(exact cm (by omega)))
  ((refine bm rfl (aZ rfl aM) ?_))
  first|exact ag.aV.refl _|exact ag.aV.of_eq (by rw[ca q2];rfl)|exact ag.aV.of_eq (by rw[ca q3];rfl)|exact ag.aV.of_eq (by rw[cm q3];rfl)
theorem DR{x A:Int}(h1 : -134217728≤x)(h2:x≤134217728)(ar : -144115188075855872≤A)(aK:A≤144115188075855872) : -19342813113834066795298816≤x*A∧x*A≤19342813113834066795298816:=by
 have:=KL h1 h2 ar aK;omega
theorem Tc{l h A B n d:Int}(cz:A≠B)(mf : -134217728≤l)(l1:l≤134217728)(aF : -134217728≤h)(h1:h≤134217728)(aP : -144115188075855872≤A)(dJ:A≤144115188075855872)(aH : -144115188075855872≤B)(dY:B≤144115188075855872)(aA:kw (h*A-l*B) (A-B)=n)(hd:jy (A-B)=d):aO ah 190 [aL l,aL h,aL A,aL B] (fv n d):=by
 have b1:=DR aF h1 aP dJ;have b2:=DR mf l1 aH dY;have sW:=Tb (n:=h) (m:=A) (by omega) (by omega) (by omega) (by omega);have zZ:=Tb (n:=l) (m:=B) (by omega) (by omega) (by omega) (by omega);have f1:fits (h*A)=true:=by unfold fits;rw[cS];omega
 have f2:fits (l*B)=true:=by unfold fits;rw[cS];omega
 have f3:fits (h*A-l*B)=true:=by unfold fits;rw[cS];omega
 have f4:fits (A-B)=true:=by unfold fits;rw[cS];omega
 have Xm:=Ta f1 f2;have Xn:=vk (n:=A-B) (by omega) (by omega);simp only[wf,f3,if_true] at Xm
 have Xo:aO ah 247 [gA (h*A-l*B),gA (A-B)] (.cd [Ep n d,.one (.c (.bool true))]):=by
  by_cases q:A-B<0
  ·unfold kw at aA;unfold jy at hd;rw[if_pos q] at aA hd;have g1:fits (-(h*A-l*B))=true:=by unfold fits;rw[cS];omega
   have g2:fits (-(A-B))=true:=by unfold fits;rw[cS];omega
   exact aha f3 f4 q (s:=true) (by rw[g1,g2];rfl) (by rw[if_pos rfl,aA]) (by rw[if_pos rfl,hd])
  ·unfold kw at aA;unfold jy at hd;rw[if_neg q] at aA hd;have:=ahb f3 f4 (by omega);rw[aA,hd] at this;rw[aA,hd];exact this
 obtain⟨D,e4⟩:∃D,A-B=D:=⟨_,rfl⟩;have w1:IntKind.i64.wrap (A-B)=D:=by rw[←e4];exact jd (by omega)
 rw[e4] at Xn Xo;clear f1 f2 f3 f4 b1 b2 aA hd e4 aP dJ aH dY cz;generalize h*A-l*B=X at *;generalize h*A=Y at *;generalize l*B=Z at *;refine bq (f:=190) Tryz.func190 rfl rfl rfl rfl ?_;(refine cQ ?_)
 ((refine bm rfl (c8 rfl rfl rfl aM) ?_))
 exact ag.aV.refl _
instance amZ:Da ah 184 0 0 false 1:=⟨by kernel_rfl⟩
abbrev alm(k n d m e p1 p2 q1 q2:Int):ag := .w (.agg [.c (.int .i64 k),.c (.int .i64 (cw n)),.c (.int .u64 (dO n)),.c (.int .i64 (cw d)),.c (.int .u64 (dO d)),.c (.int .i64 (cw m)),.c (.int .u64 (dO m)),.c (.int .i64 (cw e)),.c (.int .u64 (dO e)),.c (.int .i64 p1),.c (.int .i64 p2),.c (.int .i64 q1),.c (.int .i64 q2)])
abbrev px(M:fR):ag:=alm M.k M.n M.d M.m M.e M.p1 M.p2 M.q1 M.q2
theorem adT{s1 s2 bV b6 t1 t2 t3 t4 f1 f2 g1 g2 da de jJ mr:Int}{p q:Bool}{M:fR}
  (Hp:aO ah 241 [bn s1 s2,bn t1 t2] (.cd [.agg [.c (.int .i64 da),.c (.int .i64 de)],.agg [.c (.int .i64 f1),.c (.int .i64 f2)]]))
  (WY:aO ah 241 [bn bV b6,bn t3 t4] (.cd [.agg [.c (.int .i64 g1),.c (.int .i64 g2)],.agg [.c (.int .i64 jJ),.c (.int .i64 mr)]]))
  (H1:aO ah 243 [kd s1 s2 bV b6,bn f1 f2] (bl p)) (dD:aO ah 243 [kd t1 t2 t3 t4,bn f1 f2] (bl q))
  (k8:aO ah 244 [aL f1] (fv f1 1)) (pB:aO ah 244 [aL f2] (fv f2 1))
  (fY:(if (p&&q)=true then wS f1 f2 g1 g2 else iL)=M):aO ah 188 [kd s1 s2 bV b6,kd t1 t2 t3 t4] (px M):=by
 unfold wS at fY;have hp:(f1=g1∧f2=g2)↔dG f1 f2 g1 g2=true:=tc.symm
 have cs:(p=false∧M=iL)∨(p=true∧q=false∧M=iL)∨(p=true∧q=true∧dG f1 f2 g1 g2=true∧M=j5 f1 1 f2 1)∨(p=true∧q=true∧dG f1 f2 g1 g2=false∧M=uv f1 f2 g1 g2):=by
  rw[←fY];cases aj:dG f1 f2 g1 g2 <;> rw[aj] at hp <;> cases p <;> cases q <;> simp[hp]
 clear fY hp;refine bq (f:=188) Tryz.func188 rfl rfl rfl rfl ?_;(refine cQ ?_);clear Hp WY;rcases cs with ⟨rfl,rfl⟩|⟨rfl,rfl,rfl⟩|⟨rfl,rfl,h,rfl⟩|⟨rfl,rfl,h,rfl⟩
 all_goals
  (refine cQ ?_)
  ((refine bm rfl (c8 rfl rfl rfl aM) ?_))
  first|exact ag.aV.refl _|exact ag.aV.of_eq (by simp only[iL,yn,yI];rfl)|exact ag.aV.of_eq (by simp only[uv,yn,yI];rfl)
theorem Ll{a1 a2 b1 b2:Int}(h:c4 a1 a2=true)(k:c4 b1 b2=true):c4 (ej a1 a2 b1 b2) (ee a1 a2 b1 b2)=true:=by
 rcases oB a1 a2 b1 b2 with ⟨_,_,ar,aK,_⟩|⟨_,_,ar,aK,_⟩ <;> rw[ar,aK] <;> assumption
theorem TG{a1 a2 b1 b2:Int}(h:c4 a1 a2=true)(k:c4 b1 b2=true):c4 (eV a1 a2 b1 b2) (eE a1 a2 b1 b2)=true:=by
 rcases oB a1 a2 b1 b2 with ⟨ar,aK,_⟩|⟨ar,aK,_⟩ <;> rw[ar,aK] <;> assumption
theorem ahV{s1 s2 bV b6 t1 t2 t3 t4:Int}(h1:c4 s1 s2=true)(h2:c4 bV b6=true)(ar:c4 t1 t2=true)(aK:c4 t3 t4=true):aO ah 188 [kd s1 s2 bV b6,kd t1 t2 t3 t4] (px (inl s1 s2 bV b6 t1 t2 t3 t4)):=by
 have ay:=Ll h1 ar;have aa:=tY.1 ay;refine adT K3 K3 (SR (ml h1) (ml h2) (ml ay)) (SR (ml ar) (ml aK) (ml ay)) (SM (by omega) (by omega)) (SM (by omega) (by omega)) ?_;unfold inl;exact BK (by rw[eb,cS,cS])
theorem ahz{a1 a2 b1 b2 c1 c2 d1 d2:Int}(h:(c4 a1 a2&&c4 b1 b2&&c4 c1 c2&&c4 d1 d2)=false):aO ah 133 [bn a1 a2,bn b1 b2,bn c1 c2,bn d1 d2] (px iL):=by
 have bf:=qg (x:=a1) (y:=a2) rfl;have dL:=qg (x:=b1) (y:=b2) rfl;have lB:=qg (x:=c1) (y:=c2) rfl;have rJ:=qg (x:=d1) (y:=d2) rfl
 have cs:c4 a1 a2=false∨(c4 a1 a2=true∧c4 b1 b2=false)∨(c4 a1 a2=true∧c4 b1 b2=true∧c4 c1 c2=false)∨(c4 a1 a2=true∧c4 b1 b2=true∧c4 c1 c2=true∧c4 d1 d2=false):=by
  generalize c4 a1 a2=cr at *;generalize c4 b1 b2=dK at *;generalize c4 c1 c2=ka at *;generalize c4 d1 d2=sC at *;cases cr <;> cases dK <;> cases ka <;> cases sC <;> simp_all
 clear h;rcases cs with h1|⟨h1,h2⟩|⟨h1,h2,ar⟩|⟨h1,h2,ar,aK⟩ <;> simp only[*] at bf dL lB rJ
 all_goals
  refine bq (f:=133) Tryz.func133 rfl rfl rfl rfl ?_;(refine cQ ?_)
  ((refine bm rfl (c8 rfl rfl rfl aM) ?_))
  exact ag.aV.of_eq (by simp only[iL,yn,yI];rfl)
theorem Zo{a1 a2 b1 b2 c1 c2 d1 d2 s1 s2 bV b6 t1 t2 t3 t4 A B C D n d m e:Int}{x y:Bool}{I M:fR}
  (bf:aO ah 185 [bn a1 a2] (bl true)) (dL:aO ah 185 [bn b1 b2] (bl true)) (lB:aO ah 185 [bn c1 c2] (bl true)) (rJ:aO ah 185 [bn d1 d2] (bl true))
  (dY:aO ah 186 [bn a1 a2,bn b1 b2] (kd s1 s2 bV b6)) (oU:aO ah 186 [bn c1 c2,bn d1 d2] (kd t1 t2 t3 t4))
  (kg:aO ah 187 [kd s1 s2 bV b6,bn t1 t2] (aL A)) (sT:aO ah 187 [kd s1 s2 bV b6,bn t3 t4] (aL B))
  (xR:aO ah 187 [kd t1 t2 t3 t4,bn s1 s2] (aL C)) (zW:aO ah 187 [kd t1 t2 t3 t4,bn bV b6] (aL D))
  (vP:aO ah 189 [aL A,aL B] (bl x)) (MF:aO ah 189 [aL C,aL D] (bl y))
  (L:aO ah 188 [kd s1 s2 bV b6,kd t1 t2 t3 t4] (px I))
  (z6:A≠B→aO ah 190 [aL t1,aL t3,aL A,aL B] (fv n d)) (z7:A≠B→aO ah 190 [aL t2,aL t4,aL A,aL B] (fv m e))
  (fY:(if A=B then I else if (x||y)=true then iL else j5 n d m e)=M):aO ah 133 [bn a1 a2,bn b1 b2,bn c1 c2,bn d1 d2] (px M):=by
 have cs:(A=B∧M=I)∨(¬A=B∧x=true∧M=iL)∨(¬A=B∧x=false∧y=true∧M=iL)∨(¬A=B∧x=false∧y=false∧M=j5 n d m e):=by
  rw[←fY]
  by_cases h:A=B
  ·simp[h]
  ·cases x <;> cases y <;> simp[h]
 clear fY;refine bq (f:=133) Tryz.func133 rfl rfl rfl rfl ?_;(refine cQ ?_);clear bf dL lB rJ dY oU kg sT;rcases cs with ⟨h,rfl⟩|⟨h,rfl,rfl⟩|⟨h,rfl,rfl,rfl⟩|⟨h,rfl,rfl,rfl⟩
 ·clear z6 z7;(refine cQ ?_)
  ((refine bm rfl (c8 rfl rfl rfl aM) ?_))
  exact ag.aV.refl _
 ·clear z6 z7;(refine cQ ?_)
  ((refine bm rfl (c8 rfl rfl rfl aM) ?_))
  exact ag.aV.of_eq (by simp only[iL,yn,yI];rfl)
 ·clear z6 z7;(refine cQ ?_)
  ((refine bm rfl (c8 rfl rfl rfl aM) ?_))
  exact ag.aV.of_eq (by simp only[iL,yn,yI];rfl)
 ·have alL:=z6 h;have alM:=z7 h;clear z6 z7;(refine cQ ?_)
  ((refine bm rfl (c8 rfl rfl rfl aM) ?_))
  exact ag.aV.refl _
theorem FP{x y:Int}(h1 : -268435456≤x)(h2:x≤268435456)(ar : -268435456≤y)(aK:y≤268435456) : -72057594037927936≤x*y∧x*y≤72057594037927936:=by
 have:=KL h1 h2 ar aK;omega
theorem N6{o1 o2 a1 a2 b1 b2:Int}(h1:c4 o1 o2=true)(h2:c4 a1 a2=true)(ar:c4 b1 b2=true) : -144115188075855872≤cn o1 o2 a1 a2 b1 b2∧cn o1 o2 a1 a2 b1 b2≤144115188075855872:=by
 rw[tY] at h1 h2 ar;have m1:=FP (x:=a1-o1) (y:=b2-o2) (by omega) (by omega) (by omega) (by omega);have m2:=FP (x:=a2-o2) (y:=b1-o1) (by omega) (by omega) (by omega) (by omega);unfold cn;omega
def si(a1 a2 b1 b2 c1 c2 d1 d2:Int):fR:=if (c4 a1 a2&&c4 b1 b2&&c4 c1 c2&&c4 d1 d2)=true then jh a1 a2 b1 b2 c1 c2 d1 d2 else iL
theorem ahA{a1 a2 b1 b2 c1 c2 d1 d2:Int}(aX:c4 a1 a2=true)(aa:c4 b1 b2=true)(ak:c4 c1 c2=true)(hd:c4 d1 d2=true):aO ah 133 [bn a1 a2,bn b1 b2,bn c1 c2,bn d1 d2] (px (jh a1 a2 b1 b2 c1 c2 d1 d2)):=by
 have bf:=qg aX;have dL:=qg aa;have lB:=qg ak;have rJ:=qg hd;have dY:=F7 (a1:=a1) (a2:=a2) (b1:=b1) (b2:=b2);have oU:=F7 (a1:=c1) (a2:=c2) (b1:=d1) (b2:=d2);have q1:=TG aX aa;have q2:=Ll aX aa;have q3:=TG ak hd;have q4:=Ll ak hd;have l1:=yF a1 a2 b1 b2;have l2:=yF c1 c2 d1 d2;rw[←afJ];generalize eV a1 a2 b1 b2=s1 at *;generalize eE a1 a2 b1 b2=s2 at *;generalize ej a1 a2 b1 b2=bV at *;generalize ee a1 a2 b1 b2=b6 at *;generalize eV c1 c2 d1 d2=t1 at *;generalize eE c1 c2 d1 d2=t2 at *;generalize ej c1 c2 d1 d2=t3 at *;generalize ee c1 c2 d1 d2=t4 at *;have bB:=N6 q1 q2 q3;have cl:=N6 q1 q2 q4;have i3:=tY.1 q3;have i4:=tY.1 q4
 refine Zo bf dL lB rJ dY oU (F6 (ml q1) (ml q2) (ml q3)) (F6 (ml q1) (ml q2) (ml q4)) (F6 (ml q3) (ml q4) (ml q1)) (F6 (ml q3) (ml q4) (ml q2)) (S4 rfl) (S4 rfl) (ahV q1 q2 q3 q4)
  (fun cz=>Tc cz i3.1.1 i3.1.2 i4.1.1 i4.1.2 bB.1 bB.2 cl.1 cl.2 rfl rfl) (fun cz=>Tc cz i3.2.1 i3.2.2 i4.2.1 i4.2.2 bB.1 bB.2 cl.1 cl.2 rfl rfl) ?_
 rw[←afI l1 l2];unfold KA
 by_cases h:cn s1 s2 bV b6 t1 t2=cn s1 s2 bV b6 t3 t4
 ·rw[if_pos h,if_pos h]
 ·rw[if_neg h,if_neg h];exact BK (by rw[pk,cS,cS])
theorem K1{a1 a2 b1 b2 c1 c2 d1 d2:Int}:aO ah 133 [bn a1 a2,bn b1 b2,bn c1 c2,bn d1 d2] (px (si a1 a2 b1 b2 c1 c2 d1 d2)):=by
 unfold si
 by_cases h:(c4 a1 a2&&c4 b1 b2&&c4 c1 c2&&c4 d1 d2)=true
 ·rw[if_pos h];simp only[eb] at h;exact ahA h.1.1.1 h.1.1.2 h.1.2 h.2
 ·rw[if_neg h];exact ahz (by simpa using h)
def Iu(M:fR)(a1 a2 b1 b2 c1 c2 d1 d2:Int):Bool :=
 if M.k=1 then dG a1 a2 c1 c2||dG a1 a2 d1 d2||dG b1 b2 c1 c2||dG b1 b2 d1 d2
 else if M.k=2 then wm (eV a1 a2 b1 b2) (eE a1 a2 b1 b2) (ej a1 a2 b1 b2) (ee a1 a2 b1 b2) (eV c1 c2 d1 d2) (eE c1 c2 d1 d2) (ej c1 c2 d1 d2) (ee c1 c2 d1 d2)
 else true
theorem YV{a1 a2 b1 b2 c1 c2 d1 d2 s1 s2 bV b6 t1 t2 t3 t4:Int}{M:fR}{r:Bool}(bc:aO ah 133 [bn a1 a2,bn b1 b2,bn c1 c2,bn d1 d2] (px M))
  (dY:aO ah 186 [bn a1 a2,bn b1 b2] (kd s1 s2 bV b6)) (oU:aO ah 186 [bn c1 c2,bn d1 d2] (kd t1 t2 t3 t4))
  (ao:(if M.k=1 then dG a1 a2 c1 c2||dG a1 a2 d1 d2||dG b1 b2 c1 c2||dG b1 b2 d1 d2 else if M.k=2 then wm s1 s2 bV b6 t1 t2 t3 t4 else true)=r):aO ah 201 [bn a1 a2,bn b1 b2,bn c1 c2,bn d1 d2] (bl r):=by
 obtain⟨k,n,d,m,e,p1,p2,q1,q2⟩:=M;simp only at ao bc
 have cs:(k=1∧dG a1 a2 c1 c2=true∧r=true)∨(k=1∧dG a1 a2 c1 c2=false∧dG a1 a2 d1 d2=true∧r=true)∨(k=1∧dG a1 a2 c1 c2=false∧dG a1 a2 d1 d2=false∧dG b1 b2 c1 c2=true∧r=true)∨(k=1∧dG a1 a2 c1 c2=false∧dG a1 a2 d1 d2=false∧dG b1 b2 c1 c2=false∧r=dG b1 b2 d1 d2)∨(¬k=1∧k=2∧r=wm s1 s2 bV b6 t1 t2 t3 t4)∨(¬k=1∧¬k=2∧r=true):=by
  rw[←ao]
  by_cases h1:k=1
  ·rw[if_pos h1];cases dG a1 a2 c1 c2 <;> cases dG a1 a2 d1 d2 <;> cases dG b1 b2 c1 c2 <;> simp[h1]
  ·rw[if_neg h1]
   by_cases h2:k=2
   ·rw[if_pos h2];simp[h2]
   ·rw[if_neg h2];simp[h1,h2]
 clear ao;refine bq (f:=201) Tryz.func201 rfl rfl rfl rfl ?_;(refine cQ ?_);clear bc;rcases cs with ⟨h1,h2,rfl⟩|⟨h1,h2,ar,rfl⟩|⟨h1,h2,ar,aK,rfl⟩|⟨h1,h2,ar,aK,rfl⟩|⟨h1,h2,rfl⟩|⟨h1,h2,rfl⟩
 all_goals
  (repeat first|refine db ?_|refine fA ?_|(with_reducible apply bT (c:=true));rfl;rfl;(assumption)|(with_reducible apply bT (c:=false));rfl;rfl;(assumption))
  ((refine bm rfl (aZ rfl aM) ?_))
  first|exact ag.aV.refl _|exact ag.aV.of_eq (by rw[h2];rfl)|exact ag.aV.of_eq (by rw[ar];rfl)|exact ag.aV.of_eq (by rw[aK];rfl)
theorem ahy{a1 a2 b1 b2 c1 c2 d1 d2:Int}:aO ah 201 [bn a1 a2,bn b1 b2,bn c1 c2,bn d1 d2] (bl (Iu (si a1 a2 b1 b2 c1 c2 d1 d2) a1 a2 b1 b2 c1 c2 d1 d2)) :=
 YV K1 F7 F7 rfl
end Go.Proofs.YtklpfooafbjnpaaGreat
namespace Go.Proofs.YtklpfooafbjnpaaGreat.bH
abbrev bR:=aq×aq
def lM(r:Nat)(p:aq):aq:=(b7 p.1 r,b7 p.2 r)
abbrev lc:bR:=((0,0),(0,0))
def h6(a b:bR):fR:=jh a.1.1 a.1.2 a.2.1 a.2.2 b.1.1 b.1.2 b.2.1 b.2.2
def uF(a b:bR):Bool:=Iu (h6 a b) a.1.1 a.1.2 a.2.1 a.2.2 b.1.1 b.1.2 b.2.1 b.2.2
def jA(r:Nat)(M:fR):aq:=(fN (2^r) M.n M.d,fN (2^r) M.m M.e)
def Am(r:Nat)(p:aq):aq:=(2^r*p.1,2^r*p.2)
def gN(r:Nat)(l:aq×aq):bR:=(Am r l.1,Am r l.2)
def PP(r:Nat)(p q x:aq):Bool:=sj (2^r*p.1) (2^r*p.2) (2^r*q.1) (2^r*q.2) r x
def gi(p q:aq)(l:List aq):List aq:=sK (decide (q.1<p.1)) (decide (q.2<p.2)) (fun _=>true) l
def ta(r:Nat)(l m:aq×aq):Option aq:=if (h6 (gN r l) (gN r m)).k=1∧uF (gN r l) (gN r m)=false then some (jA r (h6 (gN r l) (gN r m))) else none
def xc(r:Nat)(a b:bR):Option aq:=if (h6 a b).k=1 then some (jA r (h6 a b)) else none
def q8(E:List bR)(r R:Nat):dh aq where
 E0:=PP r
 hq:=gi
 cut:=ta r
 n:=E.length
 P i:=lM r (E.getD i lc).1
 Q i:=lM r (E.getD i lc).2
 oJ i j:=xc r (E.getD i lc) (E.getD j lc)
 R:=R
 gB x:=dU r x.1 x.2=true
def gF(p:aq):Bool:=decide (-134217728≤p.1)&&decide (p.1<134217728)&&decide (-134217728≤p.2)&&decide (p.2<134217728)
def jw(E:List bR):Bool:=E.all fun e=>gF e.1&&gF e.2
theorem oe{p:aq}:gF p=true↔((-134217728≤p.1∧p.1<134217728) ∧ -134217728≤p.2∧p.2<134217728):=by
 unfold gF;simp only[eb,cS];omega
theorem qb{E:List bR}(h:jw E=true)(i:Nat):gF (E.getD i lc).1=true∧gF (E.getD i lc).2=true:=by
 rw[xh];cases he:E[i]? with
 | none=>exact⟨by decide,by decide⟩
 | some e =>
  have:=b5.1 h e (cP he);exact Bool.and_eq_true_iff.1 this
theorem EB(v:Int)(r:Nat):b7 v r=fN (2^r) v 1:=by
 unfold b7 fN;rw[Int.mul_one]
theorem y2{S X W X' W':Int}(hS:0<S)(ga:0<W)(A3:0<W')(h:X*W'≤X'*W):fN S X W≤fN S X' W':=by
 obtain⟨a1,a2⟩:=Gi hS ga X;obtain⟨b1,b2⟩:=Gi hS A3 X';generalize fN S X W=g at *;generalize fN S X' W'=cZ at *;refine Int.not_lt.1 fun bb => ?_;have h1:S*(cZ+1)≤S*g:=sB bb (by omega);rw[Int.mul_add,Int.mul_one] at h1;generalize S*g=G at *;generalize S*cZ=xH at *;have c1:(2*xH+S)*W≤(2*G-S)*W:=qo (by omega) (by omega);have c2:(2*xH+S)*W≤2*X:=by omega
 have iX:(2*xH+S)*W*W'≤2*X*W':=qo c2 (by omega);have Aj:2*X'*W<(2*xH+S)*W'*W:=Int.mul_lt_mul_of_pos_right b2 ga;have aI:(2*xH+S)*W*W'=(2*xH+S)*W'*W:=by rw[kW,kV W,←kW]
 have aN:2*X*W'=2*(X*W'):=kW ..;have cc:2*X'*W=2*(X'*W):=kW ..;omega
theorem CW{m lo hi x:Int}(h1:wi m lo=true)(h2:wi m hi=true)(ar:lo≤x)(aK:x≤hi):wi m x=true:=by
 unfold wi at *;simp only[eb,cS] at *;omega
theorem aak{r:Nat}(ao:r≤28):wi (134217728/2^r) (b7 (-134217728) r)=true∧wi (134217728/2^r) (b7 134217727 r)=true:=by
 have:r=0∨r=1∨r=2∨r=3∨r=4∨r=5∨r=6∨r=7∨r=8∨r=9∨r=10∨r=11∨r=12∨r=13∨r=14∨r=15∨r=16∨r=17∨r=18∨r=19∨r=20∨r=21∨r=22∨r=23∨r=24∨r=25∨r=26∨r=27∨r=28:=by omega
 rcases this with rfl|rfl|rfl|rfl|rfl|rfl|rfl|rfl|rfl|rfl|rfl|rfl|rfl|rfl|rfl|rfl|rfl|rfl|rfl|rfl|rfl|rfl|rfl|rfl|rfl|rfl|rfl|rfl|rfl <;> exact⟨by decide,by decide⟩
theorem Gj{r:Nat}(ao:r≤28){X W:Int}(ga:0<W)(h1 : -134217728*W≤X)(h2:X≤134217727*W):wi (134217728/2^r) (fN (2^r) X W)=true:=by
 have hS:(0:Int)<2^r:=jj (by decide);have g:=aak ao;rw[EB,EB] at g;exact CW g.1 g.2 (y2 hS (by decide) ga (by omega)) (y2 hS ga (by decide) (by omega))
theorem FU{r:Nat}(ao:r≤28){p:aq}(h:gF p=true):dU r (lM r p).1 (lM r p).2=true:=by
 have h:=oe.1 h;unfold dU lM;rw[EB,EB,Gj ao (by decide) (by omega) (by omega),Gj ao (by decide) (by omega) (by omega)];rfl
theorem FB{a b:bR}(h:(h6 a b).k=1):∃X Y W W',h6 a b=j5 X W Y W':=by
 unfold h6 jh at h ⊢
 split at h
 ·rename_i hw;rw[if_pos hw];unfold wT inl at h ⊢
  split at h
  ·rename_i JN;rw[if_pos JN];unfold wS at h ⊢
   split at h
   ·rename_i he;rw[if_pos he];exact⟨_,_,_,_,rfl⟩
   ·simp[uv] at h
  ·simp[iL] at h
 ·rename_i hw;rw[if_neg hw];unfold od va at h ⊢
  split at h
  ·rename_i ay;rw[if_pos ay];exact⟨_,_,_,_,rfl⟩
  ·simp[iL] at h
theorem Z5{a b:bR}(h:(h6 a b).k=1):uF a b=true↔(a.1=b.1∨a.1=b.2∨a.2=b.1∨a.2=b.2):=by
 have e:∀p q:aq,dG p.1 p.2 q.1 q.2=true↔p=q:=fun p q=>by rw[tc,Prod.ext_iff]
 unfold uF Iu;rw[if_pos h];simp only[pk,e,or_assoc]
theorem Y6{r:Nat}{p q:aq}:Am r p=Am r q↔p=q:=by
 have hS:(2:Int)^r≠0:=by have:(0:Int)<2^r:=jj (by decide);omega
 unfold Am;rw[Prod.ext_iff,Prod.ext_iff];exact⟨fun⟨h1,h2⟩=>⟨Int.eq_of_mul_eq_mul_left hS h1,Int.eq_of_mul_eq_mul_left hS h2⟩,fun⟨h1,h2⟩=>⟨by rw[h1],by rw[h2]⟩⟩
theorem OD{r:Nat}{l m:aq×aq}(h:(h6 (gN r l) (gN r m)).k=1):uF (gN r l) (gN r m)=true↔zY l m:=by
 rw[Z5 h];unfold gN zY;simp only[Y6]
theorem Gg{r:Nat}{a b:bR}{X Y W W':Int}(e:h6 a b=j5 X W Y W'):W'=W∧0<W∧jA r (h6 a b)=(fN (2^r) X W,fN (2^r) Y W)∧Dj (2^r) X Y W (jA r (h6 a b)):=by
 obtain⟨h1,h2,_⟩:=BX e;have hS:(0:Int)<2^r:=jj (by decide);have aN:jA r (h6 a b)=(fN (2^r) X W,fN (2^r) Y W):=by rw[e];unfold jA j5;rw[h1]
 exact⟨h1,h2,aN,by rw[aN];exact adU hS h2⟩
theorem rZ{r:Nat}{p:aq}(h:dU r p.1 p.2=true):c4 (2^r*p.1) (2^r*p.2)=true:=by
 have h:=(Fs r _ _).1 h;unfold c4;simp only[eb,cS];omega
theorem ajt(E:List bR){r:Nat}(ao:r≤28)(R:Nat):zV (2^r) (q8 E r R) where
 pos:=jj (by decide)
 acF p q x h:=by
  have h:sj _ _ _ _ _ _=true:=h;unfold sj at h;rw[Jv ao,Kz] at h;exact h.2.2
 PO p q x hp aj ab h:=by
  show sj _ _ _ _ _ _=true;unfold sj;have ab:dU r x.1 x.2=true:=ab;have ku:=(Fs r _ _).1 ab;have anH:=Lc ao;rw[Jv ao,Kz,afE];refine⟨ab,⟨rZ hp,rZ aj,?_,?_,rfl⟩,h⟩
  ·rw[D8];omega
  ·rw[D8];omega
 N9 l m x h:=by
  have h:ta r l m=some x:=h;unfold ta at h
  split at h
  ·rename_i ae;cases h;obtain⟨X,Y,W,W',e⟩:=FB ae.1;refine⟨fun hs => ?_,X,Y,W,W',e,(Gg e).2.2.2⟩;have:=(OD ae.1).2 hs;rw[ae.2] at this;cases this
  ·cases h
 Zv l m _ _ _ _ h ae:=by
  have h:ta r l m=none:=h;unfold ta at h
  split at h
  ·cases h
  ·rename_i aA;refine(OD ae).1 ?_;cases he:uF (gN r l) (gN r m) with
   | true=>rfl
   | false=>exact absurd ⟨ae,he⟩ aA
def xn(r:Nat)(V:List aq)(D:List Int):Prop :=
 V≠[]∧V.length=D.length+1∧(∀v∈V,dU r v.1 v.2=true)∧gj (· ≠ ·) V∧(gj (fun p q=>p.1≤q.1) V∨gj (fun p q=>q.1≤p.1) V)∧(gj (fun p q=>p.2≤q.2) V∨gj (fun p q=>q.2≤p.2) V)
theorem H2{R T:aq→aq→Prop}:∀ {l:List aq},gj R l→gj T l→gj (fun p q=>R p q∧T p q) l
 | [],_,_=>trivial
 | [_],_,_=>trivial
 | p::q::W,h,aJ=>⟨⟨h.1,aJ.1⟩,H2 (l:=q::W) h.2 aJ.2⟩
theorem NX{R:aq→aq→Prop}(aD:∀a b c,R a b→R b c→R a c):∀ {l:List aq},gj R l→l.Pairwise R
 | [],_ => .nil
 | [_],_=>by simp
 | p::q::W,h=>by
  have ck:=NX aD (l:=q::W) h.2;refine j9.2 ⟨fun x ab => ?_,ck⟩;rcases fe.1 ab with rfl|ab
  ·exact h.1
  ·exact aD _ _ _ h.1 ((j9.1 ck).1 x ab)
theorem D4{R T:aq→aq→Prop}(h1:∀a b c,R a b→R b c→R a c)(h2:∀a b c,T a b→T b c→T a c)(aX:∀a b,R a b→R b a→T a b→T b a→a=b){l:List aq}(ao:gj R l)(aD:gj T l)(aA:gj (· ≠ ·) l):l.Nodup:=by
 have:=NX (R:=fun p q=>(R p q∧T p q)∧p≠q) (fun a b c x y=>⟨⟨h1 _ _ _ x.1.1 y.1.1,h2 _ _ _ x.1.2 y.1.2⟩,fun e=>by subst e;exact x.2 (aX _ _ x.1.1 y.1.1 x.1.2 y.1.2)⟩) (H2 (H2 ao aD) aA);exact this.imp fun h=>h.2
theorem xn.nodup{r:Nat}{V:List aq}{D:List Int}(h:xn r V D):V.Nodup:=by
 obtain⟨_,_,_,aA,ab,ai⟩:=h;rcases ab with ab|ab <;> rcases ai with ai|ai
 ·exact D4 (R:=fun p q:aq=>p.1≤q.1) (T:=fun p q:aq=>p.2≤q.2) (fun a b c=>Int.le_trans) (fun a b c=>Int.le_trans) (fun a b h1 h2 ar aK=>Prod.ext (Int.le_antisymm h1 h2) (Int.le_antisymm ar aK)) ab ai aA
 ·exact D4 (R:=fun p q:aq=>p.1≤q.1) (T:=fun p q:aq=>q.2≤p.2) (fun a b c=>Int.le_trans) (fun a b c h aJ=>Int.le_trans aJ h) (fun a b h1 h2 ar aK=>Prod.ext (Int.le_antisymm h1 h2) (Int.le_antisymm aK ar)) ab ai aA
 ·exact D4 (R:=fun p q:aq=>q.1≤p.1) (T:=fun p q:aq=>p.2≤q.2) (fun a b c h aJ=>Int.le_trans aJ h) (fun a b c=>Int.le_trans) (fun a b h1 h2 ar aK=>Prod.ext (Int.le_antisymm h2 h1) (Int.le_antisymm ar aK)) ab ai aA
 ·exact D4 (R:=fun p q:aq=>q.1≤p.1) (T:=fun p q:aq=>q.2≤p.2) (fun a b c h aJ=>Int.le_trans aJ h) (fun a b c h aJ=>Int.le_trans aJ h) (fun a b h1 h2 ar aK=>Prod.ext (Int.le_antisymm h2 h1) (Int.le_antisymm aK ar)) ab ai aA
theorem Er(r:Nat)(a b:Int):decide ((2:Int)^r*a<2^r*b)=decide (a<b):=by
 have hS:(0:Int)<2^r:=jj (by decide);rw[vn];exact⟨fun h=>Int.lt_of_mul_lt_mul_left h (by omega),fun h=>Int.mul_lt_mul_of_pos_left h hS⟩
theorem Oh{fx fy:Bool}{p q:aq}:∀(l out:List aq),(∀x∈l,x≠p∧x≠q)→(out++l).Nodup→l.foldl (qN p q) out=out++l
 | [],out,_,_=>by simp
 | x::l,out,h,hd=>by
  have ab:=h x (hn ..);have e:qN p q out x=out++[x]:=if_pos ⟨ab.1,ab.2,fun he=>(List.nodup_append.1 hd).2.2 x (List.mem_of_getLast? he) x (hn ..) rfl⟩;rw[tR,e,Oh (fx:=fx) (fy:=fy) l (out++[x]) (fun y ai=>h y (kU _ ai)) (by simpa using hd),hl];rfl
theorem akz{fx fy:Bool}{f g:aq→Bool}{l:List aq}(h:∀x∈l,f x=g x):sK fx fy f l=sK fx fy g l:=by
 unfold sK
 have key:∀(l out:List aq),(∀x∈l,f x=g x)→l.foldl (fun out q=>if f q then nx fx fy q out else out) out=l.foldl (fun out q=>if g q then nx fx fy q out else out) out:=by
  intro l
  induction l with
  | nil=>intro out _;rfl
  | cons x l ck =>
   intro out h;rw[tR,tR,h x (hn ..)];exact ck _ fun y ai=>h y (kU _ ai)
 exact key l [] h
theorem IP{E:List bR}{r R:Nat}{p q x:aq}:kn (q8 E r R) p q x=true↔x≠p∧x≠q∧PP r p q x=true:=by
 unfold kn;simp only[eb,cS,and_assoc];exact Iff.rfl
theorem CL(p q:aq)(bp:List aq):(gi p q bp).Perm bp:=by
 have:=GJ (decide (q.1<p.1)) (decide (q.2<p.2)) (fun _=>true) bp;rwa [List.filter_eq_self.2 (fun _ _=>rfl)] at this
theorem LZ{E:List bR}{r R:Nat}{p q:aq}{bp:List aq}(aA:bp.Nodup)(h:∀x∈bp,kn (q8 E r R) p q x=true):gi p q bp=sZ r bp p q:=by
 unfold sZ Og;rw[Er,Er,←akz (f:=fun _=>true) (g:=sj (2^r*p.1) (2^r*p.2) (2^r*q.1) (2^r*q.2) r) (fun x ab=>((IP.1 (h x ab)).2.2).symm)];have hp:=CL p q bp;show gi p q bp=(gi p q bp).foldl (qN p q) [];rw[Oh (fx:=false) (fy:=false) (gi p q bp) [] (fun x ab=>⟨(IP.1 (h x (hp.mem_iff.1 ab))).1,(IP.1 (h x (hp.mem_iff.1 ab))).2.1⟩) (by simpa using hp.nodup_iff.2 aA)];rfl
theorem NW{R:aq→aq→Prop}:∀ {A B:List aq} {q:aq},gj R (A++q::B)→gj R (A++[q])∧gj R (q::B)
 | [],_,_,h=>⟨trivial,h⟩
 | [a],_,_,h=>⟨⟨h.1,trivial⟩,h.2⟩
 | a::b::A,B,q,h=>by
  have ck:=NW (A:=b::A) h.2;exact⟨⟨h.1,ck.1⟩,ck.2⟩
theorem ak7{V:List aq}{j:Nat}{p q:aq}(hp:V[j]?=some p)(aj:V[j+1]?=some q):∃A B,V=A++p::q::B∧A.length=j∧∀l,du V j l=A++p::(l++q::B):=by
 obtain⟨h1,aI⟩:=br.1 hp;obtain⟨h2,aN⟩:=br.1 aj;have hd:=ZP hp aj;refine⟨V.take j,V.drop (j+2),by rw[←hd,j8],by rw[dV];omega,fun l => ?_⟩;unfold du;rw[ls h1,aI,jE h2,aN];simp
theorem An{R:aq→aq→Prop}{V l:List aq}{j:Nat}{p q:aq}(hp:V[j]?=some p)(aj:V[j+1]?=some q)(h:gj R V)(al:R p q→gj R (p::(l++[q]))):gj R (du V j l):=by
 obtain⟨A,B,e,_,Il⟩:=ak7 hp aj;rw[Il];rw[e] at h;obtain⟨h1,h2⟩:=NW h;refine H3 h1 ?_;have ar:=al h2.1;have:=H3 (A:=p::l) (q:=q) (W:=B) ar h2.2;exact this
theorem xn.cut{E:List bR}{r R:Nat}(ao:r≤28){V:List aq}{D:List Int}(h:xn r V D){j:Nat}{p q:aq}{bp:List aq}(hp:V[j]?=some p)(aj:V[j+1]?=some q)(aA:bp.Nodup)(au:∀x∈bp,kn (q8 E r R) p q x=true):xn r (du V j (gi p q bp)) (eI D j bp.length):=by
 obtain⟨h1,h2,ar,aK,fh,kK⟩:=h;have hS:(0:Int)<2^r:=jj (by decide);have af:=(br.1 aj).1;rw[LZ aA au];have nt:=DM ao bp p q;have hlen:(sZ r bp p q).length=bp.length:=by rw[←LZ aA au];exact(CL p q bp).length_eq
 refine⟨fun aF => ?_,?_,fun v hv => ?_,?_,?_,?_⟩
 ·have:=congrArg List.length aF;rw[At,List.length_nil] at this;omega
 ·rw[At,H8 (by omega),hlen];omega
 ·rcases Od hv with hv|hv
  ·exact ar v hv
  ·exact(nt.2.1 v hv).2.1
 ·exact An hp aj aK fun jb=>YD ao bp p q jb
 ·refine fh.imp (fun h=>An hp aj h fun jb=>DN ao bp p q jb (fun x ab => ?_) (fun x y u w hu hw tx => ?_)) (fun h=>An hp aj h fun jb=>DN ao bp p q jb (fun x ab => ?_) (fun x y u w hu hw tx => ?_))
  ·obtain⟨u,hu⟩:=ab;exact(FM hS hu.1.1 hu.1.2 hu.2.1).1 jb
  ·exact FO hS hu.2.1 hw.2.1 tx jb
  ·obtain⟨u,hu⟩:=ab;exact((FM hS hu.1.1 hu.1.2 hu.2.1).2 jb).symm
  ·exact FN hS hu.2.1 hw.2.1 tx jb
 ·refine kK.imp (fun h=>An hp aj h fun jb=>DN ao bp p q jb (fun x ab => ?_) (fun x y u w hu hw tx => ?_)) (fun h=>An hp aj h fun jb=>DN ao bp p q jb (fun x ab => ?_) (fun x y u w hu hw tx => ?_))
  ·obtain⟨u,hu⟩:=ab;exact(FM hS hu.1.1 hu.1.2 hu.2.2).1 jb
  ·exact FO hS hu.2.2 hw.2.2 tx jb
  ·obtain⟨u,hu⟩:=ab;exact((FM hS hu.1.1 hu.1.2 hu.2.2).2 jb).symm
  ·exact FN hS hu.2.2 hw.2.2 tx jb
def tL(r:Nat)(e:bR)(d:Int)(t:Rat)(x:aq):Prop:=yT e.1.1 e.1.2 e.2.1 e.2.2 (2^r) (bw d*bw (2^r)) t x
theorem ago{r:Nat}{e:bR}{d d':Int}(h:d≤d'){t:Rat}{x:aq}(ab:tL r e d t x):tL r e d' t x:=by
 refine agq ?_ ab;have hS:(0:Rat)<bw (2^r):=rf (jj (by decide));exact Rat.mul_le_mul_of_nonneg_right (sD.2 h) (Rat.le_of_lt hS)
theorem N1{r:Nat}{e:bR}{p q:aq}{d:Int}{t1 t2:Rat}(IU:t1≤t2)(IV:t2≤1)(hp:tL r e d t1 p)(aj:tL r e d t2 q):∀(l:List aq) (kZ:Rat),0≤kZ→kZ≤1→(∀x∈l,∀u,rH (2^r) p q u x→kZ≤u)→(∀x∈l,∃u,rH (2^r) p q u x)→k5 (decide ((2:Int)^r*q.1<2^r*p.1)) (decide ((2:Int)^r*q.2<2^r*p.2)) l→D6 (tL r e) (d+1) t2 (t1+kZ*(t2-t1)) l
 | [],kZ,aF,h1,_,_,_=>by
  show t1+kZ*(t2-t1)≤t2;have:=lu (show 0≤1-kZ by grind) (show 0≤t2-t1 by grind);grind
 | x::l,kZ,aF,h1,hu,hm,aX=>by
  have hS:(0:Int)<2^r:=jj (by decide);obtain⟨u,yB⟩:=hm x (hn ..);have ak:=j9.1 aX;have h2:=hu x (hn ..) u yB;have bB:=lu (show 0≤u-kZ by grind) (show 0≤t2-t1 by grind);have cl:=lu (show 0≤1-u by have:=yB.1.2;grind) (show 0≤t2-t1 by grind)
  have ab:tL r e (d+1) (t1+u*(t2-t1)) x:=by
   have:=agp hp aj yB;unfold tL;rw[show bw (d+1)=bw d+1 by simp[bw,tX]];exact this
  exact⟨t1+u*(t2-t1),by grind,by grind,ab,N1 IU IV hp aj l u yB.1.1 yB.1.2 (fun y ai w hw=>RJ hS yB hw (ak.1 y ai)) (fun y ai=>hm y (kU _ ai)) ak.2⟩
def yV(E:List bR)(r:Nat)(i:Nat)(c:List aq×List Int):Prop:=xn r c.1 c.2∧s7 (tL r (E.getD i lc)) 0 c.1 c.2
theorem FX{r:Nat}(a b:Int):tK (bw a) (bw b) (2*(bw (2^r)*bw (b7 a r))) (bw 1*bw (2^r)) 0∧tK (bw b) (bw a) (2*(bw (2^r)*bw (b7 a r))) (bw 1*bw (2^r)) 1:=by
 have eT:(0:Int)<2^r:=jj (by decide);obtain⟨g0,g1⟩:2*(b7 a r*2^r)≤2*a+2^r∧2*a+2^r<2*(b7 a r*2^r)+2*2^r:=aa4 eT;have dl:=sD.2 g0;have q1:=Lm.2 g1;have z:bw 1=1:=by simp[bw]
 rw[z];simp only[bw,tX,Rat.intCast_mul] at dl q1 ⊢;generalize ((2^r:Int):Rat)=S at *;generalize ((b7 a r:Int):Rat)=g at *;generalize ((a:Int):Rat)=a' at *;generalize ((b:Int):Rat)=cE at *;have aN:((2:Int):Rat)=2:=by simp
 rw[aN] at dl q1;refine⟨⟨?_,?_⟩,?_,?_⟩ <;> grind
theorem Zm{r:Nat}(e:bR):s7 (tL r e) 0 (hj (lM r e.1) (lM r e.2)).1 (hj (lM r e.1) (lM r e.2)).2 :=
 Zl ⟨(FX e.1.1 e.2.1).1,(FX e.1.2 e.2.2).1⟩ ⟨(FX e.2.1 e.1.1).2,(FX e.2.2 e.1.2).2⟩
theorem agj{r:Nat}{p q:aq}(hp:dU r p.1 p.2=true)(aj:dU r q.1 q.2=true):xn r (hj p q).1 (hj p q).2:=by
 unfold hj
 split
 ·exact⟨by simp,rfl,fun v hv=>by rw[jD.1 hv];exact hp,trivial,.inl trivial,.inl trivial⟩
 ·rename_i cz;refine⟨by simp,rfl,fun v hv => ?_,⟨cz,trivial⟩,?_,?_⟩
  ·simp only[fe,sA,or_false] at hv;rcases hv with rfl|rfl
   ·exact hp
   ·exact aj
  ·rcases Int.le_total p.1 q.1 with h|h
   ·exact .inl ⟨h,trivial⟩
   ·exact .inr ⟨h,trivial⟩
  ·rcases Int.le_total p.2 q.2 with h|h
   ·exact .inl ⟨h,trivial⟩
   ·exact .inr ⟨h,trivial⟩
theorem DV{X W a b n d:Int}(ga:0<W)(hd:0<d)(aA:0≤n∧n≤d)(e:X*d=W*(a*(d-n)+b*n)){lo hi:Int}(aX:lo≤a∧a≤hi)(aa:lo≤b∧b≤hi):lo*W≤X∧X≤hi*W:=by
 have a1:=hL (show 0≤a-lo by omega) (show 0≤d-n by omega);have a2:=hL (show 0≤hi-a by omega) (show 0≤d-n by omega);have b1:=hL (show 0≤b-lo by omega) aA.1;have b2:=hL (show 0≤hi-b by omega) aA.1;have s1:lo*d≤a*(d-n)+b*n:=by grind
 have s2:a*(d-n)+b*n≤hi*d:=by grind
 have t1:=sB s1 (pp ga);have t2:=sB s2 (pp ga);rw[←e] at t1 t2;refine⟨Int.le_of_mul_le_mul_right ?_ hd,Int.le_of_mul_le_mul_right ?_ hd⟩
 ·rw[show lo*W*d=W*(lo*d) by grind];exact t1
 ·rw[show hi*W*d=W*(hi*d) by grind];exact t2
theorem Le{r:Nat}(ao:r≤28){a b:bR}(h1:gF a.1=true)(h2:gF a.2=true){x:aq}(h:xc r a b=some x):dU r x.1 x.2=true:=by
 unfold xc at h
 split at h
 ·rename_i ae;cases h;obtain⟨X,Y,W,W',e⟩:=FB ae;obtain⟨q1,q2,q3,_⟩:=Gg (r:=r) e;obtain⟨_,_,⟨n,d,g1,g2,g3,g4⟩,_⟩:=BX e;have cM:=oe.1 h1;have cN:=oe.1 h2;obtain⟨c1,c2⟩:=DV q2 g1 g2 g3 (lo := -134217728) (hi:=134217727) (by omega) (by omega);obtain⟨iX,Aj⟩:=DV q2 g1 g2 g4 (lo := -134217728) (hi:=134217727) (by omega) (by omega);rw[q3];unfold dU;rw[Gj ao q2 c1 c2,Gj ao q2 iX Aj];rfl
 ·cases h
theorem Of{r:Nat}{l m:aq×aq}(h1:dU r l.1.1 l.1.2=true)(h2:dU r l.2.1 l.2.2=true){x:aq}(h:ta r l m=some x):dU r x.1 x.2=true:=by
 have hS:(0:Int)<2^r:=jj (by decide);unfold ta at h
 split at h
 ·rename_i ae;cases h;obtain⟨X,Y,W,W',e⟩:=FB ae.1;obtain⟨q1,q2,q3,q4⟩:=Gg (r:=r) e;obtain⟨_,_,⟨n,d,g1,g2,g3,g4⟩,_⟩:=BX e;generalize jA r (h6 (gN r l) (gN r m))=x at *;obtain⟨⟨i1,i2⟩,i3,i4⟩:=q4;have v1:=Tz hS q2 g1 g2 g3 i1 i2;have v2:=Tz hS q2 g1 g2 g4 i3 i4;unfold dU at h1 h2 ⊢;rw[eb] at h1 h2 ⊢;refine⟨?_,?_⟩
  ·rcases Int.le_total l.1.1 l.2.1 with h|h
   ·exact CW h1.1 h2.1 (v1.1 h).1 (v1.1 h).2
   ·exact CW h2.1 h1.1 (v1.2 h).1 (v1.2 h).2
  ·rcases Int.le_total l.1.2 l.2.2 with h|h
   ·exact CW h1.2 h2.2 (v2.1 h).1 (v2.1 h).2
   ·exact CW h2.2 h1.2 (v2.2 h).1 (v2.2 h).2
 ·cases h
theorem aji{E:List bR}{r R:Nat}(ao:r≤28)(fu:jw E=true):na (q8 E r R) (yV E r) where
 nodup i c h:=h.1.nodup
 new i hi:=⟨agj (FU ao (qb fu i).1) (FU ao (qb fu i).2),Zm _⟩
 split i c j p q bp h hlen hp aj aA _ au:=by
  refine⟨h.1.cut ao hp aj aA au,?_⟩;have ac8:=CL p q bp;have e:bp.length=(gi p q bp).length:=ac8.length_eq.symm;show s7 _ _ (du c.1 j (gi p q bp)) (eI c.2 j bp.length);rw[e];refine N2 (fun d t x ab=>ago (by omega) ab) (fun d t1 t2 IU IV h1 h2 => ?_) c.1 c.2 j 0 hlen hp aj h.2;have nt:=DM ao bp p q;rw[LZ aA au];have:=N1 IU IV h1 h2 (sZ r bp p q) 0 Rat.le_refl (by decide) (fun x ab u hu=>hu.1.1) (fun x ab=>(nt.2.1 x ab).2.2) nt.1;rwa [show t1+0*(t2-t1)=t1 by grind] at this
 hq:=CL
 Ey i _:=⟨FU ao (qb fu i).1,FU ao (qb fu i).2⟩
 O9 i j x _ _ h:=Le ao (qb fu i).1 (qb fu i).2 h
 O7 p q fD cG x h1 h2 _ _ h:=Of (l:=(p,q)) (m:=(fD,cG)) h1 h2 h
 cut hot p q fD cG x au _ _ h1 h2 ar aK bX fh h:=(ajt E ao R).Zz hot p q fD cG x au h1 h2 ar aK bX fh h
variable{α:Type} [DecidableEq α]
abbrev iT(α:Type):=List (List α×List Int)
end Go.Proofs.YtklpfooafbjnpaaGreat.bH
namespace Go.Proofs.YtklpfooafbjnpaaGreat.bH
variable{α:Type} [DecidableEq α]
def news(o:dh α):iT α:=(List.range o.n).map fun k=>hj (o.P k) (o.Q k)
theorem aci(o:dh α){s:bh α}(aa:iH o s)(q:α)(aj:o.gB q):(dB o s q=fl s 5 0 0∧s.hot.length=o.R∧q∉s.hot) ∨
  ∃ey,dB o s q={s with hot:=ey}∧iH o ({s with hot:=ey}:bh α)∧(∀x,x∈ey↔(x∈s.hot∨x=q)):=by
 have:=aa.room;unfold dB
 by_cases h:q∈s.hot
 ·rw[if_pos h];exact .inr ⟨s.hot,rfl,aa,fun x=>⟨.inl,fun aY=>aY.elim id fun e=>by rw[e];exact h⟩⟩
 ·rw[if_neg h]
  by_cases h2:s.hot.length<o.R
  ·rw[if_pos h2];refine .inr ⟨s.hot++[q],rfl,⟨?_,?_,fun x ab=>(j7.1 ab).elim (aa.hb x) fun h=>by rw[jD.1 h];exact aj⟩,fun x=>by simp⟩
   ·show (s.hot++[q]).Nodup;refine List.nodup_append.2 ⟨aa.nd,by simp,fun a aX b cO => ?_⟩;rw[jD] at cO;subst cO;exact fun e=>h (by rw[←e];exact aX)
   ·show (s.hot++[q]).length≤o.R;rw[cY,List.length_singleton];omega
  ·rw[if_neg h2];exact .inl ⟨rfl,by omega,h⟩
end Go.Proofs.YtklpfooafbjnpaaGreat.bH
namespace Go.Proofs.YtklpfooafbjnpaaGreat.bH
variable{α:Type} [DecidableEq α]
structure Dp (o:dh α) (z:α):Prop where
 P:∀i,i<o.n→o.P i=z∧o.Q i=z
 oJ:∀i j x,i<j→j<o.n→o.oJ i j=some x→x=z
 room:0<o.R
structure One (o:dh α) (z:α) (m:Nat) (s:bh α):Prop where
 hot:∀x∈s.hot,x=z
 left:(s.ph=0∧(o.n-s.I)+o.n*o.n≤m)∨(s.ph=1∧(o.n-s.I)*o.n-s.J≤m)∨(s.ph=4∧s.hot=[z]∧s.ch=news o)
theorem PJ{o:dh α}{z:α}{s:bh α}(h1:Dp o z)(Fo:o.gB z)(aa:iH o s)(h:∀x∈s.hot,x=z):∃ey,dB o s z={s with hot:=ey}∧iH o ({s with hot:=ey}:bh α)∧ey=[z]:=by
 have mJ:∀l:List α,l.Nodup→(∀x∈l,x=z)→z∈l→l=[z]:=fun l aA al aR=>by
  have:=B7 aA (m:=[z]) fun x ab=>by rw[al x ab];simp
  match l,aR,this with
  | [a],_,_=>rw[al a (by simp)]
  | a::b::l,_,aY=>simp at aY
 rcases aci o aa z Fo with ⟨_,f,g⟩|⟨h2,e,b2,m2⟩
 ·exfalso;have:=h1.room;have hlen:0<s.hot.length:=by omega
  obtain⟨y,ai⟩:=List.exists_mem_of_length_pos hlen;exact g (by rw[←h y ai];exact ai)
 ·exact⟨h2,e,b2,mJ h2 b2.nd (fun x ab=>((m2 x).1 ab).elim (h x) id) ((m2 z).2 (.inr rfl))⟩
theorem Rk{o:dh α}{z:α}(h1:Dp o z)(s:bh α):mg o s=fl {s with ch:=news o} 4 0 0:=by
 have hlen:∀c∈news o,c.1.length=1:=fun c ak=>by
  obtain⟨k,ae,rfl⟩:=fO.1 ak;obtain⟨aI,aN⟩:=h1.P k (nF.1 ae);rw[aI,aN];unfold hj;rw[if_pos rfl];rfl
 have Bu:∀(cs:iT α) i,(∀c∈cs,c.1.length=1)→rs cs i 0=none:=by
  intro cs
  induction cs with
  | nil=>intro i _;rfl
  | cons c cs ck =>
   intro i h;unfold rs;rw[if_neg (by rw[h c (hn ..)];decide)];exact ck _ fun c ak=>h c (kU _ ak)
 have al:bi (news o)=[]:=List.flatMap_eq_nil_iff.2 fun c ak=>List.length_eq_zero_iff.1 (by rw[sf,hlen c ak]);show mn (fl {s with ch:=news o} 2 0 0)=_;unfold mn;show (match rs ((news o).drop 0) 0 0 with|some BF=>_|none=>if (bi (news o)).length<2 then _ else _)=_;rw[List.drop_zero,Bu _ 0 hlen,al];rfl
theorem U3{o:dh α}{ok:Nat→List α×List Int→Prop}{z:α}{m:Nat}(ae:na o ok)(h1:Dp o z){s:bh α}(hi:kG o ok s)(h:One o z (m+1) s):One o z m (eG o s):=by
 rcases h.left with ⟨hp,al⟩|⟨hp,al⟩|⟨hp,al,ak⟩
 ·have aF:Hk o s:=by
   obtain⟨_,aJ|aJ|aJ|aJ|aJ|aJ⟩:=hi
   ·exact aJ
   all_goals · have:=aJ.ph;omega
  have bg:=aF.I;have e:eG o s=rV o s:=by simp only[eG,hp]
  rw[e];obtain⟨aI,aN⟩:=h1.P s.I bg;have Fo:o.gB z:=by rw[←aI];exact(ae.Ey _ bg).1
  obtain⟨a1,f1,b1,g1⟩:=PJ h1 Fo hi.1 h.hot;subst g1;obtain⟨a2,f2,b2,g2⟩:=PJ h1 Fo b1 (fun x ab=>jD.1 ab);subst g2;unfold rV;rw[aI,aN,f1,f2,if_neg (show ¬s.ph=5 by omega),if_neg (show ¬s.ph=5 by omega),Rk h1]
  split
  ·exact⟨fun x ab=>jD.1 ab,.inl ⟨hp,show (o.n-(s.I+1))+o.n*o.n≤m by omega⟩⟩
  ·split
   ·exact⟨fun x ab=>jD.1 ab,.inr (.inr ⟨rfl,rfl,rfl⟩)⟩
   ·exact⟨fun x ab=>jD.1 ab,.inr (.inl ⟨rfl,show (o.n-0)*o.n-1≤m by rw[Nat.sub_zero];omega⟩)⟩
 ·have aF:Inv1 o s:=by
   obtain⟨_,aJ|aJ|aJ|aJ|aJ|aJ⟩:=hi
   ·have:=aJ.ph;omega
   ·exact aJ
   all_goals · have:=aJ.ph;omega
  have PN:s.hot=[z]:=by
   have aA:0<o.n:=by have:=aF.J;omega
   have aR:z∈s.hot:=by rw[←(h1.P 0 aA).1];exact(aF.zu 0 aA).1
   have:=B7 hi.1.nd (m:=[z]) fun x ab=>by rw[h.hot x ab];simp
   have dH:=h.hot;generalize s.hot=l at aR this dH
   match l,aR,this with
   | [a],_,_=>rw[dH a (by simp)]
   | a::b::l,_,aY=>simp at aY
  have e:eG o s=su o s:=by simp only[eG,hp]
  have key:lg o s (o.oJ s.I s.J)=s:=by
   cases adb:o.oJ s.I s.J with
   | none=>rfl
   | some x =>
    have:=h1.oJ _ _ x aF.vN aF.J adb;subst this;show dB o s x=s;unfold dB;rw[if_pos (by rw[PN];simp)]
  obtain⟨fC,gy⟩:=KU aF.vN aF.J;rw[e];unfold su;rw[key,if_neg (show ¬s.ph=5 by omega),Rk h1]
  split
  ·rename_i bb;have:=(gy bb).2;exact⟨h.hot,.inr (.inl ⟨hp,show (o.n-(cx o.n s.I s.J).1)*o.n-(cx o.n s.I s.J).2≤m by omega⟩)⟩
  ·exact⟨h.hot,.inr (.inr ⟨rfl,PN,rfl⟩)⟩
 ·have e:eG o s=s:=by simp only[eG,hp]
  rw[e];exact⟨h.hot,.inr (.inr ⟨hp,al,ak⟩)⟩
end Go.Proofs.YtklpfooafbjnpaaGreat.bH
namespace Go.Proofs.YtklpfooafbjnpaaGreat.bH
theorem EA{v:Int}(h : -134217728≤v∧v<134217728):b7 v 28=0:=by
 unfold b7;have e:(2:Int)^28=268435456:=by decide
 rw[e];omega
theorem T6{E:List bR}{R:Nat}(fu:jw E=true)(an:0<R):Dp (q8 E 28 R) (0,0) where
 P i hi:=by
  have h:=qb fu i;have h1:=oe.1 h.1;have h2:=oe.1 h.2;exact⟨Prod.ext (EA h1.1) (EA h1.2),Prod.ext (EA h2.1) (EA h2.2)⟩
 oJ i j x gw af hp:=by
  have hp:xc 28 (E.getD i lc) (E.getD j lc)=some x:=hp;have h:=qb fu i;have g:=Le (by decide) h.1 h.2 hp;have h1:=oe.1 h.1;have h2:=oe.1 h.2;unfold xc at hp
  split at hp
  ·rename_i ae;cases hp;obtain⟨X,Y,W,W',e⟩:=FB ae;obtain⟨q1,q2,q3,_⟩:=Gg (r:=28) e;obtain⟨_,_,⟨n,d,g1,g2,g3,g4⟩,_⟩:=BX e;obtain⟨c1,c2⟩:=DV q2 g1 g2 g3 (lo := -134217728) (hi:=134217727) (by omega) (by omega);obtain⟨iX,Aj⟩:=DV q2 g1 g2 g4 (lo := -134217728) (hi:=134217727) (by omega) (by omega);have hS:(0:Int)<2^28:=by decide
   have jK:fN (2^28) (-134217728) 1=0:=by decide
   have z2:fN (2^28) 134217727 1=0:=by decide
   have m1:=y2 hS (by decide) q2 (X := -134217728) (W:=1) (X':=X) (by omega);have m2:=y2 hS q2 (by decide) (X:=X) (X':=134217727) (W':=1) (by omega);have m3:=y2 hS (by decide) q2 (X := -134217728) (W:=1) (X':=Y) (by omega);have m4:=y2 hS q2 (by decide) (X:=Y) (X':=134217727) (W':=1) (by omega);rw[jK] at m1 m3;rw[z2] at m2 m4;rw[q3];exact Prod.ext (by show fN _ _ _=0;omega) (by show fN _ _ _=0;omega)
  ·cases hp
 room:=an
end Go.Proofs.YtklpfooafbjnpaaGreat.bH
namespace Go.Proofs.YtklpfooafbjnpaaGreat
open Go.RowKit
abbrev pw(V:List aq)(D:List Int):ag := .w (.agg [.p (b0 2 V.length (bY V)),.p (b0 1 D.length (cJ D))])
abbrev wW(V:List aq)(D:List Int):List AC:=[.p (b0 2 V.length (bY V)),.p (b0 1 D.length (cJ D))]
abbrev DY(b:Bool):AC := .p (oX [.c (.bool (!b))])
abbrev xA(l d:Bool):ag := .w (.one (.p (lV (.func 199) [DY l,DY d])))
theorem agX{a1 a2 b1 b2:Int}:aO ah 141 [bn a1 a2,bn b1 b2] (xA (decide (b1<a1)) (decide (b2<a2))):=by
 have aI:decide (b1≥a1) = !decide (b1<a1):=by by_cases h:b1<a1 <;> simp[h] <;> omega
 have aN:decide (b2≥a2) = !decide (b2<a2):=by by_cases h:b2<a2 <;> simp[h] <;> omega
 refine Lb (f:=141) Tryz.func141 rfl rfl rfl rfl ?_;refine DQ (vY ?_);(refine fs ?_);refine DQ (vY ?_);(refine fs ?_);refine DP 5 _ rfl rfl ?_;refine DP 6 _ rfl rfl ?_;refine vY ?_;(repeat first|refine db ?_|refine DJ (xs:=[_,_]) (cs:=[_,_]) rfl rfl rfl rfl ?_)
 ((refine bm rfl (aZ rfl aM) ?_))
 exact ag.aV.of_eq (by rw[aI,aN];rfl)
theorem ahr{x y z w:Int}{l d r:Bool}(ao:Ac x y z w l d=r):aO ah 199 [bn x y,bn z w,.w (.one (DY l)),.w (.one (DY d))] (bl r):=by
 have cs:(¬x=z∧z<x∧r=l)∨(¬x=z∧¬z<x∧r = !l)∨(x=z∧¬y=w∧w<y∧r=d)∨(x=z∧¬y=w∧¬w<y∧r = !d)∨(x=z∧y=w∧r=false):=by
  rw[←ao];unfold Ac
  by_cases h1:x<z <;> by_cases h2:z<x <;> by_cases ar:y<w <;> by_cases aK:w<y <;> simp[h1,h2,ar,aK] <;> omega
 clear ao;rcases cs with ⟨h1,h2,rfl⟩|⟨h1,h2,rfl⟩|⟨h1,ar,h2,rfl⟩|⟨h1,ar,h2,rfl⟩|⟨h1,ar,rfl⟩
 all_goals
  refine bq (f:=199) Tryz.func199 rfl rfl rfl rfl ?_;(repeat first|refine db ?_|(with_reducible apply XQ);(iterate 4 rfl);kernel_rfl|(with_reducible apply bT (c:=true));rfl;rfl;((simp only[rP];(omega)))|(with_reducible apply bT (c:=false));rfl;rfl;((simp only[rP];(omega))))
  ((refine bm rfl (aZ rfl aM) ?_))
  first
  | exact ag.aV.refl _
  | exact ag.aV.of_eq (by rw[cm (show ¬x<z by omega),Bool.false_beq,Bool.not_not];rfl)
  | exact ag.aV.of_eq (by rw[ca (show x<z by omega),Bool.true_beq];rfl)
  | exact ag.aV.of_eq (by rw[cm (show ¬y<w by omega),Bool.false_beq,Bool.not_not];rfl)
  | exact ag.aV.of_eq (by rw[ca (show y<w by omega),Bool.true_beq];rfl)
section
variable{P:Program}{s:aB}{ops:Array Oper}{K:aB→Prop}{rest:List Oper}{ty:Nat}{pos:String}{after:Array Edge}{guard:Option (Nat×Bool)}{d:Nat}
theorem Yl{df dW:Nat}{x y:Operand}{a b:Int}(hw:want ops ⟨some d,.binOp .quo df x y dW,ty,pos,after,guard⟩ s=some true)(ab:s.look x=some (aQ (.int .i64 a)))(ai:s.look y=some (aQ (.int .i64 b)))(aF:0≤a)(h1:0<b)(h2:a≤9223372036854775807)(hd:Nat.blt d s.n=true)(h:bk P ops K rest (s.put (some d) (aQ (.int .i64 (a/b))))):bk P ops K (⟨some d,.binOp .quo df x y dW,ty,pos,after,guard⟩::rest) s:=by
 refine qI hw ab ai (fun W => ?_) rfl hd h;have aa:b≠0:=by omega
 have e:a.tdiv b=a/b:=Int.tdiv_eq_ediv_of_nonneg aF
 have aN:IntKind.i64.wrap (a/b)=a/b:=jd (by
  have:=oP aF (show 0≤b by omega);have:=Int.ediv_le_self b aF;omega)
 simp[binOp,Op.intDiv,aa,e,aN]
end
theorem QT:bY []=[]:=rfl
theorem QU(p:Int×Int)(l:List (Int×Int)):((bY (p::l)).drop ((1:Int).toNat*2)).take (l.length*2)=bY l:=by
 show ((bY (p::l)).drop 2).take (l.length*2)=bY l;rw[←oa];simp[bY]
theorem Ke(p:Int×Int)(l:List (Int×Int)):bY l++[.c (.int .i64 p.1),.c (.int .i64 p.2)]=bY (l++[p]):=by rw[tE];rfl
theorem aea(l:List (Int×Int))(k:Nat):((bY l).drop (0*2)).take ((l.take k).length*2)=bY (l.take k):=by
 have e:bY l=bY (l.take k)++bY (l.drop k):=by rw[←tE,j8]
 rw[e,Nat.zero_mul,List.drop_zero,←oa];simp
theorem ad9(l:List (Int×Int))(k:Nat)(ae:k≤l.length):((bY l).drop (k*2)).take ((l.drop k).length*2)=bY (l.drop k):=by
 have e:bY l=bY (l.take k)++bY (l.drop k):=by rw[←tE,j8]
 have aN:k*2=(bY (l.take k)).length:=by rw[oa,dV,qn ae]
 rw[e,aN,List.drop_left,←oa,List.take_length]
abbrev jB(v:Value)(l:List (Int×Int)):bC:=⟨50,2,v,l.length,bY l⟩
instance am0:nb ah 41 50 2 16:=⟨by kernel_rfl⟩
def WS(M:List (Int×Int))(lt:Int×Int→Int×Int→Bool)(sg:ag)(K:Nat)(m:Nat)(R:aE)(az:List (Nat×ag))(aU:List (Nat×List AC)):Prop :=
 ∃(a b out:List (Int×Int)) (v:Value),m=a.length+b.length∧out++e5 lt a b=M∧out.length+m=K∧R=bo 0 (jB v out)∧az=[(0,gr a),(1,gr b),(2,sg),(7,aQ v)]∧aU=[]
theorem K5{fx fy:Bool}{a b:List (Int×Int)}(aX:a.length≤100000)(aa:b.length≤100000) :
  aO ah 198 [gr a,gr b,xA fx fy] (gr (e5 (dX fx fy) a b)):=by
 refine bq (f:=198) Tryz.func198 rfl rfl rfl rfl ?_;refine s3 ?_;(refine aS ?_);refine yx (l:=0) (c':=a.length+b.length) 0 rfl rfl rfl rfl (dy _) rfl rfl ?h2 (jg (by omega)) rfl (fun v hv => ?_)
 case h2=>omega
 (refine aS ?_);refine jk 52 (WS (e5 (dX fx fy) a b) (dX fx fy) (xA fx fy) (a.length+b.length)) (a.length+b.length) (bo 0 (jB v [])) _ _ ⟨a,b,[],v,rfl,rfl,iR _,rfl,rfl,rfl⟩ (kX _ _ _) rfl ⟨rfl,rfl,rfl,rfl,trivial⟩ trivial rfl ?_;rintro m R az aU ⟨a',cE,out,v,rfl,fY,e9,rfl,rfl,rfl⟩ bE;clear bE hv
 by_cases Lj:0<a'.length
 ·by_cases Lk:0<cE.length
  ·have TC:(a'.length:Int)>0:=by omega
   have aiM:(cE.length:Int)>0:=by omega
   obtain⟨⟨x,n⟩,a2,rfl⟩:=List.exists_cons_of_length_pos Lj;obtain⟨⟨y,m⟩,b2,rfl⟩:=List.exists_cons_of_length_pos Lk;have hx:((bY ((x,n)::a2)).drop ((0:Int).toNat*2)).take 2=[.c (.int .i64 x),.c (.int .i64 n)]:=p7 (j:=0) (i:=0) rfl rfl;have zF:((bY ((y,m)::b2)).drop ((0:Int).toNat*2)).take 2=[.c (.int .i64 y),.c (.int .i64 m)]:=p7 (j:=0) (i:=0) rfl rfl;have bc:=ahr (x:=y) (y:=m) (z:=x) (w:=n) (l:=fx) (d:=fy) rfl;rw[show Ac y m x n fx fy=dX fx fy (y,m) (x,n) from rfl] at bc;cases bb:dX fx fy (y,m) (x,n) with
   | true =>
    rw[bb] at bc;have aI:((y,m)::b2).length-(1:Int).toNat=b2.length:=rfl;have aN:=QU (y,m) b2
    have I3:(out++[(y,m)])++e5 (dX fx fy) ((x,n)::a2) b2=e5 (dX fx fy) a b:=by
     rw[←fY,e5,if_pos bb,hl];rfl
    have pb:(out++[(y,m)]).length=out.length+1:=cY;have ir:((y,m)::b2).length=b2.length+1:=rfl;have acJ:((x,n)::a2).length=a2.length+1:=rfl;(repeat first|(with_reducible apply dz (id:=3) [0,1,2,3,4,5,6,7]);kernel_rfl;kernel_rfl;rfl|(with_reducible apply dz (id:=4) [0,1,2,3,6,7,4,5,8,9]);kernel_rfl;kernel_rfl;rfl|refine b3 ?_|(with_reducible apply eU);rfl;(repeat first|refine hP ?_|refine fA ?_|(with_reducible apply bT (c:=true));rfl;rfl;(exact ca (by omega)));(with_reducible apply dA));refine mL 0 rfl rfl rfl rfl ?q1 ?q2 rfl rfl (fun a8 bS => ?_)
    case q1=>exact jg (by show out.length+1≤1000000;omega)
    case q2=>show (out.length+1)*16≤140737488355328;omega
    (refine aS ?_)
    have cc:jB a8 (out++[(y,m)])=⟨50,2,a8,out.length+1,bY out++[.c (.int .i64 y),.c (.int .i64 m)]⟩:=by
     unfold jB;rw[←Ke,cY];rfl
    refine⟨_,bo 0 (jB a8 (out++[(y,m)])),_,_,?_,⟨(x,n)::a2,b2,out++[(y,m)],a8,rfl,I3,?_,rfl,rfl,rfl⟩,by rw[cc];exact kX _ _ _,rfl,⟨rfl,rfl,rfl,rfl,trivial⟩,trivial,rfl⟩
    ·omega
    ·omega
   | false =>
    rw[bb] at bc;have aI:((x,n)::a2).length-(1:Int).toNat=a2.length:=rfl;have aN:=QU (x,n) a2
    have I3:(out++[(x,n)])++e5 (dX fx fy) a2 ((y,m)::b2)=e5 (dX fx fy) a b:=by
     rw[←fY,e5,if_neg (by rw[bb];decide),hl];rfl
    have pb:(out++[(x,n)]).length=out.length+1:=cY;have ir:((y,m)::b2).length=b2.length+1:=rfl;have acJ:((x,n)::a2).length=a2.length+1:=rfl;(repeat first|(with_reducible apply dz (id:=3) [0,1,2,3,4,5,6,7]);kernel_rfl;kernel_rfl;rfl|(with_reducible apply dz (id:=5) [0,1,2,3,6,7,4,5,8,9]);kernel_rfl;kernel_rfl;rfl|refine b3 ?_|(with_reducible apply eU);rfl;(repeat first|refine hP ?_|refine fA ?_|(with_reducible apply bT (c:=true));rfl;rfl;(exact ca (by omega)));(with_reducible apply dA));refine mL 0 rfl rfl rfl rfl ?q1 ?q2 rfl rfl (fun a8 bS => ?_)
    case q1=>exact jg (by show out.length+1≤1000000;omega)
    case q2=>show (out.length+1)*16≤140737488355328;omega
    (refine aS ?_)
    have cc:jB a8 (out++[(x,n)])=⟨50,2,a8,out.length+1,bY out++[.c (.int .i64 x),.c (.int .i64 n)]⟩:=by
     unfold jB;rw[←Ke,cY];rfl
    refine⟨_,bo 0 (jB a8 (out++[(x,n)])),_,_,?_,⟨a2,(y,m)::b2,out++[(x,n)],a8,rfl,I3,?_,rfl,rfl,rfl⟩,by rw[cc];exact kX _ _ _,rfl,⟨rfl,rfl,rfl,rfl,trivial⟩,trivial,rfl⟩
    ·omega
    ·omega
  ·have TC:(a'.length:Int)>0:=by omega
   have aiM:¬(cE.length:Int)>0:=by omega
   have abO:cE=[]:=List.length_eq_zero_iff.1 (by omega);have aR:(a'.length:Int)=a'.length:=rfl;(repeat first|refine b3 ?_|(with_reducible apply eU);rfl;(repeat first|refine hP ?_|(with_reducible apply bT (c:=true));rfl;rfl;(exact ca (by omega)));(with_reducible apply dA));refine mL 0 rfl rfl rfl rfl ?q1 ?q2 (tF _) rfl (fun a8 bS => ?_)
   case q1=>exact jg (by show out.length+a'.length≤1000000;omega)
   case q2=>show (out.length+a'.length)*16≤140737488355328;omega
   (refine aS ?_);refine Qf (k:=(e5 (dX fx fy) a b).length) (zs:=bY (e5 (dX fx fy) a b)) 0 rfl rfl rfl rfl ?p1 ?p2 ?p3 ?p4 (tF _) rfl ?_
   case p1=>exact jg (by show (out.length+a'.length)+cE.length≤1000000;omega)
   case p2=>show ((out.length+a'.length)+cE.length)*16≤140737488355328;omega
   case p3=>show (out.length+a'.length)+cE.length=(e5 (dX fx fy) a b).length;rw[KI];omega
   case p4=>show (bY out++bY a')++bY cE=bY (e5 (dX fx fy) a b);rw[←fY,abO,KJ,←tE,QT,mS]
   (refine aS ?_)
   ((refine bm rfl (aZ rfl aM) ?_))
   exact ag.aV.refl _
 ·have TC:¬(a'.length:Int)>0:=by omega
  have abG:a'=[]:=List.length_eq_zero_iff.1 (by omega);(repeat first|refine b3 ?_|(with_reducible apply eU);rfl;(repeat first|refine hP ?_|(with_reducible apply bT (c:=false));rfl;rfl;(exact cm (by omega)));(with_reducible apply dA));refine mL 0 rfl rfl rfl rfl ?q1 ?q2 (tF _) rfl (fun a8 bS => ?_)
  case q1=>exact jg (by show out.length+a'.length≤1000000;omega)
  case q2=>show (out.length+a'.length)*16≤140737488355328;omega
  (refine aS ?_);refine Qf (k:=(e5 (dX fx fy) a b).length) (zs:=bY (e5 (dX fx fy) a b)) 0 rfl rfl rfl rfl ?p1 ?p2 ?p3 ?p4 (tF _) rfl ?_
  case p1=>exact jg (by show (out.length+a'.length)+cE.length≤1000000;omega)
  case p2=>show ((out.length+a'.length)+cE.length)*16≤140737488355328;omega
  case p3=>show (out.length+a'.length)+cE.length=(e5 (dX fx fy) a b).length;rw[KI];omega
  case p4=>show (bY out++bY a')++bY cE=bY (e5 (dX fx fy) a b);rw[←fY,abG,afT,QT,mS,←tE]
  (refine aS ?_)
  ((refine bm rfl (aZ rfl aM) ?_))
  exact ag.aV.refl _
theorem ahn{fx fy:Bool} :
  ∀(N:Nat) (l:List (Int×Int)),l.length≤N→N≤100000→aO ah 140 [gr l,xA fx fy] (gr (jG (dX fx fy) l)):=by
 intro N
 induction N with
 | zero =>
  intro l h1 h2;have eR:=K5 (fx:=fx) (fy:=fy) (a:=l) (b:=[]) (by omega) (by simp);rw[KJ] at eR
  have bc:aO ah 198 [gr l,Md,xA fx fy] (gr l):=Td eR rfl rfl (by
   intro i x y ab ai
   match i with
   | 0=>cases ab;cases ai;exact .refl _
   | 1=>cases ab;cases ai;exact nil_le 2
   | 2=>cases ab;cases ai;exact .refl _
   | i+3=>simp at ab)
  have q1:(l.length:Int)<2:=by omega
  have e:jG (dX fx fy) l=l:=by rw[jG,dif_pos (by omega)]
  rw[e];clear eR;refine bq (f:=140) Tryz.func140 rfl rfl rfl rfl ?_;(refine cQ ?_)
  ((refine bm rfl (aZ rfl aM) ?_))
  exact ag.aV.refl _
 | succ N ck =>
  intro l h1 h2
  by_cases q:l.length<2
  ·have eR:=K5 (fx:=fx) (fy:=fy) (a:=l) (b:=[]) (by omega) (by simp);rw[KJ] at eR
   have bc:aO ah 198 [gr l,Md,xA fx fy] (gr l):=Td eR rfl rfl (by
    intro i x y ab ai
    match i with
    | 0=>cases ab;cases ai;exact .refl _
    | 1=>cases ab;cases ai;exact nil_le 2
    | 2=>cases ab;cases ai;exact .refl _
    | i+3=>simp at ab)
   have q1:(l.length:Int)<2:=by omega
   have e:jG (dX fx fy) l=l:=by rw[jG,dif_pos (by omega)]
   rw[e];clear eR ck;refine bq (f:=140) Tryz.func140 rfl rfl rfl rfl ?_;(refine cQ ?_)
   ((refine bm rfl (aZ rfl aM) ?_))
   exact ag.aV.refl _
  ·have q1:¬(l.length:Int)<2:=by omega
   have e:jG (dX fx fy) l=e5 (dX fx fy) (jG (dX fx fy) (l.take (l.length/2))) (jG (dX fx fy) (l.drop (l.length/2))):=by rw[jG,dif_neg q]
   have bc:=ck (l.take (l.length/2)) (by simp;omega) (by omega);have bP:=ck (l.drop (l.length/2)) (by simp;omega) (by omega);have l1:=GM (dX fx fy) _ (l.take (l.length/2)) (cH _);have l2:=GM (dX fx fy) _ (l.drop (l.length/2)) (cH _);have ec:=K5 (fx:=fx) (fy:=fy) (a:=jG (dX fx fy) (l.take (l.length/2))) (b:=jG (dX fx fy) (l.drop (l.length/2))) (by rw[l1];simp;omega) (by rw[l2];simp;omega);have aY:((l.length:Int)/2).toNat=l.length/2:=by omega
   have aI:((l.length:Int)/2).toNat-0=(l.take (l.length/2)).length:=by rw[aY];simp;omega
   have aN:=aea l (l.length/2);have cc:((l.length:Int)).toNat-((l.length:Int)/2).toNat=(l.drop (l.length/2)).length:=by rw[aY];simp
   have ed:=ad9 l (l.length/2) (by omega);have iY:((bY l).drop (((l.length:Int)/2).toNat*2)).take ((l.drop (l.length/2)).length*2)=bY (l.drop (l.length/2)):=by rw[aY];exact ed
   rw[e];clear ck l1 l2 e ed aY;refine bq (f:=140) Tryz.func140 rfl rfl rfl rfl ?_;(repeat first|(with_reducible apply fT);rfl|(with_reducible apply rM);(iterate 3 rfl)|(with_reducible apply HL);(iterate 4 rfl);(omega);(omega);(omega);(assumption);(assumption);rfl|(with_reducible apply HM);(iterate 5 rfl);(omega);(omega);(omega);(omega);(assumption);(assumption);rfl|(with_reducible apply Yl);(iterate 3 rfl);omega;omega;omega;rfl|refine HG rfl rfl rfl rfl (by(first|exact bc|exact bP)) rfl ?_|refine HH rfl rfl rfl rfl rfl (by(exact ec)) rfl ?_|(with_reducible apply Nh);kernel_rfl|(with_reducible apply NB);kernel_rfl;kernel_rfl;rfl|(with_reducible first|apply NC|apply Nt|apply HQ|apply dA|apply HR|apply HS)|(with_reducible apply Nv);rfl;(exact cm (by omega)))
   ((refine bm rfl (aZ rfl aM) ?_))
   exact ag.aV.refl _
section
variable{P:Program}{aH:cT}{s:aB}{ops:Array Oper}{dr:Option (List Nat)}{ty d:Nat}{pos:String}{after:Array Edge}{guard:Option (Nat×Bool)}{K:aB→Prop}{rest:List Oper}
theorem HK{tt z n l lo hi:Nat}{v u:Value}{x y:Operand} [S:hy P tt z](hw:want ops ⟨some d,.slice tt x (some y) none none,ty,pos,after,guard⟩ s=some true)(ab:s.look x=some (aQ u))(ai:s.look y=some (aL (l:Int)))(hu:jP v z lo hi u)(hm:hi-lo=n)(h1:l≤n)(hd:Nat.blt d s.n=true)(h:bk P ops K rest (s.put (some d) (aQ (hM u z l n)))):bk P ops K (⟨some d,.slice tt x (some y) none none,ty,pos,after,guard⟩::rest) s:=by
 subst hm;obtain⟨⟨A,c,rfl⟩,_⟩:=hu;refine fU (av:=aQ (hM (.slice A (hi-lo) c) z l (hi-lo))) hw ⟨fun _ _ h=>(by cases h),fun q aj => ?_,fun U ad W env he => ?_,fun j af=>absurd af (gG _ j)⟩ hd h
 ·simp[Op.operands] at aj;rcases aj with rfl|rfl
  ·exact⟨_,ab⟩
  ·exact⟨_,ai⟩
 ·have ex:env x = .slice A (hi-lo) c:=(he x (by simp[Op.operands]) _ ab).1;have jR:env y = .int .i64 (l:Int):=(he y (by simp[Op.operands]) _ ai).1;obtain⟨e',fc,hu,b4,hs⟩:=mU S.h;have eW:P.underlying tt=some (.slice (P.elem tt)):=by rw[jQ hu];exact hu
  refine⟨hM (.slice A (hi-lo) c) z l (hi-lo),?_,rfl,rfl⟩;simp only[execOp,ex,gU,rb,jR,Sem.run_bind,run_sliceAt_slice W tt _ _ _ _ eW,run_slice_l W tt A (hi-lo) c eW .i64 l (by omega) (by omega),jQ hu,ia b4,Result.andThen_ok,hs,Sem.run_pure,kz,hM]
theorem Ym{tt z n l lo hi:Nat}{v u:Value}{x y:Operand} [S:hy P tt z](hw:want ops ⟨some d,.slice tt x none (some y) none,ty,pos,after,guard⟩ s=some true)(ab:s.look x=some (aQ u))(ai:s.look y=some (aL (l:Int)))(hu:jP v z lo hi u)(hm:hi-lo=n)(h1:l≤n)(hd:Nat.blt d s.n=true)(h:bk P ops K rest (s.put (some d) (aQ (hM u z 0 l)))):bk P ops K (⟨some d,.slice tt x none (some y) none,ty,pos,after,guard⟩::rest) s:=by
 subst hm;obtain⟨⟨A,c,rfl⟩,ak⟩:=hu
 have JB:l≤c:=by
  rcases xf l with e|e
  ·omega
  ·have aY:=ak (show lo<hi by omega);obtain⟨g,n',c',g1,g2,g3⟩:=aY;have ed:c=c'-lo:=by injection g3
   clear g1 g3 ak;omega
 refine fU (av:=aQ (hM (.slice A (hi-lo) c) z 0 l)) hw ⟨fun _ _ h=>(by cases h),fun q aj => ?_,fun U ad W env he => ?_,fun j af=>absurd af (gG _ j)⟩ hd h
 ·simp[Op.operands] at aj;rcases aj with rfl|rfl
  ·exact⟨_,ab⟩
  ·exact⟨_,ai⟩
 ·have ex:env x = .slice A (hi-lo) c:=(he x (by simp[Op.operands]) _ ab).1;have jR:env y = .int .i64 (l:Int):=(he y (by simp[Op.operands]) _ ai).1;obtain⟨e',fc,hu,b4,hs⟩:=mU S.h;have eW:P.underlying tt=some (.slice (P.elem tt)):=by rw[jQ hu];exact hu
  refine⟨hM (.slice A (hi-lo) c) z 0 l,?_,rfl,rfl⟩;simp only[execOp,ex,gU,rb,jR,Sem.run_bind,run_sliceAt_slice W tt _ _ _ _ eW,run_slice_h W tt A (hi-lo) c eW .i64 l (by omega) (by omega),jQ hu,ia b4,Result.andThen_ok,hs,Sem.run_pure,kz,hM]
end
theorem LU{A C MY:List AC}{n:Nat}(h:A.length=n):eM (A++MY) n C=(A++C)++MY.drop C.length:=by
 subst h;unfold eM;rw[List.take_left,List.drop_append,re (by omega),tU,Nat.add_sub_cancel_left]
theorem QV{l:List aq}{n:Nat}(h:l.length=n):(bY l).take (n*2)=bY l:=gV (by rw[oa];omega)
theorem QH{l:List Int}{n:Nat}(h:l.length=n):(cJ l).take (n*1)=cJ l:=gV (by simp[cJ];omega)
theorem QG(l:List Int):(cJ l).all AC.aW=true:=b5.2 fun y ai=>by
 obtain⟨x,_,rfl⟩:=fO.1 ai;rfl
theorem Ft(l:List Int):(cJ l).length=l.length*1:=by simp[cJ]
abbrev Gx(LL:List (List aq)):List AC:=LL.map fun l=>AC.p (b0 2 l.length (bY l))
abbrev GX(LL:List (List aq)):ag:=cD 1 LL.length (Gx LL)
theorem Ui{LL:List (List aq)}{j:Int}{i:Nat}{l:List aq}(af:j=i)(h:LL[i]?=some l):((Gx LL).drop (j.toNat*1)).take 1=[.p (b0 2 l.length (bY l))]:=by
 subst af;have hi:=(br.1 h).1;rw[kz,Nat.mul_one,jE (by simpa [Gx] using hi)];have:LL[i]=l:=(br.1 h).2;simp[Gx,this]
def iO(LL:List (List aq))(i:Nat):List aq:=(LL.take i).flatten
theorem Tr{LL:List (List aq)}{i:Nat}{l:List aq}(h:LL[i]?=some l):iO LL (i+1)=iO LL i++l:=by
 unfold iO;rw[ls (br.1 h).1,(br.1 h).2];simp
theorem Tp{LL:List (List aq)}{i:Nat}(h:LL.length≤i):iO LL i=LL.flatten:=by unfold iO;rw[gV h]
theorem Tq(LL:List (List aq))(i:Nat):(iO LL i).length≤LL.flatten.length:=by
 have:LL.flatten=iO LL i++(LL.drop i).flatten:=by unfold iO;rw[←List.flatten_append,j8]
 rw[this,cY];omega
def WK(LL:List (List aq))(n:Nat)(R:aE)(az:List (Nat×ag))(aU:List (Nat×List AC)):Prop :=
 ∃(i:Nat) (ii qc:Int),i≤LL.length∧n=LL.length-i∧ii=i∧qc=((iO LL i).length:Nat)∧R=dP∧aU=[]∧az=[(0,GX LL),(3,aL qc),(10,GX LL),(11,aL LL.length),(12,aL ii)]
def WL(LL:List (List aq))(N:Nat)(v:Value)(fH:List AC)(n:Nat)(R:aE)(az:List (Nat×ag))(aU:List (Nat×List AC)):Prop :=
 ∃(i:Nat) (ii:Int) (u:Value),i≤LL.length∧n=LL.length-i∧ii=i∧jP v 2 (iO LL i).length N u∧R=bo 0 ⟨50,2,v,N,bY (iO LL i)++fH.drop ((iO LL i).length*2)⟩∧aU=[]∧az=[(6,aQ v),(7,aQ u),(24,GX LL),(25,aL LL.length),(26,aL ii)]
theorem SW{LL:List (List aq)}(dj:LL.length≤1100)(fZ:LL.flatten.length≤100000):aO ah 217 [GX LL] (gr LL.flatten):=by
 refine bq (f:=217) Tryz.func217 rfl rfl rfl rfl ?_;refine s3 ?_;(refine aS ?_);refine jk 37 (WK LL) LL.length dP _ [] ⟨0,0,0,dy _,rfl,rfl,rfl,rfl,rfl,rfl⟩ (ba.refl _) rfl ⟨rfl,rfl,rfl,rfl,rfl,trivial⟩ trivial rfl ?_;rintro n R az aU ⟨i,ii,qc,hi,rfl,er,Bi,rfl,rfl,rfl⟩ bE;clear bE
 by_cases aj:i<LL.length
 ·have q2:ii<(LL.length:Int):=by omega
  have q3:0≤ii:=by omega
  obtain⟨l,g1⟩:∃l,LL[i]?=some l:=⟨_,bG aj⟩;have hx:=Ui er g1;have h1:=Tr g1;have h2:=Tq LL (i+1);have ar:(iO LL (i+1)).length=(iO LL i).length+l.length:=by rw[h1,cY]
  (refine aS ?_);exact⟨LL.length-(i+1),dP,_,[],by omega,⟨i+1,ii+1,_,by omega,rfl,by omega,by omega,rfl,rfl,rfl⟩,ba.refl _,rfl,⟨rfl,rfl,rfl,rfl,rfl,trivial⟩,trivial,rfl⟩
 ·have q2:¬ii<(LL.length:Int):=by omega
  rw[Tp (by omega)] at Bi;subst Bi;generalize AU:LL.flatten.length=N at *;(refine aS ?_);refine yx (l:=N) (c':=N) 0 rfl rfl rfl rfl (cH _) rfl rfl ?h2 (jg (by omega)) rfl (fun v hv => ?_)
  case h2=>show 16*N≤281474976710656;omega
  generalize dZ:iS N 2 _=fH;have EL:fH.length=N*2:=by rw[←dZ];simp[iS]
  clear dZ;(refine aS ?_);refine LC 0 (r:=⟨50,2,v,N,fH⟩) rfl (fun fb c jt eK jV cp hlen => ?_);have mN:v = .slice fb N c:=jt;have tw:jP v 2 0 N v:=by rw[mN];exact jP.all 2 eK cp
  clear jt eK jV cp hlen;refine jk 37 (WL LL N v fH) LL.length (bo 0 ⟨50,2,v,N,fH⟩) _ [] ⟨0,0,v,dy _,rfl,rfl,tw,rfl,rfl,rfl⟩ (kX _ _ _) rfl ⟨rfl,rfl,rfl,rfl,rfl,trivial⟩ trivial rfl ?_;clear aj q2 tw er mN;rintro n R az aU ⟨i,ii,u,hi,rfl,er,hu,rfl,rfl,rfl⟩ bE;clear bE
  by_cases aj:i<LL.length
  ·have q2:ii<(LL.length:Int):=by omega
   have q3:0≤ii:=by omega
   obtain⟨l,g1⟩:∃l,LL[i]?=some l:=⟨_,bG aj⟩;have hx:=Ui er g1;have h1:=Tr g1;have h2:=Tq LL (i+1);have ar:(iO LL (i+1)).length=(iO LL i).length+l.length:=by rw[h1,cY]
   rw[AU] at h2;have c1:=tF l;have bB:Nat.min l.length (N-(iO LL i).length)=l.length:=qn (by omega);obtain⟨m,hm⟩:∃m,N-(iO LL i).length=m:=⟨_,rfl⟩;have b1:(iO LL i).length≤N:=by omega
   have b2:l.length≤m:=by omega
   have s1:eM (bY (iO LL i)++fH.drop ((iO LL i).length*2)) ((iO LL i).length*2) ((bY l).take (l.length*2))=bY (iO LL (i+1))++fH.drop ((iO LL (i+1)).length*2):=by
    rw[QV rfl,LU (oa _),←tE,←h1,List.drop_drop,oa];congr 2;omega
   have eW:=hu.sl hm b2 b1;rw[←ar] at eW;(repeat first|refine b3 ?_|(with_reducible apply eU);rfl;(repeat first|refine hP ?_|(with_reducible apply HK);(iterate 3 rfl);assumption;(assumption);(assumption);rfl);(with_reducible apply dA)|(with_reducible apply Qg 0);(iterate 3 rfl);assumption;rfl;rfl;rfl;(assumption);(exact cH _);(assumption);rfl;assumption;assumption;rfl);exact⟨LL.length-(i+1),_,_,[],by omega,⟨i+1,ii+1,_,by omega,rfl,by omega,eW,rfl,rfl,rfl⟩,kX _ _ _,rfl,⟨rfl,rfl,rfl,rfl,rfl,trivial⟩,trivial,rfl⟩
  ·have q2:¬ii<(LL.length:Int):=by omega
   have cy:bY (iO LL i)++fH.drop ((iO LL i).length*2)=bY LL.flatten:=by
    rw[Tp (by omega),re (by omega),mS]
   rw[cy];refine zf 0 6 ⟨50,2,v,N,bY LL.flatten⟩ rfl rfl ?_;rw[←AU];(refine aS ?_)
   ((refine bm rfl (aZ rfl aM) ?_))
   exact ag.aV.refl _
abbrev Gy(LL:List (List Int)):List AC:=LL.map fun l=>AC.p (b0 1 l.length (cJ l))
abbrev GW(LL:List (List Int)):ag:=cD 1 LL.length (Gy LL)
theorem Uj{LL:List (List Int)}{j:Int}{i:Nat}{l:List Int}(af:j=i)(h:LL[i]?=some l):((Gy LL).drop (j.toNat*1)).take 1=[.p (b0 1 l.length (cJ l))]:=by
 subst af;have hi:=(br.1 h).1;rw[kz,Nat.mul_one,jE (by simpa [Gy] using hi)];have:LL[i]=l:=(br.1 h).2;simp[Gy,this]
def iN(LL:List (List Int))(i:Nat):List Int:=(LL.take i).flatten
theorem To{LL:List (List Int)}{i:Nat}{l:List Int}(h:LL[i]?=some l):iN LL (i+1)=iN LL i++l:=by
 unfold iN;rw[ls (br.1 h).1,(br.1 h).2];simp
theorem Tm{LL:List (List Int)}{i:Nat}(h:LL.length≤i):iN LL i=LL.flatten:=by unfold iN;rw[gV h]
theorem Tn(LL:List (List Int))(i:Nat):(iN LL i).length≤LL.flatten.length:=by
 have:LL.flatten=iN LL i++(LL.drop i).flatten:=by unfold iN;rw[←List.flatten_append,j8]
 rw[this,cY];omega
def WI(LL:List (List Int))(n:Nat)(R:aE)(az:List (Nat×ag))(aU:List (Nat×List AC)):Prop :=
 ∃(i:Nat) (ii qc:Int),i≤LL.length∧n=LL.length-i∧ii=i∧qc=((iN LL i).length:Nat)∧R=dP∧aU=[]∧az=[(0,GW LL),(3,aL qc),(10,GW LL),(11,aL LL.length),(12,aL ii)]
def WJ(LL:List (List Int))(N:Nat)(v:Value)(fH:List AC)(n:Nat)(R:aE)(az:List (Nat×ag))(aU:List (Nat×List AC)):Prop :=
 ∃(i:Nat) (ii:Int) (u:Value),i≤LL.length∧n=LL.length-i∧ii=i∧jP v 1 (iN LL i).length N u∧R=bo 0 ⟨3,1,v,N,cJ (iN LL i)++fH.drop ((iN LL i).length*1)⟩∧aU=[]∧az=[(6,aQ v),(7,aQ u),(24,GW LL),(25,aL LL.length),(26,aL ii)]
theorem SV{LL:List (List Int)}(dj:LL.length≤1100)(fZ:LL.flatten.length≤100000):aO ah 218 [GW LL] (nJ LL.flatten):=by
 refine bq (f:=218) Tryz.func218 rfl rfl rfl rfl ?_;refine s3 ?_;(refine aS ?_);refine jk 37 (WI LL) LL.length dP _ [] ⟨0,0,0,dy _,rfl,rfl,rfl,rfl,rfl,rfl⟩ (ba.refl _) rfl ⟨rfl,rfl,rfl,rfl,rfl,trivial⟩ trivial rfl ?_;rintro n R az aU ⟨i,ii,qc,hi,rfl,er,Bi,rfl,rfl,rfl⟩ bE;clear bE
 by_cases aj:i<LL.length
 ·have q2:ii<(LL.length:Int):=by omega
  have q3:0≤ii:=by omega
  obtain⟨l,g1⟩:∃l,LL[i]?=some l:=⟨_,bG aj⟩;have hx:=Uj er g1;have h1:=To g1;have h2:=Tn LL (i+1);have ar:(iN LL (i+1)).length=(iN LL i).length+l.length:=by rw[h1,cY]
  (refine aS ?_);exact⟨LL.length-(i+1),dP,_,[],by omega,⟨i+1,ii+1,_,by omega,rfl,by omega,by omega,rfl,rfl,rfl⟩,ba.refl _,rfl,⟨rfl,rfl,rfl,rfl,rfl,trivial⟩,trivial,rfl⟩
 ·have q2:¬ii<(LL.length:Int):=by omega
  rw[Tm (by omega)] at Bi;subst Bi;generalize AU:LL.flatten.length=N at *;(refine aS ?_);refine yx (l:=N) (c':=N) 0 rfl rfl rfl rfl (cH _) rfl rfl ?h2 (jg (by omega)) rfl (fun v hv => ?_)
  case h2=>show 8*N≤281474976710656;omega
  generalize dZ:iS N 1 _=fH;have EL:fH.length=N*1:=by rw[←dZ];simp[iS]
  clear dZ;(refine aS ?_);refine LC 0 (r:=⟨3,1,v,N,fH⟩) rfl (fun fb c jt eK jV cp hlen => ?_);have mN:v = .slice fb N c:=jt;have tw:jP v 1 0 N v:=by rw[mN];exact jP.all 1 eK cp
  clear jt eK jV cp hlen;refine jk 37 (WJ LL N v fH) LL.length (bo 0 ⟨3,1,v,N,fH⟩) _ [] ⟨0,0,v,dy _,rfl,rfl,tw,rfl,rfl,rfl⟩ (kX _ _ _) rfl ⟨rfl,rfl,rfl,rfl,rfl,trivial⟩ trivial rfl ?_;clear aj q2 tw er mN;rintro n R az aU ⟨i,ii,u,hi,rfl,er,hu,rfl,rfl,rfl⟩ bE;clear bE
  by_cases aj:i<LL.length
  ·have q2:ii<(LL.length:Int):=by omega
   have q3:0≤ii:=by omega
   obtain⟨l,g1⟩:∃l,LL[i]?=some l:=⟨_,bG aj⟩;have hx:=Uj er g1;have h1:=To g1;have h2:=Tn LL (i+1);have ar:(iN LL (i+1)).length=(iN LL i).length+l.length:=by rw[h1,cY]
   rw[AU] at h2;have c1:=QG l;have bB:Nat.min l.length (N-(iN LL i).length)=l.length:=qn (by omega);obtain⟨m,hm⟩:∃m,N-(iN LL i).length=m:=⟨_,rfl⟩;have b1:(iN LL i).length≤N:=by omega
   have b2:l.length≤m:=by omega
   have s1:eM (cJ (iN LL i)++fH.drop ((iN LL i).length*1)) ((iN LL i).length*1) ((cJ l).take (l.length*1))=cJ (iN LL (i+1))++fH.drop ((iN LL (i+1)).length*1):=by
    rw[QH rfl,LU (Ft _),←BG,←h1,List.drop_drop,Ft];congr 2;omega
   have eW:=hu.sl hm b2 b1;rw[←ar] at eW;(repeat first|refine b3 ?_|(with_reducible apply eU);rfl;(repeat first|refine hP ?_|(with_reducible apply HK);(iterate 3 rfl);assumption;(assumption);(assumption);rfl);(with_reducible apply dA)|(with_reducible apply Qg 0);(iterate 3 rfl);assumption;rfl;rfl;rfl;(assumption);(exact cH _);(assumption);rfl;assumption;assumption;rfl);exact⟨LL.length-(i+1),_,_,[],by omega,⟨i+1,ii+1,_,by omega,rfl,by omega,eW,rfl,rfl,rfl⟩,kX _ _ _,rfl,⟨rfl,rfl,rfl,rfl,rfl,trivial⟩,trivial,rfl⟩
  ·have q2:¬ii<(LL.length:Int):=by omega
   have cy:cJ (iN LL i)++fH.drop ((iN LL i).length*1)=cJ LL.flatten:=by
    rw[Tm (by omega),re (by omega),mS]
   rw[cy];refine zf 0 6 ⟨3,1,v,N,cJ LL.flatten⟩ rfl rfl ?_;rw[←AU];(refine aS ?_)
   ((refine bm rfl (aZ rfl aM) ?_))
   exact ag.aV.refl _
theorem ahi{x y:Nat}(ab:x<9223372036854775808)(ai:y<9223372036854775808)(h:x*y<9223372036854775808):aO ah 292 [aQ (.int .u64 (x:Nat)),aQ (.int .u64 (y:Nat))] (.cd [.one (.c (.int .u64 0)),.one (.c (.int .u64 ((x*y:Nat):Int)))]):=by
 refine iz [.int .u64 (x:Nat),.int .u64 (y:Nat)] (.tuple #[.int .u64 0,.int .u64 ((x*y:Nat):Int)]) rfl rfl rfl rfl rfl fun W => ?_;refine(Tryz.bits_Mul64 x y (by omega) (by omega) W).mono ?_;rintro e w' ⟨rfl,rfl⟩;have aI:x*y/18446744073709551616=0:=Nat.div_eq_of_lt (by omega);have aN:x*y % 18446744073709551616=x*y:=Nat.mod_eq_of_lt (by omega);rw[aI,aN];exact⟨rfl,Below.refl _ _⟩
theorem ahg{y:Nat}(ai:y<9223372036854775808):aO ah 251 [aQ (.int .u64 1),aQ (.int .u64 (y:Nat))] (.cd [.one (.c (.int .u64 0)),.one (.c (.int .u64 (y:Nat)))]):=by
 have bc:=ahi (x:=1) (y:=y) (by decide) ai (by omega);rw[Nat.one_mul] at bc
 replace bc:aO ah 292 [aQ (.int .u64 1),aQ (.int .u64 (y:Nat))] (.cd [.one (.c (.int .u64 0)),.one (.c (.int .u64 (y:Nat)))]):=bc
 refine bq (f:=251) Tryz.func251 rfl rfl rfl rfl ?_;(refine cQ ?_)
 ((refine bm rfl (aZ rfl (aZ rfl aM)) ?_))
 exact ag.aV.refl _
def Xb(d:Int)(m:Nat)(v:Value)(fH:List AC)(n:Nat)(R:aE)(az:List (Nat×ag))(aU:List (Nat×List AC)):Prop :=
 ∃(k:Nat) (ef:Int),1≤k∧k≤m∧n=m-k∧ef=k∧R=bo 0 ⟨3,1,v,m,cJ (List.replicate k d)++fH.drop k⟩∧aU=[]∧az=[(7,aQ v),(8,aL ef)]
theorem ahk{d:Int}{m:Nat}(yq:1≤m)(hm:m≤100000):aO ah 195 [nJ [d],aL m] (nJ (List.replicate m d)):=by
 have zO:=ahg (y:=m) (by omega);have w1:IntKind.u64.wrap (m:Int)=m:=by rw[IntKind.wrap_u64];omega
 have w2:IntKind.i64.wrap (m:Int)=m:=jd (by omega);have dl:¬(m:Int)<0:=by omega
 have q1:¬(m:Int)>9223372036854775807:=by omega
 have bB:Nat.min 1 m=1:=qn yq;refine bq (f:=195) Tryz.func195 rfl rfl rfl rfl ?_;refine s3 ?_;(refine oR ?_);refine yx (l:=m) (c':=m) 0 rfl rfl rfl rfl (cH _) rfl rfl ?h2 (jg (by omega)) rfl (fun v hv => ?_)
 case h2=>show 8*m≤281474976710656;omega
 generalize dZ:iS m 1 _=fH;have EL:fH.length=m:=by rw[←dZ];simp[iS]
 have abF:fH.all AC.aW=true:=by
  rw[←dZ];refine b5.2 fun y ai => ?_;simp only[iS,fO] at ai;obtain⟨j,_,rfl⟩:=ai;rfl
 clear dZ
 have s1:eM fH (0*1) ((cJ [d]).take (1*1))=cJ (List.replicate 1 d)++fH.drop 1:=by
  unfold eM;simp[cJ]
 (repeat first|refine b3 ?_|(with_reducible apply adl 0);(iterate 6 rfl);(rfl);rfl;(assumption);(assumption);rfl);refine LC 0 (r:=⟨3,1,v,m,cJ (List.replicate 1 d)++fH.drop 1⟩) rfl (fun fb c jt eK jV cp hlen => ?_);have mN:v = .slice fb m c:=jt;have hu:jP v 1 0 m v:=by rw[mN];exact jP.all 1 eK cp
 clear jt eK jV cp hlen mN;refine jk 48 (Xb d m v fH) (m-1) (bo 0 ⟨3,1,v,m,cJ (List.replicate 1 d)++fH.drop 1⟩) _ [] ⟨1,1,cH _,yq,rfl,rfl,rfl,rfl,rfl⟩ (kX _ _ _) rfl ⟨rfl,rfl,trivial⟩ trivial rfl ?_;clear zO w1 w2 dl q1 bB s1;rintro n R az aU ⟨k,ef,n1,ae,rfl,rfl,rfl,rfl,rfl⟩ bE;clear bE
 by_cases aj:k<m
 ·have q2:(k:Int)<(m:Int):=by omega
  obtain⟨x,ab⟩:∃x,Nat.min k (m-k)=x:=⟨_,rfl⟩;have amS:1≤x:=by rw[←ab];exact Nat.le_min.2 ⟨n1,by omega⟩
  have adH:x≤k:=by rw[←ab];exact Nat.min_le_left _ _
  have amT:x≤m-k:=by rw[←ab];exact Nat.min_le_right _ _
  have m0:m-0=m:=Nat.sub_zero m;have cM:=hu.sl m0 ae (dy _);have cN:=hu.aks (k:=k) (by omega);rw[iR] at cM cN;have cy:0+k=k:=iR k
  have gO:(cJ (List.replicate k d)++fH.drop k).all AC.aW=true:=by
   rw[List.all_append,QG,pr];exact b5.2 fun y ai=>b5.1 abF y (oi ai)
  have s1:eM (cJ (List.replicate k d)++fH.drop k) (k*1) ((((cJ (List.replicate k d)++fH.drop k).drop (0*1)).take (k*1)).take (x*1))=cJ (List.replicate (k+x) d)++fH.drop (k+x):=by
   have lk:(cJ (List.replicate k d)).length=k*1:=by simp[cJ]
   rw[Nat.zero_mul,List.drop_zero,←lk,List.take_left,LU rfl]
   have cc:(cJ (List.replicate k d)).take (x*1)=cJ (List.replicate x d):=by
    simp only[cJ,List.map_replicate,Nat.mul_one,List.take_replicate];rw[qn adH]
   rw[cc,List.drop_drop,←BG,List.replicate_append_replicate,show (cJ (List.replicate x d)).length=x by simp[cJ]]
  have w1:IntKind.i64.wrap ((k:Int)+(x:Int))=(k:Int)+(x:Int):=jd (by omega);(repeat first|(with_reducible apply dz (id:=9) [0,1,2,3,4,5,6,7,8,9]);kernel_rfl;kernel_rfl;rfl|refine b3 ?_|(with_reducible apply eU);rfl;(repeat first|refine hP ?_|(with_reducible apply HK);(iterate 3 rfl);assumption;(assumption);(assumption);rfl|(with_reducible apply Ym);(iterate 3 rfl);assumption;(assumption);(assumption);rfl);(with_reducible apply dA)|(with_reducible apply oy 0);(iterate 4 rfl);kernel_rfl;rfl|(with_reducible apply adm 0);(iterate 3 rfl);assumption;rfl;assumption;assumption;assumption;rfl;rfl;(assumption);(exact cH _);(assumption);rfl;assumption;assumption;rfl);exact⟨m-(k+x),_,_,[],by omega,⟨k+x,(k:Int)+(x:Int),by omega,by omega,rfl,by omega,rfl,rfl,rfl⟩,kX _ _ _,rfl,⟨rfl,rfl,trivial⟩,trivial,rfl⟩
 ·have q2:¬(k:Int)<(m:Int):=by omega
  have cy:cJ (List.replicate k d)++fH.drop k=cJ (List.replicate m d):=by
   rw[show k=m by omega,re (by omega),mS]
  rw[cy];refine zf 0 7 ⟨3,1,v,m,cJ (List.replicate m d)⟩ rfl rfl ?_
  have el:cD 1 m (cJ (List.replicate m d))=nJ (List.replicate m d):=by
   show cD 1 m _=cD 1 (List.replicate m d).length _;rw[List.length_replicate]
  rw[←el];(refine aS ?_)
  ((refine bm rfl (aZ rfl aM) ?_))
  exact ag.aV.refl _
end Go.Proofs.YtklpfooafbjnpaaGreat
namespace Go.Proofs.YtklpfooafbjnpaaGreat
def w6(p q:aq):List aq:=if p=q then [p] else [p,q]
def w5(p q:aq):List Int:=if p=q then [] else [1]
end Go.Proofs.YtklpfooafbjnpaaGreat
namespace Go.Proofs.YtklpfooafbjnpaaGreat
open Go.RowKit
open Classical in
noncomputable def xl(r:Nat)(V:List aq)(D:List Int):Bool:=decide (xm r V D)
theorem Ul{r:Nat}{V:List aq}{D:List Int}(h:xm r V D):xl r V D=true:=by unfold xl;exact @decide_eq_true _ (Classical.propDecidable _) h
theorem ajB{r:Nat}{V:List aq}{D:List Int}(h:¬xm r V D):xl r V D=false:=by unfold xl;exact @decide_eq_false _ (Classical.propDecidable _) h
def mB(D:List Int):Int:=D.foldl max 0
theorem ZM{D:List Int}{m:Int}(aF:0≤m)(h:∀d∈D,d≤m):0≤mB D∧mB D≤m:=by
 have key:∀(D:List Int) (n:Int),0≤n→n≤m→(∀d∈D,d≤m)→0≤D.foldl max n∧D.foldl max n≤m:=by
  intro D
  induction D with
  | nil=>intro n g1 g2 _;exact⟨g1,g2⟩
  | cons d D ck =>
   intro n g1 g2 g3;rw[tR];have:=g3 d (hn ..);exact ck _ (by omega) (by omega) fun e he=>g3 e (kU _ he)
 exact key D 0 (oM _) aF h
def V9:Prop:=∀x y z w:Int,aO ah 191 [bn x y,bn z w] (pw (w6 (x,y) (z,w)) (w5 (x,y) (z,w)))
def We:Prop:=∀(V:List aq) (D:List Int) (j:Nat) (l:List aq),V.length=D.length+1→V.length≤1100→l.length≤1100→j<D.length→(∀d∈D,1≤d∧d≤1048576) →
 aO ah 139 [pw V D,aL j,gr l] (.cd [.agg (wW (if l.isEmpty then [] else GK V j l) (if l.isEmpty then [] else CJ D j l.length)),.one (.c (.bool (!l.isEmpty)))])
def Mv:Prop:=∀(V:List aq) (D:List Int) (r:Nat),r≤28→V.length≤1100→D.length≤1100→(∀v∈V,Di v)→(∀d∈D,0≤d∧d≤9223372036854775807)→aO ah 258 [pw V D,aL r] (bl (xl r V D))
def Mu:Prop:=∀(V:List aq) (D:List Int),V.length≤1100→D.length≤1100→aO ah 76 [pw V D] (aL (mB D))
def V6:Prop:=∀(V:List aq) (D:List Int),V.length≤1100→D.length≤1100→aO ah 155 [pw V D] (pw V D)
theorem Y7:ag.aV (.w (.agg [.c (.slice none 0 0),.c (.slice none 0 0)])) (pw [] []):=DH rfl fun j x y ab ai=>by
 match j with
 | 0=>cases ab;cases ai;exact .inr ⟨rfl,2,rfl⟩
 | 1=>cases ab;cases ai;exact .inr ⟨rfl,1,rfl⟩
 | j+2=>simp at ab
end Go.Proofs.YtklpfooafbjnpaaGreat
