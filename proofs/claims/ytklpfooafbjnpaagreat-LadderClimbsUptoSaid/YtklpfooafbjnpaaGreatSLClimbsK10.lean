/-
  My own texts,without what this claim does not need. My own text.
-/
import Derived.Laws.BytesArg
import Derived.Test.YtklpfooafbjnpaaGreatSLClimbsK9
set_option maxRecDepth 100000
set_option maxHeartbeats 64000000
set_option linter.unusedVariables false
set_option linter.unusedSimpArgs false
set_option linter.unusedSectionVars false
open Go.Proofs.Tryz renaming prog → ah
namespace Go.Proofs.YtklpfooafbjnpaaGreat
open Go.RowKit
theorem TK{n m:Int}(aF : -9223372036854775808≤n)(h1:n<9223372036854775808)(ee : -9223372036854775808≤m)(bx:m<9223372036854775808):aP ah 246 [aL n,aL m] (gK (n*m)):=by
 have aZ:=vB aF h1;have bM:=vB ee bx;have eh:=ahV (Pl aF h1) (Pl ee bx);rw[xU (alL aF h1 ee bx)] at eh;clear aF h1 ee bx;refine bq (f:=246) Tryz.func246 rfl rfl rfl rfl ?_;(refine cR ?_)
 ((refine bn rfl (da rfl rfl rfl aM) ?_))
 exact ag.aW.refl _
theorem aaJ(a b c d a' cx c' d':Int)(W:World):(Op.equalIn 10000 237 (.agg #[.int .i64 a,.int .i64 b,.int .i64 c,.int .i64 d]) (.agg #[.int .i64 a',.int .i64 cx,.int .i64 c',.int .i64 d'])).run ah W = .ok (wJ a b c d a' cx c' d') W:=by
 unfold wJ dG
 go_simp
 by_cases h1:a=a' <;> by_cases h2:b=cx <;> by_cases ar:c=c' <;> by_cases aJ:d=d' <;> simp[h1,h2,ar,aJ]
instance anI:MX ah 237:=⟨by kernel_rfl,aaJ⟩
theorem ai2{a b c d:Int}:(qz a b c d>0↔¬dO a b c d):=by
 unfold qz dO;cases h:dG a b c d with
 | true=>rw[tm] at h;rw[if_pos rfl];omega
 | false =>
  have:¬(a=c∧b=d):=fun k=>by rw[tm.2 k] at h;cases h
  rw[if_neg (by simp)]
  split <;> omega
theorem Ls{a1 a2 b1 b2:Int}:aP ah 241 [bm a1 a2,bm b1 b2] (.cj [.agg [.c (.int .i64 (eY a1 a2 b1 b2)),.c (.int .i64 (eG a1 a2 b1 b2))],.agg [.c (.int .i64 (er a1 a2 b1 b2)),.c (.int .i64 (ej a1 a2 b1 b2))]]):=by
 have aZ:=aiQ (a:=a1) (b:=a2) (c:=b1) (d:=b2);have h:=ai2 (a:=a1) (b:=a2) (c:=b1) (d:=b2)
 have cs:(qz a1 a2 b1 b2>0∧eY a1 a2 b1 b2=b1∧eG a1 a2 b1 b2=b2∧er a1 a2 b1 b2=a1∧ej a1 a2 b1 b2=a2)∨(¬qz a1 a2 b1 b2>0∧eY a1 a2 b1 b2=a1∧eG a1 a2 b1 b2=a2∧er a1 a2 b1 b2=b1∧ej a1 a2 b1 b2=b2):=by
  rw[h];unfold eY eG er ej
  by_cases k:dO a1 a2 b1 b2 <;> simp[k]
 clear h;generalize eY a1 a2 b1 b2=l1 at *;generalize eG a1 a2 b1 b2=l2 at *;generalize er a1 a2 b1 b2=h1 at *;generalize ej a1 a2 b1 b2=h2 at *;generalize qz a1 a2 b1 b2=c at *;rcases cs with ⟨q,rfl,rfl,rfl,rfl⟩|⟨q,rfl,rfl,rfl,rfl⟩
 all_goals
  refine bq (f:=241) Tryz.func241 rfl rfl rfl rfl ?_;(refine cR ?_)
  ((refine bn rfl (da rfl rfl rfl (da rfl rfl rfl aM)) ?_))
  exact ag.aW.refl _
theorem Gs{a1 a2 b1 b2:Int}:aP ah 186 [bm a1 a2,bm b1 b2] (kl (eY a1 a2 b1 b2) (eG a1 a2 b1 b2) (er a1 a2 b1 b2) (ej a1 a2 b1 b2)):=by
 have aZ:=Ls (a1:=a1) (a2:=a2) (b1:=b1) (b2:=b2);generalize eY a1 a2 b1 b2=l1 at *;generalize eG a1 a2 b1 b2=l2 at *;generalize er a1 a2 b1 b2=h1 at *;generalize ej a1 a2 b1 b2=h2 at *;refine bq (f:=186) Tryz.func186 rfl rfl rfl rfl ?_;(refine cR ?_)
 ((refine bn rfl (da rfl rfl rfl aM) ?_))
 exact ag.aW.refl _
theorem Gr{s1 s2 bY b9 p1 p2:Int}(h1:eE s1 s2=true)(h2:eE bY b9=true)(ar:eE p1 p2=true):aP ah 187 [kl s1 s2 bY b9,bm p1 p2] (aL (cm s1 s2 bY b9 p1 p2)):=by
 have aZ:=Td h1 h2 ar;clear h1 h2 ar;generalize cm s1 s2 bY b9 p1 p2=c at *;refine bq (f:=187) Tryz.func187 rfl rfl rfl rfl ?_;(refine cR ?_)
 ((refine bn rfl (bb rfl aM) ?_))
 exact ag.aW.refl _
theorem ahl{s1 s2 bY b9 p1 p2:Int}(h1:eE s1 s2=true)(h2:eE bY b9=true)(ar:eE p1 p2=true):Gk p1 p2 s1 s2 bY b9=decide (dL p1 p2 s1 s2 bY b9):=by
 rw[o7,cV];unfold Gk dL tM;rw[h1,h2,ar];simp only[pK,ef,cV,abQ]
 constructor
 ·rintro⟨⟨a,b,c,d⟩,e⟩;exact⟨e,a,b,c,d⟩
 ·rintro⟨e,a,b,c,d⟩;exact⟨⟨a,b,c,d⟩,e⟩
theorem Tr{s1 s2 bY b9 p1 p2:Int}(h1:eE s1 s2=true)(h2:eE bY b9=true)(ar:eE p1 p2=true):aP ah 243 [kl s1 s2 bY b9,bm p1 p2] (bl (decide (dL p1 p2 s1 s2 bY b9))):=by
 have aZ:=ahX (ahl h1 h2 ar);clear h1 h2 ar;generalize decide (dL p1 p2 s1 s2 bY b9)=c at *;refine bq (f:=243) Tryz.func243 rfl rfl rfl rfl ?_;(refine cR ?_)
 ((refine bn rfl (bb rfl aM) ?_))
 exact ag.aW.refl _
theorem TD{m n:Int}{r:Bool}(ap:decide (same m n)=r):aP ah 189 [aL m,aL n] (bl r):=by
 have cs:(m>0∧n>0∧r=true)∨(m>0∧¬n>0∧¬m<0∧r=false)∨(¬m>0∧m<0∧n<0∧r=true)∨(¬m>0∧m<0∧¬n<0∧r=false)∨(¬m>0∧¬m<0∧r=false):=by
  rw[←ap];unfold same
  by_cases h1:m>0 <;> by_cases h2:n>0 <;> by_cases ar:m<0 <;> by_cases aJ:n<0 <;> simp[h1,h2,ar,aJ] <;> omega
 clear ap;rcases cs with ⟨q1,q2,rfl⟩|⟨q1,q2,q3,rfl⟩|⟨q1,q2,q3,rfl⟩|⟨q1,q2,q3,rfl⟩|⟨q1,q2,rfl⟩
 all_goals
  refine bq (f:=189) Tryz.func189 rfl rfl rfl rfl ?_;(repeat first|refine dd ?_|(with_reducible apply bU (c:=true));rfl;rfl;(exact cd (by omega))|(with_reducible apply bU (c:=false));rfl;rfl;(exact cb (by omega)))
  ((refine bn rfl (bb rfl aM) ?_))
  first|exact ag.aW.refl _|exact ag.aW.of_eq (by rw[cd q2];rfl)|exact ag.aW.of_eq (by rw[cd q3];rfl)|exact ag.aW.of_eq (by rw[cb q3];rfl)
theorem Ec{x A:Int}(h1 : -134217728≤x)(h2:x≤134217728)(ar : -144115188075855872≤A)(aJ:A≤144115188075855872) : -19342813113834066795298816≤x*A∧x*A≤19342813113834066795298816:=by
 have:=Lb h1 h2 ar aJ;omega
theorem TL{l h A B n d:Int}(cr:A≠B)(ms : -134217728≤l)(l1:l≤134217728)(aF : -134217728≤h)(h1:h≤134217728)(aN : -144115188075855872≤A)(dj:A≤144115188075855872)(aH : -144115188075855872≤B)(dy:B≤144115188075855872)(aA:kI (h*A-l*B) (A-B)=n)(hd:jP (A-B)=d):aP ah 190 [aL l,aL h,aL A,aL B] (fv n d):=by
 have b1:=Ec aF h1 aN dj;have b2:=Ec ms l1 aH dy;have wo:=TK (n:=h) (m:=A) (by omega) (by omega) (by omega) (by omega);have Am:=TK (n:=l) (m:=B) (by omega) (by omega) (by omega) (by omega);have f1:fits (h*A)=true:=by unfold fits;rw[cV];omega
 have f2:fits (l*B)=true:=by unfold fits;rw[cV];omega
 have f3:fits (h*A-l*B)=true:=by unfold fits;rw[cV];omega
 have f4:fits (A-B)=true:=by unfold fits;rw[cV];omega
 have XV:=TJ f1 f2;have XW:=vB (n:=A-B) (by omega) (by omega);simp only[wf,f3,if_true] at XV
 have XX:aP ah 247 [gK (h*A-l*B),gK (A-B)] (.cj [EL n d,.one (.c (.bool true))]):=by
  by_cases q:A-B<0
  ·unfold kI at aA;unfold jP at hd;rw[if_pos q] at aA hd;have g1:fits (-(h*A-l*B))=true:=by unfold fits;rw[cV];omega
   have g2:fits (-(A-B))=true:=by unfold fits;rw[cV];omega
   exact ahO f3 f4 q (s:=true) (by rw[g1,g2];rfl) (by rw[if_pos rfl,aA]) (by rw[if_pos rfl,hd])
  ·unfold kI at aA;unfold jP at hd;rw[if_neg q] at aA hd;have:=ahP f3 f4 (by omega);rw[aA,hd] at this;rw[aA,hd];exact this
 obtain⟨D,e8⟩:∃D,A-B=D:=⟨_,rfl⟩;have w1:IntKind.i64.wrap (A-B)=D:=by rw[←e8];exact jx (by omega)
 rw[e8] at XW XX;clear f1 f2 f3 f4 b1 b2 aA hd e8 aN dj aH dy cr;generalize h*A-l*B=X at *;generalize h*A=Y at *;generalize l*B=Z at *;refine bq (f:=190) Tryz.func190 rfl rfl rfl rfl ?_;(refine cR ?_)
 ((refine bn rfl (da rfl rfl rfl aM) ?_))
 exact ag.aW.refl _
instance anJ:HA ah 184 0 0 false 1:=⟨by kernel_rfl⟩
abbrev alZ(k n d m e p1 p2 q1 q2:Int):ag := .w (.agg [.c (.int .i64 k),.c (.int .i64 (cy n)),.c (.int .u64 (dU n)),.c (.int .i64 (cy d)),.c (.int .u64 (dU d)),.c (.int .i64 (cy m)),.c (.int .u64 (dU m)),.c (.int .i64 (cy e)),.c (.int .u64 (dU e)),.c (.int .i64 p1),.c (.int .i64 p2),.c (.int .i64 q1),.c (.int .i64 q2)])
abbrev pQ(M:ga):ag:=alZ M.k M.n M.d M.m M.e M.p1 M.p2 M.q1 M.q2
theorem aeq{s1 s2 bY b9 t1 t2 t3 t4 f1 f2 g1 g2 db di jY mE:Int}{p q:Bool}{M:ga}
  (HM:aP ah 241 [bm s1 s2,bm t1 t2] (.cj [.agg [.c (.int .i64 db),.c (.int .i64 di)],.agg [.c (.int .i64 f1),.c (.int .i64 f2)]]))
  (Xv:aP ah 241 [bm bY b9,bm t3 t4] (.cj [.agg [.c (.int .i64 g1),.c (.int .i64 g2)],.agg [.c (.int .i64 jY),.c (.int .i64 mE)]]))
  (H1:aP ah 243 [kl s1 s2 bY b9,bm f1 f2] (bl p)) (dK:aP ah 243 [kl t1 t2 t3 t4,bm f1 f2] (bl q))
  (ko:aP ah 244 [aL f1] (fv f1 1)) (pU:aP ah 244 [aL f2] (fv f2 1))
  (gj:(if (p&&q)=true then xb f1 f2 g1 g2 else iY)=M):aP ah 188 [kl s1 s2 bY b9,kl t1 t2 t3 t4] (pQ M):=by
 unfold xb at gj;have hp:(f1=g1∧f2=g2)↔dG f1 f2 g1 g2=true:=tm.symm
 have cs:(p=false∧M=iY)∨(p=true∧q=false∧M=iY)∨(p=true∧q=true∧dG f1 f2 g1 g2=true∧M=kf f1 1 f2 1)∨(p=true∧q=true∧dG f1 f2 g1 g2=false∧M=uG f1 f2 g1 g2):=by
  rw[←gj];cases aj:dG f1 f2 g1 g2 <;> rw[aj] at hp <;> cases p <;> cases q <;> simp[hp]
 clear gj hp;refine bq (f:=188) Tryz.func188 rfl rfl rfl rfl ?_;(refine cR ?_);clear HM Xv;rcases cs with ⟨rfl,rfl⟩|⟨rfl,rfl,rfl⟩|⟨rfl,rfl,h,rfl⟩|⟨rfl,rfl,h,rfl⟩
 all_goals
  (refine cR ?_)
  ((refine bn rfl (da rfl rfl rfl aM) ?_))
  first|exact ag.aW.refl _|exact ag.aW.of_eq (by simp only[iY,yG,y2];rfl)|exact ag.aW.of_eq (by simp only[uG,yG,y2];rfl)
theorem LN{a1 a2 b1 b2:Int}(h:c6 a1 a2=true)(k:c6 b1 b2=true):c6 (er a1 a2 b1 b2) (ej a1 a2 b1 b2)=true:=by
 rcases oT a1 a2 b1 b2 with ⟨_,_,ar,aJ,_⟩|⟨_,_,ar,aJ,_⟩ <;> rw[ar,aJ] <;> assumption
theorem Uf{a1 a2 b1 b2:Int}(h:c6 a1 a2=true)(k:c6 b1 b2=true):c6 (eY a1 a2 b1 b2) (eG a1 a2 b1 b2)=true:=by
 rcases oT a1 a2 b1 b2 with ⟨ar,aJ,_⟩|⟨ar,aJ,_⟩ <;> rw[ar,aJ] <;> assumption
theorem aiA{s1 s2 bY b9 t1 t2 t3 t4:Int}(h1:c6 s1 s2=true)(h2:c6 bY b9=true)(ar:c6 t1 t2=true)(aJ:c6 t3 t4=true):aP ah 188 [kl s1 s2 bY b9,kl t1 t2 t3 t4] (pQ (inl s1 s2 bY b9 t1 t2 t3 t4)):=by
 have ay:=LN h1 ar;have aa:=uj.1 ay;refine aeq Ls Ls (Tr (my h1) (my h2) (my ay)) (Tr (my ar) (my aJ) (my ay)) (Tm (by omega) (by omega)) (Tm (by omega) (by omega)) ?_;unfold inl;exact B2 (by rw[ef,cV,cV])
theorem aid{a1 a2 b1 b2 c1 c2 d1 d2:Int}(h:(c6 a1 a2&&c6 b1 b2&&c6 c1 c2&&c6 d1 d2)=false):aP ah 133 [bm a1 a2,bm b1 b2,bm c1 c2,bm d1 d2] (pQ iY):=by
 have R1:=qx (x:=a1) (y:=a2) rfl;have dR:=qx (x:=b1) (y:=b2) rfl;have lQ:=qx (x:=c1) (y:=c2) rfl;have rX:=qx (x:=d1) (y:=d2) rfl
 have cs:c6 a1 a2=false∨(c6 a1 a2=true∧c6 b1 b2=false)∨(c6 a1 a2=true∧c6 b1 b2=true∧c6 c1 c2=false)∨(c6 a1 a2=true∧c6 b1 b2=true∧c6 c1 c2=true∧c6 d1 d2=false):=by
  generalize c6 a1 a2=cn at *;generalize c6 b1 b2=dQ at *;generalize c6 c1 c2=kk at *;generalize c6 d1 d2=sP at *;cases cn <;> cases dQ <;> cases kk <;> cases sP <;> simp_all
 clear h;rcases cs with h1|⟨h1,h2⟩|⟨h1,h2,ar⟩|⟨h1,h2,ar,aJ⟩ <;> simp only[*] at R1 dR lQ rX
 all_goals
  refine bq (f:=133) Tryz.func133 rfl rfl rfl rfl ?_;(refine cR ?_)
  ((refine bn rfl (da rfl rfl rfl aM) ?_))
  exact ag.aW.of_eq (by simp only[iY,yG,y2];rfl)
theorem ZZ{a1 a2 b1 b2 c1 c2 d1 d2 s1 s2 bY b9 t1 t2 t3 t4 A B C D n d m e:Int}{x y:Bool}{I M:ga}
  (R1:aP ah 185 [bm a1 a2] (bl true)) (dR:aP ah 185 [bm b1 b2] (bl true)) (lQ:aP ah 185 [bm c1 c2] (bl true)) (rX:aP ah 185 [bm d1 d2] (bl true))
  (dy:aP ah 186 [bm a1 a2,bm b1 b2] (kl s1 s2 bY b9)) (mG:aP ah 186 [bm c1 c2,bm d1 d2] (kl t1 t2 t3 t4))
  (kq:aP ah 187 [kl s1 s2 bY b9,bm t1 t2] (aL A)) (s7:aP ah 187 [kl s1 s2 bY b9,bm t3 t4] (aL B))
  (x8:aP ah 187 [kl t1 t2 t3 t4,bm s1 s2] (aL C)) (Aj:aP ah 187 [kl t1 t2 t3 t4,bm bY b9] (aL D))
  (qR:aP ah 189 [aL A,aL B] (bl x)) (M4:aP ah 189 [aL C,aL D] (bl y))
  (L:aP ah 188 [kl s1 s2 bY b9,kl t1 t2 t3 t4] (pQ I))
  (Ao:A≠B→aP ah 190 [aL t1,aL t3,aL A,aL B] (fv n d)) (Ap:A≠B→aP ah 190 [aL t2,aL t4,aL A,aL B] (fv m e))
  (gj:(if A=B then I else if (x||y)=true then iY else kf n d m e)=M):aP ah 133 [bm a1 a2,bm b1 b2,bm c1 c2,bm d1 d2] (pQ M):=by
 have cs:(A=B∧M=I)∨(¬A=B∧x=true∧M=iY)∨(¬A=B∧x=false∧y=true∧M=iY)∨(¬A=B∧x=false∧y=false∧M=kf n d m e):=by
  rw[←gj]
  by_cases h:A=B
  ·simp[h]
  ·cases x <;> cases y <;> simp[h]
 clear gj;refine bq (f:=133) Tryz.func133 rfl rfl rfl rfl ?_;(refine cR ?_);clear R1 dR lQ rX dy mG kq s7;rcases cs with ⟨h,rfl⟩|⟨h,rfl,rfl⟩|⟨h,rfl,rfl,rfl⟩|⟨h,rfl,rfl,rfl⟩
 ·clear Ao Ap;(refine cR ?_)
  ((refine bn rfl (da rfl rfl rfl aM) ?_))
  exact ag.aW.refl _
 ·clear Ao Ap;(refine cR ?_)
  ((refine bn rfl (da rfl rfl rfl aM) ?_))
  exact ag.aW.of_eq (by simp only[iY,yG,y2];rfl)
 ·clear Ao Ap;(refine cR ?_)
  ((refine bn rfl (da rfl rfl rfl aM) ?_))
  exact ag.aW.of_eq (by simp only[iY,yG,y2];rfl)
 ·have amp:=Ao h;have amq:=Ap h;clear Ao Ap;(refine cR ?_)
  ((refine bn rfl (da rfl rfl rfl aM) ?_))
  exact ag.aW.refl _
theorem F9{x y:Int}(h1 : -268435456≤x)(h2:x≤268435456)(ar : -268435456≤y)(aJ:y≤268435456) : -72057594037927936≤x*y∧x*y≤72057594037927936:=by
 have:=Lb h1 h2 ar aJ;omega
theorem OE{o1 o2 a1 a2 b1 b2:Int}(h1:c6 o1 o2=true)(h2:c6 a1 a2=true)(ar:c6 b1 b2=true) : -144115188075855872≤cm o1 o2 a1 a2 b1 b2∧cm o1 o2 a1 a2 b1 b2≤144115188075855872:=by
 rw[uj] at h1 h2 ar;have m1:=F9 (x:=a1-o1) (y:=b2-o2) (by omega) (by omega) (by omega) (by omega);have m2:=F9 (x:=a2-o2) (y:=b1-o1) (by omega) (by omega) (by omega) (by omega);unfold cm;omega
def sB(a1 a2 b1 b2 c1 c2 d1 d2:Int):ga:=if (c6 a1 a2&&c6 b1 b2&&c6 c1 c2&&c6 d1 d2)=true then jC a1 a2 b1 b2 c1 c2 d1 d2 else iY
theorem aie{a1 a2 b1 b2 c1 c2 d1 d2:Int}(aX:c6 a1 a2=true)(aa:c6 b1 b2=true)(ak:c6 c1 c2=true)(hd:c6 d1 d2=true):aP ah 133 [bm a1 a2,bm b1 b2,bm c1 c2,bm d1 d2] (pQ (jC a1 a2 b1 b2 c1 c2 d1 d2)):=by
 have R1:=qx aX;have dR:=qx aa;have lQ:=qx ak;have rX:=qx hd;have dy:=Gs (a1:=a1) (a2:=a2) (b1:=b1) (b2:=b2);have mG:=Gs (a1:=c1) (a2:=c2) (b1:=d1) (b2:=d2);have q1:=Uf aX aa;have q2:=LN aX aa;have q3:=Uf ak hd;have q4:=LN ak hd;have l1:=yZ a1 a2 b1 b2;have l2:=yZ c1 c2 d1 d2;rw[←agl];generalize eY a1 a2 b1 b2=s1 at *;generalize eG a1 a2 b1 b2=s2 at *;generalize er a1 a2 b1 b2=bY at *;generalize ej a1 a2 b1 b2=b9 at *;generalize eY c1 c2 d1 d2=t1 at *;generalize eG c1 c2 d1 d2=t2 at *;generalize er c1 c2 d1 d2=t3 at *;generalize ej c1 c2 d1 d2=t4 at *;have bx:=OE q1 q2 q3;have cl:=OE q1 q2 q4;have i3:=uj.1 q3;have i4:=uj.1 q4
 refine ZZ R1 dR lQ rX dy mG (Gr (my q1) (my q2) (my q3)) (Gr (my q1) (my q2) (my q4)) (Gr (my q3) (my q4) (my q1)) (Gr (my q3) (my q4) (my q2)) (TD rfl) (TD rfl) (aiA q1 q2 q3 q4)
  (fun cr=>TL cr i3.1.1 i3.1.2 i4.1.1 i4.1.2 bx.1 bx.2 cl.1 cl.2 rfl rfl) (fun cr=>TL cr i3.2.1 i3.2.2 i4.2.1 i4.2.2 bx.1 bx.2 cl.1 cl.2 rfl rfl) ?_
 rw[←agk l1 l2];unfold K0
 by_cases h:cm s1 s2 bY b9 t1 t2=cm s1 s2 bY b9 t3 t4
 ·rw[if_pos h,if_pos h]
 ·rw[if_neg h,if_neg h];exact B2 (by rw[pF,cV,cV])
theorem Lq{a1 a2 b1 b2 c1 c2 d1 d2:Int}:aP ah 133 [bm a1 a2,bm b1 b2,bm c1 c2,bm d1 d2] (pQ (sB a1 a2 b1 b2 c1 c2 d1 d2)):=by
 unfold sB
 by_cases h:(c6 a1 a2&&c6 b1 b2&&c6 c1 c2&&c6 d1 d2)=true
 ·rw[if_pos h];simp only[ef] at h;exact aie h.1.1.1 h.1.1.2 h.1.2 h.2
 ·rw[if_neg h];exact aid (by simpa using h)
def IW(M:ga)(a1 a2 b1 b2 c1 c2 d1 d2:Int):Bool :=
 if M.k=1 then dG a1 a2 c1 c2||dG a1 a2 d1 d2||dG b1 b2 c1 c2||dG b1 b2 d1 d2
 else if M.k=2 then wJ (eY a1 a2 b1 b2) (eG a1 a2 b1 b2) (er a1 a2 b1 b2) (ej a1 a2 b1 b2) (eY c1 c2 d1 d2) (eG c1 c2 d1 d2) (er c1 c2 d1 d2) (ej c1 c2 d1 d2)
 else true
theorem Zv{a1 a2 b1 b2 c1 c2 d1 d2 s1 s2 bY b9 t1 t2 t3 t4:Int}{M:ga}{r:Bool}(aZ:aP ah 133 [bm a1 a2,bm b1 b2,bm c1 c2,bm d1 d2] (pQ M))
  (dy:aP ah 186 [bm a1 a2,bm b1 b2] (kl s1 s2 bY b9)) (mG:aP ah 186 [bm c1 c2,bm d1 d2] (kl t1 t2 t3 t4))
  (ap:(if M.k=1 then dG a1 a2 c1 c2||dG a1 a2 d1 d2||dG b1 b2 c1 c2||dG b1 b2 d1 d2 else if M.k=2 then wJ s1 s2 bY b9 t1 t2 t3 t4 else true)=r):aP ah 201 [bm a1 a2,bm b1 b2,bm c1 c2,bm d1 d2] (bl r):=by
 obtain⟨k,n,d,m,e,p1,p2,q1,q2⟩:=M;simp only at ap aZ
 have cs:(k=1∧dG a1 a2 c1 c2=true∧r=true)∨(k=1∧dG a1 a2 c1 c2=false∧dG a1 a2 d1 d2=true∧r=true)∨(k=1∧dG a1 a2 c1 c2=false∧dG a1 a2 d1 d2=false∧dG b1 b2 c1 c2=true∧r=true)∨(k=1∧dG a1 a2 c1 c2=false∧dG a1 a2 d1 d2=false∧dG b1 b2 c1 c2=false∧r=dG b1 b2 d1 d2)∨(¬k=1∧k=2∧r=wJ s1 s2 bY b9 t1 t2 t3 t4)∨(¬k=1∧¬k=2∧r=true):=by
  rw[←ap]
  by_cases h1:k=1
  ·rw[if_pos h1];cases dG a1 a2 c1 c2 <;> cases dG a1 a2 d1 d2 <;> cases dG b1 b2 c1 c2 <;> simp[h1]
  ·rw[if_neg h1]
   by_cases h2:k=2
   ·rw[if_pos h2];simp[h2]
   ·rw[if_neg h2];simp[h1,h2]
 clear ap;refine bq (f:=201) Tryz.func201 rfl rfl rfl rfl ?_;(refine cR ?_);clear aZ;rcases cs with ⟨h1,h2,rfl⟩|⟨h1,h2,ar,rfl⟩|⟨h1,h2,ar,aJ,rfl⟩|⟨h1,h2,ar,aJ,rfl⟩|⟨h1,h2,rfl⟩|⟨h1,h2,rfl⟩
 all_goals
  (repeat first|refine dd ?_|refine fX ?_|(with_reducible apply bU (c:=true));rfl;rfl;(assumption)|(with_reducible apply bU (c:=false));rfl;rfl;(assumption))
  ((refine bn rfl (bb rfl aM) ?_))
  first|exact ag.aW.refl _|exact ag.aW.of_eq (by rw[h2];rfl)|exact ag.aW.of_eq (by rw[ar];rfl)|exact ag.aW.of_eq (by rw[aJ];rfl)
theorem aic{a1 a2 b1 b2 c1 c2 d1 d2:Int}:aP ah 201 [bm a1 a2,bm b1 b2,bm c1 c2,bm d1 d2] (bl (IW (sB a1 a2 b1 b2 c1 c2 d1 d2) a1 a2 b1 b2 c1 c2 d1 d2)) :=
 Zv Lq Gs Gs rfl
end Go.Proofs.YtklpfooafbjnpaaGreat
namespace Go.Proofs.YtklpfooafbjnpaaGreat.bB
abbrev bK:=aq×aq
def lG(r:Nat)(p:aq):aq:=(bV p.1 r,bV p.2 r)
abbrev ku:bK:=((0,0),(0,0))
def iu(a b:bK):ga:=jC a.1.1 a.1.2 a.2.1 a.2.2 b.1.1 b.1.2 b.2.1 b.2.2
def uS(a b:bK):Bool:=IW (iu a b) a.1.1 a.1.2 a.2.1 a.2.2 b.1.1 b.1.2 b.2.1 b.2.2
def jR(r:Nat)(M:ga):aq:=(fU (2^r) M.n M.d,fU (2^r) M.m M.e)
def AD(r:Nat)(p:aq):aq:=(2^r*p.1,2^r*p.2)
def ha(r:Nat)(l:aq×aq):bK:=(AD r l.1,AD r l.2)
def Qj(r:Nat)(p q x:aq):Bool:=sC (2^r*p.1) (2^r*p.2) (2^r*q.1) (2^r*q.2) r x
def gu(p q:aq)(l:List aq):List aq:=sX (decide (q.1<p.1)) (decide (q.2<p.2)) (fun _=>true) l
def tk(r:Nat)(l m:aq×aq):Option aq:=if (iu (ha r l) (ha r m)).k=1∧uS (ha r l) (ha r m)=false then some (jR r (iu (ha r l) (ha r m))) else none
def xv(r:Nat)(a b:bK):Option aq:=if (iu a b).k=1 then some (jR r (iu a b)) else none
def rv(E:List bK)(r R:Nat):cT aq where
 Fk:=Qj r
 hH:=gu
 cut:=tk r
 n:=E.length
 P i:=lG r (E.getD i ku).1
 Q i:=lG r (E.getD i ku).2
 o3 i j:=xv r (E.getD i ku) (E.getD j ku)
 R:=R
 gM x:=dW r x.1 x.2=true
def gQ(p:aq):Bool:=decide (-134217728≤p.1)&&decide (p.1<134217728)&&decide (-134217728≤p.2)&&decide (p.2<134217728)
def jD(E:List bK):Bool:=E.all fun e=>gQ e.1&&gQ e.2
theorem nR{p:aq}:gQ p=true↔((-134217728≤p.1∧p.1<134217728) ∧ -134217728≤p.2∧p.2<134217728):=by
 unfold gQ;simp only[ef,cV];omega
theorem pD{E:List bK}(h:jD E=true)(i:Nat):gQ (E.getD i ku).1=true∧gQ (E.getD i ku).2=true:=by
 rw[vF];cases he:E[i]? with
 | none=>exact⟨by decide,by decide⟩
 | some e =>
  have:=b4.1 h e (cP he);exact Bool.and_eq_true_iff.1 this
theorem EW(v:Int)(r:Nat):bV v r=fU (2^r) v 1:=by
 unfold bV fU;rw[Int.mul_one]
theorem zk{S X W X' W':Int}(hS:0<S)(gm:0<W)(Bj:0<W')(h:X*W'≤X'*W):fU S X W≤fU S X' W':=by
 obtain⟨a1,a2⟩:=GD hS gm X;obtain⟨b1,b2⟩:=GD hS Bj X';generalize fU S X W=g at *;generalize fU S X' W'=c4 at *;refine Int.not_lt.1 fun bc => ?_;have h1:S*(c4+1)≤S*g:=sO bc (by omega);rw[Int.mul_add,Int.mul_one] at h1;generalize S*g=G at *;generalize S*c4=xY at *;have c1:(2*xY+S)*W≤(2*G-S)*W:=qF (by omega) (by omega);have c2:(2*xY+S)*W≤2*X:=by omega
 have jm:(2*xY+S)*W*W'≤2*X*W':=qF c2 (by omega);have Az:2*X'*W<(2*xY+S)*W'*W:=Int.mul_lt_mul_of_pos_right b2 gm;have aI:(2*xY+S)*W*W'=(2*xY+S)*W'*W:=by rw[lb,k9 W,←lb]
 have aO:2*X*W'=2*(X*W'):=lb ..;have cf:2*X'*W=2*(X'*W):=lb ..;omega
theorem Di{m lo hi x:Int}(h1:wi m lo=true)(h2:wi m hi=true)(ar:lo≤x)(aJ:x≤hi):wi m x=true:=by
 unfold wi at *;simp only[ef,cV] at *;omega
theorem aaQ{r:Nat}(ap:r≤28):wi (134217728/2^r) (bV (-134217728) r)=true∧wi (134217728/2^r) (bV 134217727 r)=true:=by
 have:r=0∨r=1∨r=2∨r=3∨r=4∨r=5∨r=6∨r=7∨r=8∨r=9∨r=10∨r=11∨r=12∨r=13∨r=14∨r=15∨r=16∨r=17∨r=18∨r=19∨r=20∨r=21∨r=22∨r=23∨r=24∨r=25∨r=26∨r=27∨r=28:=by omega
 rcases this with rfl|rfl|rfl|rfl|rfl|rfl|rfl|rfl|rfl|rfl|rfl|rfl|rfl|rfl|rfl|rfl|rfl|rfl|rfl|rfl|rfl|rfl|rfl|rfl|rfl|rfl|rfl|rfl|rfl <;> exact⟨by decide,by decide⟩
theorem GF{r:Nat}(ap:r≤28){X W:Int}(gm:0<W)(h1 : -134217728*W≤X)(h2:X≤134217727*W):wi (134217728/2^r) (fU (2^r) X W)=true:=by
 have hS:(0:Int)<2^r:=jE (by decide);have g:=aaQ ap;rw[EW,EW] at g;exact Di g.1 g.2 (zk hS (by decide) gm (by omega)) (zk hS gm (by decide) (by omega))
theorem Gd{r:Nat}(ap:r≤28){p:aq}(h:gQ p=true):dW r (lG r p).1 (lG r p).2=true:=by
 have h:=nR.1 h;unfold dW lG;rw[EW,EW,GF ap (by decide) (by omega) (by omega),GF ap (by decide) (by omega) (by omega)];rfl
theorem FW{a b:bK}(h:(iu a b).k=1):∃X Y W W',iu a b=kf X W Y W':=by
 unfold iu jC at h ⊢
 split at h
 ·rename_i hw;rw[if_pos hw];unfold xc inl at h ⊢
  split at h
  ·rename_i Kd;rw[if_pos Kd];unfold xb at h ⊢
   split at h
   ·rename_i he;rw[if_pos he];exact⟨_,_,_,_,rfl⟩
   ·simp[uG] at h
  ·simp[iY] at h
 ·rename_i hw;rw[if_neg hw];unfold oB vq at h ⊢
  split at h
  ·rename_i ay;rw[if_pos ay];exact⟨_,_,_,_,rfl⟩
  ·simp[iY] at h
theorem aaD{a b:bK}(h:(iu a b).k=1):uS a b=true↔(a.1=b.1∨a.1=b.2∨a.2=b.1∨a.2=b.2):=by
 have e:∀p q:aq,dG p.1 p.2 q.1 q.2=true↔p=q:=fun p q=>by rw[tm,Prod.ext_iff]
 unfold uS IW;rw[if_pos h];simp only[pF,e,or_assoc]
theorem ZF{r:Nat}{p q:aq}:AD r p=AD r q↔p=q:=by
 have hS:(2:Int)^r≠0:=by have:(0:Int)<2^r:=jE (by decide);omega
 unfold AD;rw[Prod.ext_iff,Prod.ext_iff];exact⟨fun⟨h1,h2⟩=>⟨Int.eq_of_mul_eq_mul_left hS h1,Int.eq_of_mul_eq_mul_left hS h2⟩,fun⟨h1,h2⟩=>⟨by rw[h1],by rw[h2]⟩⟩
theorem O7{r:Nat}{l m:aq×aq}(h:(iu (ha r l) (ha r m)).k=1):uS (ha r l) (ha r m)=true↔Al l m:=by
 rw[aaD h];unfold ha Al;simp only[ZF]
theorem GB{r:Nat}{a b:bK}{X Y W W':Int}(e:iu a b=kf X W Y W'):W'=W∧0<W∧jR r (iu a b)=(fU (2^r) X W,fU (2^r) Y W)∧DH (2^r) X Y W (jR r (iu a b)):=by
 obtain⟨h1,h2,_⟩:=Ce e;have hS:(0:Int)<2^r:=jE (by decide);have aO:jR r (iu a b)=(fU (2^r) X W,fU (2^r) Y W):=by rw[e];unfold jR kf;rw[h1]
 exact⟨h1,h2,aO,by rw[aO];exact aer hS h2⟩
theorem sc{r:Nat}{p:aq}(h:dW r p.1 p.2=true):c6 (2^r*p.1) (2^r*p.2)=true:=by
 have h:=(FL r _ _).1 h;unfold c6;simp only[ef,cV];omega
theorem aj8(E:List bK){r:Nat}(ap:r≤28)(R:Nat):Ai (2^r) (rv E r R) where
 pos:=jE (by decide)
 ada p q x h:=by
  have h:sC _ _ _ _ _ _=true:=h;unfold sC at h;rw[JU ap,KZ] at h;exact h.2.2
 Qi p q x hp aj ab h:=by
  show sC _ _ _ _ _ _=true;unfold sC;have ab:dW r x.1 x.2=true:=ab;have kE:=(FL r _ _).1 ab;have aoo:=LC ap;rw[JU ap,KZ,agf];refine⟨ab,⟨sc hp,sc aj,?_,?_,rfl⟩,h⟩
  ·rw[Et];omega
  ·rw[Et];omega
 OH l m x h:=by
  have h:tk r l m=some x:=h;unfold tk at h
  split at h
  ·rename_i ae;cases h;obtain⟨X,Y,W,W',e⟩:=FW ae.1;refine⟨fun hs => ?_,X,Y,W,W',e,(GB e).2.2.2⟩;have:=(O7 ae.1).2 hs;rw[ae.2] at this;cases this
  ·cases h
 Z3 l m _ _ _ _ h ae:=by
  have h:tk r l m=none:=h;unfold tk at h
  split at h
  ·cases h
  ·rename_i aA;refine(O7 ae).1 ?_;cases he:uS (ha r l) (ha r m) with
   | true=>rfl
   | false=>exact absurd ⟨ae,he⟩ aA
def xE(r:Nat)(V:List aq)(D:List Int):Prop :=
 V≠[]∧V.length=D.length+1∧(∀v∈V,dW r v.1 v.2=true)∧gw (· ≠ ·) V∧(gw (fun p q=>p.1≤q.1) V∨gw (fun p q=>q.1≤p.1) V)∧(gw (fun p q=>p.2≤q.2) V∨gw (fun p q=>q.2≤p.2) V)
theorem It{R T:aq→aq→Prop}:∀ {l:List aq},gw R l→gw T l→gw (fun p q=>R p q∧T p q) l
 | [],_,_=>trivial
 | [_],_,_=>trivial
 | p::q::W,h,aK=>⟨⟨h.1,aK.1⟩,It (l:=q::W) h.2 aK.2⟩
theorem Ov{R:aq→aq→Prop}(aE:∀a b c,R a b→R b c→R a c):∀ {l:List aq},gw R l→l.Pairwise R
 | [],_ => .nil
 | [_],_=>by simp
 | p::q::W,h=>by
  have cg:=Ov aE (l:=q::W) h.2;refine kj.2 ⟨fun x ab => ?_,cg⟩;rcases fg.1 ab with rfl|ab
  ·exact h.1
  ·exact aE _ _ _ h.1 ((kj.1 cg).1 x ab)
theorem Eo{R T:aq→aq→Prop}(h1:∀a b c,R a b→R b c→R a c)(h2:∀a b c,T a b→T b c→T a c)(aX:∀a b,R a b→R b a→T a b→T b a→a=b){l:List aq}(ap:gw R l)(aE:gw T l)(aA:gw (· ≠ ·) l):l.Nodup:=by
 have:=Ov (R:=fun p q=>(R p q∧T p q)∧p≠q) (fun a b c x y=>⟨⟨h1 _ _ _ x.1.1 y.1.1,h2 _ _ _ x.1.2 y.1.2⟩,fun e=>by subst e;exact x.2 (aX _ _ x.1.1 y.1.1 x.1.2 y.1.2)⟩) (It (It ap aE) aA);exact this.imp fun h=>h.2
theorem xE.nodup{r:Nat}{V:List aq}{D:List Int}(h:xE r V D):V.Nodup:=by
 obtain⟨_,_,_,aA,ab,ai⟩:=h;rcases ab with ab|ab <;> rcases ai with ai|ai
 ·exact Eo (R:=fun p q:aq=>p.1≤q.1) (T:=fun p q:aq=>p.2≤q.2) (fun a b c=>Int.le_trans) (fun a b c=>Int.le_trans) (fun a b h1 h2 ar aJ=>la (Int.le_antisymm h1 h2) (Int.le_antisymm ar aJ)) ab ai aA
 ·exact Eo (R:=fun p q:aq=>p.1≤q.1) (T:=fun p q:aq=>q.2≤p.2) (fun a b c=>Int.le_trans) (fun a b c h aK=>Int.le_trans aK h) (fun a b h1 h2 ar aJ=>la (Int.le_antisymm h1 h2) (Int.le_antisymm aJ ar)) ab ai aA
 ·exact Eo (R:=fun p q:aq=>q.1≤p.1) (T:=fun p q:aq=>p.2≤q.2) (fun a b c h aK=>Int.le_trans aK h) (fun a b c=>Int.le_trans) (fun a b h1 h2 ar aJ=>la (Int.le_antisymm h2 h1) (Int.le_antisymm ar aJ)) ab ai aA
 ·exact Eo (R:=fun p q:aq=>q.1≤p.1) (T:=fun p q:aq=>q.2≤p.2) (fun a b c h aK=>Int.le_trans aK h) (fun a b c h aK=>Int.le_trans aK h) (fun a b h1 h2 ar aJ=>la (Int.le_antisymm h2 h1) (Int.le_antisymm aJ ar)) ab ai aA
theorem EM(r:Nat)(a b:Int):decide ((2:Int)^r*a<2^r*b)=decide (a<b):=by
 have hS:(0:Int)<2^r:=jE (by decide);rw[vE];exact⟨fun h=>Int.lt_of_mul_lt_mul_left h (by omega),fun h=>Int.mul_lt_mul_of_pos_left h hS⟩
theorem OP{fx fy:Bool}{p q:aq}:∀(l out:List aq),(∀x∈l,x≠p∧x≠q)→(out++l).Nodup→l.foldl (q6 p q) out=out++l
 | [],out,_,_=>by simp
 | x::l,out,h,hd=>by
  have ab:=h x (hE ..);have e:q6 p q out x=out++[x]:=if_pos ⟨ab.1,ab.2,fun he=>(List.nodup_append.1 hd).2.2 x (List.mem_of_getLast? he) x (hE ..) rfl⟩;rw[uc,e,OP (fx:=fx) (fy:=fy) l (out++[x]) (fun y ai=>h y (k8 _ ai)) (by simpa using hd),hD];rfl
theorem alf{fx fy:Bool}{f g:aq→Bool}{l:List aq}(h:∀x∈l,f x=g x):sX fx fy f l=sX fx fy g l:=by
 unfold sX
 have key:∀(l out:List aq),(∀x∈l,f x=g x)→l.foldl (fun out q=>if f q then nN fx fy q out else out) out=l.foldl (fun out q=>if g q then nN fx fy q out else out) out:=by
  intro l
  induction l with
  | nil=>intro out _;rfl
  | cons x l cg =>
   intro out h;rw[uc,uc,h x (hE ..)];exact cg _ fun y ai=>h y (k8 _ ai)
 exact key l [] h
theorem Jg{E:List bK}{r R:Nat}{p q x:aq}:kw (rv E r R) p q x=true↔x≠p∧x≠q∧Qj r p q x=true:=by
 unfold kw;simp only[ef,cV,and_assoc];exact Iff.rfl
theorem C4(p q:aq)(bo:List aq):(gu p q bo).Perm bo:=by
 have:=G5 (decide (q.1<p.1)) (decide (q.2<p.2)) (fun _=>true) bo;rwa [List.filter_eq_self.2 (fun _ _=>rfl)] at this
theorem Mn{E:List bK}{r R:Nat}{p q:aq}{bo:List aq}(aA:bo.Nodup)(h:∀x∈bo,kw (rv E r R) p q x=true):gu p q bo=tc r bo p q:=by
 unfold tc OO;rw[EM,EM,←alf (f:=fun _=>true) (g:=sC (2^r*p.1) (2^r*p.2) (2^r*q.1) (2^r*q.2) r) (fun x ab=>((Jg.1 (h x ab)).2.2).symm)];have hp:=C4 p q bo;show gu p q bo=(gu p q bo).foldl (q6 p q) [];rw[OP (fx:=false) (fy:=false) (gu p q bo) [] (fun x ab=>⟨(Jg.1 (h x (hp.mem_iff.1 ab))).1,(Jg.1 (h x (hp.mem_iff.1 ab))).2.1⟩) (by simpa using hp.nodup_iff.2 aA)];rfl
theorem Ou{R:aq→aq→Prop}:∀ {A B:List aq} {q:aq},gw R (A++q::B)→gw R (A++[q])∧gw R (q::B)
 | [],_,_,h=>⟨trivial,h⟩
 | [a],_,_,h=>⟨⟨h.1,trivial⟩,h.2⟩
 | a::b::A,B,q,h=>by
  have cg:=Ou (A:=b::A) h.2;exact⟨⟨h.1,cg.1⟩,cg.2⟩
theorem alO{V:List aq}{j:Nat}{p q:aq}(hp:V[j]?=some p)(aj:V[j+1]?=some q):∃A B,V=A++p::q::B∧A.length=j∧∀l,dF V j l=A++p::(l++q::B):=by
 obtain⟨h1,aI⟩:=bt.1 hp;obtain⟨h2,aO⟩:=bt.1 aj;have hd:=aan hp aj;refine⟨V.take j,V.drop (j+2),by rw[←hd,ki],by rw[dX];omega,fun l => ?_⟩;unfold dF;rw[lH h1,aI,jU h2,aO];simp
theorem AE{R:aq→aq→Prop}{V l:List aq}{j:Nat}{p q:aq}(hp:V[j]?=some p)(aj:V[j+1]?=some q)(h:gw R V)(al:R p q→gw R (p::(l++[q]))):gw R (dF V j l):=by
 obtain⟨A,B,e,_,IK⟩:=alO hp aj;rw[IK];rw[e] at h;obtain⟨h1,h2⟩:=Ou h;refine Iu h1 ?_;have ar:=al h2.1;have:=Iu (A:=p::l) (q:=q) (W:=B) ar h2.2;exact this
theorem xE.cut{E:List bK}{r R:Nat}(ap:r≤28){V:List aq}{D:List Int}(h:xE r V D){j:Nat}{p q:aq}{bo:List aq}(hp:V[j]?=some p)(aj:V[j+1]?=some q)(aA:bo.Nodup)(aw:∀x∈bo,kw (rv E r R) p q x=true):xE r (dF V j (gu p q bo)) (eL D j bo.length):=by
 obtain⟨h1,h2,ar,aJ,fl,kW⟩:=h;have hS:(0:Int)<2^r:=jE (by decide);have af:=(bt.1 aj).1;rw[Mn aA aw];have nK:=D7 ap bo p q;have hlen:(tc r bo p q).length=bo.length:=by rw[←Mn aA aw];exact(C4 p q bo).length_eq
 refine⟨fun aF => ?_,?_,fun v hv => ?_,?_,?_,?_⟩
 ·have:=congrArg List.length aF;rw[AM,List.length_nil] at this;omega
 ·rw[AM,Iy (by omega),hlen];omega
 ·rcases OL hv with hv|hv
  ·exact ar v hv
  ·exact(nK.2.1 v hv).2.1
 ·exact AE hp aj aJ fun jt=>Zd ap bo p q jt
 ·refine fl.imp (fun h=>AE hp aj h fun jt=>D8 ap bo p q jt (fun x ab => ?_) (fun x y u w hu hw tI => ?_)) (fun h=>AE hp aj h fun jt=>D8 ap bo p q jt (fun x ab => ?_) (fun x y u w hu hw tI => ?_))
  ·obtain⟨u,hu⟩:=ab;exact(F6 hS hu.1.1 hu.1.2 hu.2.1).1 jt
  ·exact F8 hS hu.2.1 hw.2.1 tI jt
  ·obtain⟨u,hu⟩:=ab;exact((F6 hS hu.1.1 hu.1.2 hu.2.1).2 jt).symm
  ·exact F7 hS hu.2.1 hw.2.1 tI jt
 ·refine kW.imp (fun h=>AE hp aj h fun jt=>D8 ap bo p q jt (fun x ab => ?_) (fun x y u w hu hw tI => ?_)) (fun h=>AE hp aj h fun jt=>D8 ap bo p q jt (fun x ab => ?_) (fun x y u w hu hw tI => ?_))
  ·obtain⟨u,hu⟩:=ab;exact(F6 hS hu.1.1 hu.1.2 hu.2.2).1 jt
  ·exact F8 hS hu.2.2 hw.2.2 tI jt
  ·obtain⟨u,hu⟩:=ab;exact((F6 hS hu.1.1 hu.1.2 hu.2.2).2 jt).symm
  ·exact F7 hS hu.2.2 hw.2.2 tI jt
def tV(r:Nat)(e:bK)(d:Int)(t:Rat)(x:aq):Prop:=zc e.1.1 e.1.2 e.2.1 e.2.2 (2^r) (bz d*bz (2^r)) t x
theorem ag0{r:Nat}{e:bK}{d d':Int}(h:d≤d'){t:Rat}{x:aq}(ab:tV r e d t x):tV r e d' t x:=by
 refine ag2 ?_ ab;have hS:(0:Rat)<bz (2^r):=rE (jE (by decide));exact Rat.mul_le_mul_of_nonneg_right (sQ.2 h) (Rat.le_of_lt hS)
theorem Oz{r:Nat}{e:bK}{p q:aq}{d:Int}{t1 t2:Rat}(Jj:t1≤t2)(Jk:t2≤1)(hp:tV r e d t1 p)(aj:tV r e d t2 q):∀(l:List aq) (lf:Rat),0≤lf→lf≤1→(∀x∈l,∀u,rV (2^r) p q u x→lf≤u)→(∀x∈l,∃u,rV (2^r) p q u x)→lm (decide ((2:Int)^r*q.1<2^r*p.1)) (decide ((2:Int)^r*q.2<2^r*p.2)) l→Er (tV r e) (d+1) t2 (t1+lf*(t2-t1)) l
 | [],lf,aF,h1,_,_,_=>by
  show t1+lf*(t2-t1)≤t2;have:=lI (show 0≤1-lf by grind) (show 0≤t2-t1 by grind);grind
 | x::l,lf,aF,h1,hu,hm,aX=>by
  have hS:(0:Int)<2^r:=jE (by decide);obtain⟨u,yV⟩:=hm x (hE ..);have ak:=kj.1 aX;have h2:=hu x (hE ..) u yV;have bx:=lI (show 0≤u-lf by grind) (show 0≤t2-t1 by grind);have cl:=lI (show 0≤1-u by have:=yV.1.2;grind) (show 0≤t2-t1 by grind)
  have ab:tV r e (d+1) (t1+u*(t2-t1)) x:=by
   have:=ag1 hp aj yV;unfold tV;rw[show bz (d+1)=bz d+1 by simp[bz,ui]];exact this
  exact⟨t1+u*(t2-t1),by grind,by grind,ab,Oz Jj Jk hp aj l u yV.1.1 yV.1.2 (fun y ai w hw=>Sj hS yV hw (ak.1 y ai)) (fun y ai=>hm y (k8 _ ai)) ak.2⟩
def xq(E:List bK)(r:Nat)(i:Nat)(c:List aq×List Int):Prop:=xE r c.1 c.2∧th (tV r (E.getD i ku)) 0 c.1 c.2
theorem Gh{r:Nat}(a b:Int):tU (bz a) (bz b) (2*(bz (2^r)*bz (bV a r))) (bz 1*bz (2^r)) 0∧tU (bz b) (bz a) (2*(bz (2^r)*bz (bV a r))) (bz 1*bz (2^r)) 1:=by
 have eW:(0:Int)<2^r:=jE (by decide);obtain⟨g0,g1⟩:2*(bV a r*2^r)≤2*a+2^r∧2*a+2^r<2*(bV a r*2^r)+2*2^r:=abA eW;have dt:=sQ.2 g0;have q1:=LO.2 g1;have z:bz 1=1:=by simp[bz]
 rw[z];simp only[bz,ui,Rat.intCast_mul] at dt q1 ⊢;generalize ((2^r:Int):Rat)=S at *;generalize ((bV a r:Int):Rat)=g at *;generalize ((a:Int):Rat)=a' at *;generalize ((b:Int):Rat)=cx at *;have aO:((2:Int):Rat)=2:=by simp
 rw[aO] at dt q1;refine⟨⟨?_,?_⟩,?_,?_⟩ <;> grind
theorem ZV{r:Nat}(e:bK):th (tV r e) 0 (hA (lG r e.1) (lG r e.2)).1 (hA (lG r e.1) (lG r e.2)).2 :=
 ZU ⟨(Gh e.1.1 e.2.1).1,(Gh e.1.2 e.2.2).1⟩ ⟨(Gh e.2.1 e.1.1).2,(Gh e.2.2 e.1.2).2⟩
theorem agV{r:Nat}{p q:aq}(hp:dW r p.1 p.2=true)(aj:dW r q.1 q.2=true):xE r (hA p q).1 (hA p q).2:=by
 unfold hA
 split
 ·exact⟨by simp,rfl,fun v hv=>by rw[je.1 hv];exact hp,trivial,.inl trivial,.inl trivial⟩
 ·rename_i cr;refine⟨by simp,rfl,fun v hv => ?_,⟨cr,trivial⟩,?_,?_⟩
  ·simp only[fg,sN,or_false] at hv;rcases hv with rfl|rfl
   ·exact hp
   ·exact aj
  ·rcases Int.le_total p.1 q.1 with h|h
   ·exact .inl ⟨h,trivial⟩
   ·exact .inr ⟨h,trivial⟩
  ·rcases Int.le_total p.2 q.2 with h|h
   ·exact .inl ⟨h,trivial⟩
   ·exact .inr ⟨h,trivial⟩
theorem Eg{X W a b n d:Int}(gm:0<W)(hd:0<d)(aA:0≤n∧n≤d)(e:X*d=W*(a*(d-n)+b*n)){lo hi:Int}(aX:lo≤a∧a≤hi)(aa:lo≤b∧b≤hi):lo*W≤X∧X≤hi*W:=by
 have a1:=h0 (show 0≤a-lo by omega) (show 0≤d-n by omega);have a2:=h0 (show 0≤hi-a by omega) (show 0≤d-n by omega);have b1:=h0 (show 0≤b-lo by omega) aA.1;have b2:=h0 (show 0≤hi-b by omega) aA.1;have s1:lo*d≤a*(d-n)+b*n:=by grind
 have s2:a*(d-n)+b*n≤hi*d:=by grind
 have t1:=sO s1 (pI gm);have t2:=sO s2 (pI gm);rw[←e] at t1 t2;refine⟨Int.le_of_mul_le_mul_right ?_ hd,Int.le_of_mul_le_mul_right ?_ hd⟩
 ·rw[show lo*W*d=W*(lo*d) by grind];exact t1
 ·rw[show hi*W*d=W*(hi*d) by grind];exact t2
theorem LF{r:Nat}(ap:r≤28){a b:bK}(h1:gQ a.1=true)(h2:gQ a.2=true){x:aq}(h:xv r a b=some x):dW r x.1 x.2=true:=by
 unfold xv at h
 split at h
 ·rename_i ae;cases h;obtain⟨X,Y,W,W',e⟩:=FW ae;obtain⟨q1,q2,q3,_⟩:=GB (r:=r) e;obtain⟨_,_,⟨n,d,g1,g2,g3,g4⟩,_⟩:=Ce e;have cN:=nR.1 h1;have cO:=nR.1 h2;obtain⟨c1,c2⟩:=Eg q2 g1 g2 g3 (lo := -134217728) (hi:=134217727) (by omega) (by omega);obtain⟨jm,Az⟩:=Eg q2 g1 g2 g4 (lo := -134217728) (hi:=134217727) (by omega) (by omega);rw[q3];unfold dW;rw[GF ap q2 c1 c2,GF ap q2 jm Az];rfl
 ·cases h
theorem ON{r:Nat}{l m:aq×aq}(h1:dW r l.1.1 l.1.2=true)(h2:dW r l.2.1 l.2.2=true){x:aq}(h:tk r l m=some x):dW r x.1 x.2=true:=by
 have hS:(0:Int)<2^r:=jE (by decide);unfold tk at h
 split at h
 ·rename_i ae;cases h;obtain⟨X,Y,W,W',e⟩:=FW ae.1;obtain⟨q1,q2,q3,q4⟩:=GB (r:=r) e;obtain⟨_,_,⟨n,d,g1,g2,g3,g4⟩,_⟩:=Ce e;generalize jR r (iu (ha r l) (ha r m))=x at *;obtain⟨⟨i1,i2⟩,i3,i4⟩:=q4;have v1:=T8 hS q2 g1 g2 g3 i1 i2;have v2:=T8 hS q2 g1 g2 g4 i3 i4;unfold dW at h1 h2 ⊢;rw[ef] at h1 h2 ⊢;refine⟨?_,?_⟩
  ·rcases Int.le_total l.1.1 l.2.1 with h|h
   ·exact Di h1.1 h2.1 (v1.1 h).1 (v1.1 h).2
   ·exact Di h2.1 h1.1 (v1.2 h).1 (v1.2 h).2
  ·rcases Int.le_total l.1.2 l.2.2 with h|h
   ·exact Di h1.2 h2.2 (v2.1 h).1 (v2.1 h).2
   ·exact Di h2.2 h1.2 (v2.2 h).1 (v2.2 h).2
 ·cases h
theorem ajX{E:List bK}{r R:Nat}(ap:r≤28)(fA:jD E=true):lS (rv E r R) (xq E r) where
 nodup i c h:=h.1.nodup
 new i hi:=⟨agV (Gd ap (pD fA i).1) (Gd ap (pD fA i).2),ZV _⟩
 split i c j p q bo h hlen hp aj aA _ aw:=by
  refine⟨h.1.cut ap hp aj aA aw,?_⟩;have adH:=C4 p q bo;have e:bo.length=(gu p q bo).length:=adH.length_eq.symm;show th _ _ (dF c.1 j (gu p q bo)) (eL c.2 j bo.length);rw[e];refine OA (fun d t x ab=>ag0 (by omega) ab) (fun d t1 t2 Jj Jk h1 h2 => ?_) c.1 c.2 j 0 hlen hp aj h.2;have nK:=D7 ap bo p q;rw[Mn aA aw];have:=Oz Jj Jk h1 h2 (tc r bo p q) 0 Rat.le_refl (by decide) (fun x ab u hu=>hu.1.1) (fun x ab=>(nK.2.1 x ab).2.2) nK.1;rwa [show t1+0*(t2-t1)=t1 by grind] at this
 hH:=C4
 ET i _:=⟨Gd ap (pD fA i).1,Gd ap (pD fA i).2⟩
 PF i j x _ _ h:=LF ap (pD fA i).1 (pD fA i).2 h
 PD p q fL cI x h1 h2 _ _ h:=ON (l:=(p,q)) (m:=(fL,cI)) h1 h2 h
 cut hot p q fL cI x aw _ _ h1 h2 ar aJ bO fl h:=(aj8 E ap R).Z7 hot p q fL cI x aw h1 h2 ar aJ bO fl h
variable{α:Type} [DecidableEq α]
abbrev jg(α:Type):=List (List α×List Int)
end Go.Proofs.YtklpfooafbjnpaaGreat.bB
namespace Go.Proofs.YtklpfooafbjnpaaGreat.bB
variable{α:Type} [DecidableEq α]
def news(o:cT α):jg α:=(List.range o.n).map fun k=>hA (o.P k) (o.Q k)
theorem acP(o:cT α){s:bd α}(aa:iT o s)(q:α)(aj:o.gM q):(dI o s q=fp s 5 0 0∧s.hot.length=o.R∧q∉s.hot) ∨
  ∃eA,dI o s q={s with hot:=eA}∧iT o ({s with hot:=eA}:bd α)∧(∀x,x∈eA↔(x∈s.hot∨x=q)):=by
 have:=aa.room;unfold dI
 by_cases h:q∈s.hot
 ·rw[if_pos h];exact .inr ⟨s.hot,rfl,aa,fun x=>⟨.inl,fun ba=>ba.elim id fun e=>by rw[e];exact h⟩⟩
 ·rw[if_neg h]
  by_cases h2:s.hot.length<o.R
  ·rw[if_pos h2];refine .inr ⟨s.hot++[q],rfl,⟨?_,?_,fun x ab=>(kh.1 ab).elim (aa.hr x) fun h=>by rw[je.1 h];exact aj⟩,fun x=>by simp⟩
   ·show (s.hot++[q]).Nodup;refine List.nodup_append.2 ⟨aa.nd,by simp,fun a aX b cL => ?_⟩;rw[je] at cL;subst cL;exact fun e=>h (by rw[←e];exact aX)
   ·show (s.hot++[q]).length≤o.R;rw[c3,List.length_singleton];omega
  ·rw[if_neg h2];exact .inl ⟨rfl,by omega,h⟩
end Go.Proofs.YtklpfooafbjnpaaGreat.bB
namespace Go.Proofs.YtklpfooafbjnpaaGreat.bB
variable{α:Type} [DecidableEq α]
theorem KF(o:cT α):∀(m n:Nat) (s:bd α),jy o (m+n) s=jy o n (jy o m s)
 | 0,n,s=>by rw[hZ];rfl
 | m+1,n,s=>by
  rw[show m+1+n=(m+n)+1 by omega];exact KF o m n (dh o s)
def h4(o:cT α):Nat→bd α→Nat×bd α
 | 0,s=>(0,s)
 | n+1,s=>if 4≤s.ph then(0,s) else((h4 o n (dh o s)).1+1,(h4 o n (dh o s)).2)
theorem ako{o:cT α}{s:bd α}(h:4≤s.ph):∀n,h4 o n s=(0,s)
 | 0=>rfl
 | n+1=>if_pos h
theorem U4{o:cT α}:∀(n:Nat) (s:bd α),(h4 o n s).2=jy o (h4 o n s).1 s∧(h4 o n s).1≤n∧((h4 o n s).1<n→4≤(h4 o n s).2.ph)
 | 0,s=>⟨rfl,cF _,fun h=>absurd h (by show ¬ 0<0;omega)⟩
 | n+1,s=>by
  obtain⟨h1,h2,ar⟩:=U4 n (dh o s);unfold h4
  by_cases h:4≤s.ph
  ·rw[if_pos h];exact⟨rfl,du _,fun _=>h⟩
  ·rw[if_neg h];exact⟨h1,by show _+1≤n+1;omega,fun ba=>ar (by have:(h4 o n (dh o s)).1+1<n+1:=ba;omega)⟩
structure DM (o:cT α) (z:α):Prop where
 P:∀i,i<o.n→o.P i=z∧o.Q i=z
 o3:∀i j x,i<j→j<o.n→o.o3 i j=some x→x=z
 room:0<o.R
structure One (o:cT α) (z:α) (m:Nat) (s:bd α):Prop where
 hot:∀x∈s.hot,x=z
 left:(s.ph=0∧(o.n-s.I)+o.n*o.n≤m)∨(s.ph=1∧(o.n-s.I)*o.n-s.J≤m)∨(s.ph=4∧s.hot=[z]∧s.ch=news o)
theorem Qd{o:cT α}{z:α}{s:bd α}(h1:DM o z)(FI:o.gM z)(aa:iT o s)(h:∀x∈s.hot,x=z):∃eA,dI o s z={s with hot:=eA}∧iT o ({s with hot:=eA}:bd α)∧eA=[z]:=by
 have lC:∀l:List α,l.Nodup→(∀x∈l,x=z)→z∈l→l=[z]:=fun l aA al aT=>by
  have:=Co aA (m:=[z]) fun x ab=>by rw[al x ab];simp
  match l,aT,this with
  | [a],_,_=>rw[al a (by simp)]
  | a::b::l,_,ba=>simp at ba
 rcases acP o aa z FI with ⟨_,f,g⟩|⟨h2,e,b2,m2⟩
 ·exfalso;have:=h1.room;have hlen:0<s.hot.length:=by omega
  obtain⟨y,ai⟩:=List.exists_mem_of_length_pos hlen;exact g (by rw[←h y ai];exact ai)
 ·exact⟨h2,e,b2,lC h2 b2.nd (fun x ab=>((m2 x).1 ab).elim (h x) id) ((m2 z).2 (.inr rfl))⟩
theorem RS{o:cT α}{z:α}(h1:DM o z)(s:bd α):mu o s=fp {s with ch:=news o} 4 0 0:=by
 have hlen:∀c∈news o,c.1.length=1:=fun c ak=>by
  obtain⟨k,ae,rfl⟩:=fV.1 ak;obtain⟨aI,aO⟩:=h1.P k (nW.1 ae);rw[aI,aO];unfold hA;rw[if_pos rfl];rfl
 have BL:∀(cs:jg α) i,(∀c∈cs,c.1.length=1)→rI cs i 0=none:=by
  intro cs
  induction cs with
  | nil=>intro i _;rfl
  | cons c cs cg =>
   intro i h;unfold rI;rw[if_neg (by rw[h c (hE ..)];decide)];exact cg _ fun c ak=>h c (k8 _ ak)
 have al:bi (news o)=[]:=List.flatMap_eq_nil_iff.2 fun c ak=>List.length_eq_zero_iff.1 (by rw[sy,hlen c ak]);show mA (fp {s with ch:=news o} 2 0 0)=_;unfold mA;show (match rI ((news o).drop 0) 0 0 with|some BW=>_|none=>if (bi (news o)).length<2 then _ else _)=_;rw[List.drop_zero,BL _ 0 hlen,al];rfl
theorem VC{o:cT α}{ok:Nat→List α×List Int→Prop}{z:α}{m:Nat}(ae:lS o ok)(h1:DM o z){s:bd α}(hi:jl o ok s)(h:One o z (m+1) s):One o z m (dh o s):=by
 rcases h.left with ⟨hp,al⟩|⟨hp,al⟩|⟨hp,al,ak⟩
 ·have aF:HI o s:=by
   obtain⟨_,aK|aK|aK|aK|aK|aK⟩:=hi
   ·exact aK
   all_goals · have:=aK.ph;omega
  have a7:=aF.I;have e:dh o s=r8 o s:=by simp only[dh,hp]
  rw[e];obtain⟨aI,aO⟩:=h1.P s.I a7;have FI:o.gM z:=by rw[←aI];exact(ae.ET _ a7).1
  obtain⟨a1,f1,b1,g1⟩:=Qd h1 FI hi.1 h.hot;subst g1;obtain⟨a2,f2,b2,g2⟩:=Qd h1 FI b1 (fun x ab=>je.1 ab);subst g2;unfold r8;rw[aI,aO,f1,f2,if_neg (show ¬s.ph=5 by omega),if_neg (show ¬s.ph=5 by omega),RS h1]
  split
  ·exact⟨fun x ab=>je.1 ab,.inl ⟨hp,show (o.n-(s.I+1))+o.n*o.n≤m by omega⟩⟩
  ·split
   ·exact⟨fun x ab=>je.1 ab,.inr (.inr ⟨rfl,rfl,rfl⟩)⟩
   ·exact⟨fun x ab=>je.1 ab,.inr (.inl ⟨rfl,show (o.n-0)*o.n-1≤m by rw[Nat.sub_zero];omega⟩)⟩
 ·have aF:Inv1 o s:=by
   obtain⟨_,aK|aK|aK|aK|aK|aK⟩:=hi
   ·have:=aK.ph;omega
   ·exact aK
   all_goals · have:=aK.ph;omega
  have Qh:s.hot=[z]:=by
   have aA:0<o.n:=by have:=aF.J;omega
   have aT:z∈s.hot:=by rw[←(h1.P 0 aA).1];exact(aF.zM 0 aA).1
   have:=Co hi.1.nd (m:=[z]) fun x ab=>by rw[h.hot x ab];simp
   have dN:=h.hot;generalize s.hot=l at aT this dN
   match l,aT,this with
   | [a],_,_=>rw[dN a (by simp)]
   | a::b::l,_,ba=>simp at ba
  have e:dh o s=sJ o s:=by simp only[dh,hp]
  have key:lx o s (o.o3 s.I s.J)=s:=by
   cases adK:o.o3 s.I s.J with
   | none=>rfl
   | some x =>
    have:=h1.o3 _ _ x aF.we aF.J adK;subst this;show dI o s x=s;unfold dI;rw[if_pos (by rw[Qh];simp)]
  obtain⟨fq,gI⟩:=Ll aF.we aF.J;rw[e];unfold sJ;rw[key,if_neg (show ¬s.ph=5 by omega),RS h1]
  split
  ·rename_i bc;have:=(gI bc).2;exact⟨h.hot,.inr (.inl ⟨hp,show (o.n-(cA o.n s.I s.J).1)*o.n-(cA o.n s.I s.J).2≤m by omega⟩)⟩
  ·exact⟨h.hot,.inr (.inr ⟨rfl,Qh,rfl⟩)⟩
 ·have e:dh o s=s:=by simp only[dh,hp]
  rw[e];exact⟨h.hot,.inr (.inr ⟨hp,al,ak⟩)⟩
end Go.Proofs.YtklpfooafbjnpaaGreat.bB
namespace Go.Proofs.YtklpfooafbjnpaaGreat.bB
theorem EV{v:Int}(h : -134217728≤v∧v<134217728):bV v 28=0:=by
 unfold bV;have e:(2:Int)^28=268435456:=by decide
 rw[e];omega
theorem UE{E:List bK}{R:Nat}(fA:jD E=true)(an:0<R):DM (rv E 28 R) (0,0) where
 P i hi:=by
  have h:=pD fA i;have h1:=nR.1 h.1;have h2:=nR.1 h.2;exact⟨la (EV h1.1) (EV h1.2),la (EV h2.1) (EV h2.2)⟩
 o3 i j x gF af hp:=by
  have hp:xv 28 (E.getD i ku) (E.getD j ku)=some x:=hp;have h:=pD fA i;have g:=LF (by decide) h.1 h.2 hp;have h1:=nR.1 h.1;have h2:=nR.1 h.2;unfold xv at hp
  split at hp
  ·rename_i ae;cases hp;obtain⟨X,Y,W,W',e⟩:=FW ae;obtain⟨q1,q2,q3,_⟩:=GB (r:=28) e;obtain⟨_,_,⟨n,d,g1,g2,g3,g4⟩,_⟩:=Ce e;obtain⟨c1,c2⟩:=Eg q2 g1 g2 g3 (lo := -134217728) (hi:=134217727) (by omega) (by omega);obtain⟨jm,Az⟩:=Eg q2 g1 g2 g4 (lo := -134217728) (hi:=134217727) (by omega) (by omega);have hS:(0:Int)<2^28:=by decide
   have jZ:fU (2^28) (-134217728) 1=0:=by decide
   have z2:fU (2^28) 134217727 1=0:=by decide
   have m1:=zk hS (by decide) q2 (X := -134217728) (W:=1) (X':=X) (by omega);have m2:=zk hS q2 (by decide) (X:=X) (X':=134217727) (W':=1) (by omega);have m3:=zk hS (by decide) q2 (X := -134217728) (W:=1) (X':=Y) (by omega);have m4:=zk hS q2 (by decide) (X:=Y) (X':=134217727) (W':=1) (by omega);rw[jZ] at m1 m3;rw[z2] at m2 m4;rw[q3];exact la (by show fU _ _ _=0;omega) (by show fU _ _ _=0;omega)
  ·cases hp
 room:=an
end Go.Proofs.YtklpfooafbjnpaaGreat.bB
namespace Go.Proofs.YtklpfooafbjnpaaGreat
open Go.RowKit
abbrev pO(V:List aq)(D:List Int):ag := .w (.agg [.p (b6 2 V.length (b0 V)),.p (b6 1 D.length (cK D))])
abbrev xf(V:List aq)(D:List Int):List AC:=[.p (b6 2 V.length (b0 V)),.p (b6 1 D.length (cK D))]
abbrev Ej(b:Bool):AC := .p (n5 [.c (.bool (!b))])
abbrev xQ(l d:Bool):ag := .w (.one (.p (l9 (.func 199) [Ej l,Ej d])))
theorem ahB{a1 a2 b1 b2:Int}:aP ah 141 [bm a1 a2,bm b1 b2] (xQ (decide (b1<a1)) (decide (b2<a2))):=by
 have aI:decide (b1≥a1) = !decide (b1<a1):=by by_cases h:b1<a1 <;> simp[h] <;> omega
 have aO:decide (b2≥a2) = !decide (b2<a2):=by by_cases h:b2<a2 <;> simp[h] <;> omega
 refine LB (f:=141) Tryz.func141 rfl rfl rfl rfl ?_;refine Eb (wz ?_);(refine fi ?_);refine Eb (wz ?_);(refine fi ?_);refine Ea 5 _ rfl rfl ?_;refine Ea 6 _ rfl rfl ?_;refine wz ?_;(repeat first|refine dd ?_|refine D4 (xs:=[_,_]) (cs:=[_,_]) rfl rfl rfl rfl ?_)
 ((refine bn rfl (bb rfl aM) ?_))
 exact ag.aW.of_eq (by rw[aI,aO];rfl)
theorem ah5{x y z w:Int}{l d r:Bool}(ap:At x y z w l d=r):aP ah 199 [bm x y,bm z w,.w (.one (Ej l)),.w (.one (Ej d))] (bl r):=by
 have cs:(¬x=z∧z<x∧r=l)∨(¬x=z∧¬z<x∧r = !l)∨(x=z∧¬y=w∧w<y∧r=d)∨(x=z∧¬y=w∧¬w<y∧r = !d)∨(x=z∧y=w∧r=false):=by
  rw[←ap];unfold At
  by_cases h1:x<z <;> by_cases h2:z<x <;> by_cases ar:y<w <;> by_cases aJ:w<y <;> simp[h1,h2,ar,aJ] <;> omega
 clear ap;rcases cs with ⟨h1,h2,rfl⟩|⟨h1,h2,rfl⟩|⟨h1,ar,h2,rfl⟩|⟨h1,ar,h2,rfl⟩|⟨h1,ar,rfl⟩
 all_goals
  refine bq (f:=199) Tryz.func199 rfl rfl rfl rfl ?_;(repeat first|refine dd ?_|(with_reducible apply Yp);(iterate 4 rfl);kernel_rfl|(with_reducible apply bU (c:=true));rfl;rfl;((simp only[r2];(omega)))|(with_reducible apply bU (c:=false));rfl;rfl;((simp only[r2];(omega))))
  ((refine bn rfl (bb rfl aM) ?_))
  first
  | exact ag.aW.refl _
  | exact ag.aW.of_eq (by rw[cb (show ¬x<z by omega),Bool.false_beq,Bool.not_not];rfl)
  | exact ag.aW.of_eq (by rw[cd (show x<z by omega),Bool.true_beq];rfl)
  | exact ag.aW.of_eq (by rw[cb (show ¬y<w by omega),Bool.false_beq,Bool.not_not];rfl)
  | exact ag.aW.of_eq (by rw[cd (show y<w by omega),Bool.true_beq];rfl)
section
variable{P:Program}{s:aB}{ops:Array Oper}{K:aB→Prop}{rest:List Oper}{ty:Nat}{pos:String}{after:Array Edge}{guard:Option (Nat×Bool)}{d:Nat}
theorem YV{dm dY:Nat}{x y:Operand}{a b:Int}(hw:want ops ⟨some d,.binOp .quo dm x y dY,ty,pos,after,guard⟩ s=some true)(ab:s.look x=some (aR (.int .i64 a)))(ai:s.look y=some (aR (.int .i64 b)))(aF:0≤a)(h1:0<b)(h2:a≤9223372036854775807)(hd:Nat.blt d s.n=true)(h:bk P ops K rest (s.put (some d) (aR (.int .i64 (a/b))))):bk P ops K (⟨some d,.binOp .quo dm x y dY,ty,pos,after,guard⟩::rest) s:=by
 refine qY hw ab ai (fun W => ?_) rfl hd h;have aa:b≠0:=by omega
 have e:a.tdiv b=a/b:=Int.tdiv_eq_ediv_of_nonneg aF
 have aO:IntKind.i64.wrap (a/b)=a/b:=jx (by
  have:=o9 aF (show 0≤b by omega);have:=Int.ediv_le_self b aF;omega)
 simp[binOp,Op.intDiv,aa,e,aO]
end
theorem Ro:b0 []=[]:=rfl
theorem Rp(p:Int×Int)(l:List (Int×Int)):((b0 (p::l)).drop ((1:Int).toNat*2)).take (l.length*2)=b0 l:=by
 show ((b0 (p::l)).drop 2).take (l.length*2)=b0 l;rw[←oy];simp[b0]
theorem KE(p:Int×Int)(l:List (Int×Int)):b0 l++[.c (.int .i64 p.1),.c (.int .i64 p.2)]=b0 (l++[p]):=by rw[tO];rfl
theorem aeH(l:List (Int×Int))(k:Nat):((b0 l).drop (0*2)).take ((l.take k).length*2)=b0 (l.take k):=by
 have e:b0 l=b0 (l.take k)++b0 (l.drop k):=by rw[←tO,ki]
 rw[e,Nat.zero_mul,List.drop_zero,←oy];simp
theorem aeG(l:List (Int×Int))(k:Nat)(ae:k≤l.length):((b0 l).drop (k*2)).take ((l.drop k).length*2)=b0 (l.drop k):=by
 have e:b0 l=b0 (l.take k)++b0 (l.drop k):=by rw[←tO,ki]
 have aO:k*2=(b0 (l.take k)).length:=by rw[oy,dX,qE ae]
 rw[e,aO,List.drop_left,←oy,List.take_length]
abbrev jS(v:Value)(l:List (Int×Int)):bE:=⟨50,2,v,l.length,b0 l⟩
instance anK:nw ah 41 50 2 16:=⟨by kernel_rfl⟩
def Xp(M:List (Int×Int))(lt:Int×Int→Int×Int→Bool)(sA:ag)(K:Nat)(m:Nat)(R:aC)(az:List (Nat×ag))(aS:List (Nat×List AC)):Prop :=
 ∃(a b out:List (Int×Int)) (v:Value),m=a.length+b.length∧out++e9 lt a b=M∧out.length+m=K∧R=bp 0 (jS v out)∧az=[(0,gD a),(1,gD b),(2,sA),(7,aR v)]∧aS=[]
theorem Lu{fx fy:Bool}{a b:List (Int×Int)}(aX:a.length≤100000)(aa:b.length≤100000) :
  aP ah 198 [gD a,gD b,xQ fx fy] (gD (e9 (dZ fx fy) a b)):=by
 refine bq (f:=198) Tryz.func198 rfl rfl rfl rfl ?_;refine uJ ?_;(refine aQ ?_);refine yQ (l:=0) (c':=a.length+b.length) 0 rfl rfl rfl rfl (du _) rfl rfl ?h2 (jB (by omega)) rfl (fun v hv => ?_)
 case h2=>omega
 (refine aQ ?_);refine iy 52 (Xp (e9 (dZ fx fy) a b) (dZ fx fy) (xQ fx fy) (a.length+b.length)) (a.length+b.length) (bp 0 (jS v [])) _ _ ⟨a,b,[],v,rfl,rfl,hZ _,rfl,rfl,rfl⟩ (lc _ _ _) rfl ⟨rfl,rfl,rfl,rfl,trivial⟩ trivial rfl ?_;rintro m R az aS ⟨a',cx,out,v,rfl,gj,fb,rfl,rfl,rfl⟩ bC;clear bC hv
 by_cases LK:0<a'.length
 ·by_cases LM:0<cx.length
  ·have Ub:(a'.length:Int)>0:=by omega
   have ajq:(cx.length:Int)>0:=by omega
   obtain⟨⟨x,n⟩,a2,rfl⟩:=List.exists_cons_of_length_pos LK;obtain⟨⟨y,m⟩,b2,rfl⟩:=List.exists_cons_of_length_pos LM;have hL:((b0 ((x,n)::a2)).drop ((0:Int).toNat*2)).take 2=[.c (.int .i64 x),.c (.int .i64 n)]:=qo (j:=0) (i:=0) rfl rfl;have uB:((b0 ((y,m)::b2)).drop ((0:Int).toNat*2)).take 2=[.c (.int .i64 y),.c (.int .i64 m)]:=qo (j:=0) (i:=0) rfl rfl;have aZ:=ah5 (x:=y) (y:=m) (z:=x) (w:=n) (l:=fx) (d:=fy) rfl;rw[show At y m x n fx fy=dZ fx fy (y,m) (x,n) from rfl] at aZ;cases bc:dZ fx fy (y,m) (x,n) with
   | true =>
    rw[bc] at aZ;have aI:((y,m)::b2).length-(1:Int).toNat=b2.length:=rfl;have aO:=Rp (y,m) b2
    have Js:(out++[(y,m)])++e9 (dZ fx fy) ((x,n)::a2) b2=e9 (dZ fx fy) a b:=by
     rw[←gj,e9,if_pos bc,hD];rfl
    have pu:(out++[(y,m)]).length=out.length+1:=c3;have iI:((y,m)::b2).length=b2.length+1:=rfl;have adh:((x,n)::a2).length=a2.length+1:=rfl;(repeat first|(with_reducible apply dv (id:=3) [0,1,2,3,4,5,6,7]);kernel_rfl;kernel_rfl;rfl|(with_reducible apply dv (id:=4) [0,1,2,3,6,7,4,5,8,9]);kernel_rfl;kernel_rfl;rfl|refine bQ ?_|(with_reducible apply eH);rfl;(repeat first|refine gW ?_|refine fX ?_|(with_reducible apply bU (c:=true));rfl;rfl;(exact cd (by omega)));(with_reducible apply dC));refine na 0 rfl rfl rfl rfl ?q1 ?q2 rfl rfl (fun bf bT => ?_)
    case q1=>exact jB (by show out.length+1≤1000000;omega)
    case q2=>show (out.length+1)*16≤140737488355328;omega
    (refine aQ ?_)
    have cf:jS bf (out++[(y,m)])=⟨50,2,bf,out.length+1,b0 out++[.c (.int .i64 y),.c (.int .i64 m)]⟩:=by
     unfold jS;rw[←KE,c3];rfl
    refine⟨_,bp 0 (jS bf (out++[(y,m)])),_,_,?_,⟨(x,n)::a2,b2,out++[(y,m)],bf,rfl,Js,?_,rfl,rfl,rfl⟩,by rw[cf];exact lc _ _ _,rfl,⟨rfl,rfl,rfl,rfl,trivial⟩,trivial,rfl⟩
    ·omega
    ·omega
   | false =>
    rw[bc] at aZ;have aI:((x,n)::a2).length-(1:Int).toNat=a2.length:=rfl;have aO:=Rp (x,n) a2
    have Js:(out++[(x,n)])++e9 (dZ fx fy) a2 ((y,m)::b2)=e9 (dZ fx fy) a b:=by
     rw[←gj,e9,if_neg (by rw[bc];decide),hD];rfl
    have pu:(out++[(x,n)]).length=out.length+1:=c3;have iI:((y,m)::b2).length=b2.length+1:=rfl;have adh:((x,n)::a2).length=a2.length+1:=rfl;(repeat first|(with_reducible apply dv (id:=3) [0,1,2,3,4,5,6,7]);kernel_rfl;kernel_rfl;rfl|(with_reducible apply dv (id:=5) [0,1,2,3,6,7,4,5,8,9]);kernel_rfl;kernel_rfl;rfl|refine bQ ?_|(with_reducible apply eH);rfl;(repeat first|refine gW ?_|refine fX ?_|(with_reducible apply bU (c:=true));rfl;rfl;(exact cd (by omega)));(with_reducible apply dC));refine na 0 rfl rfl rfl rfl ?q1 ?q2 rfl rfl (fun bf bT => ?_)
    case q1=>exact jB (by show out.length+1≤1000000;omega)
    case q2=>show (out.length+1)*16≤140737488355328;omega
    (refine aQ ?_)
    have cf:jS bf (out++[(x,n)])=⟨50,2,bf,out.length+1,b0 out++[.c (.int .i64 x),.c (.int .i64 n)]⟩:=by
     unfold jS;rw[←KE,c3];rfl
    refine⟨_,bp 0 (jS bf (out++[(x,n)])),_,_,?_,⟨a2,(y,m)::b2,out++[(x,n)],bf,rfl,Js,?_,rfl,rfl,rfl⟩,by rw[cf];exact lc _ _ _,rfl,⟨rfl,rfl,rfl,rfl,trivial⟩,trivial,rfl⟩
    ·omega
    ·omega
  ·have Ub:(a'.length:Int)>0:=by omega
   have ajq:¬(cx.length:Int)>0:=by omega
   have ack:cx=[]:=List.length_eq_zero_iff.1 (by omega);have aT:(a'.length:Int)=a'.length:=rfl;(repeat first|refine bQ ?_|(with_reducible apply eH);rfl;(repeat first|refine gW ?_|(with_reducible apply bU (c:=true));rfl;rfl;(exact cd (by omega)));(with_reducible apply dC));refine na 0 rfl rfl rfl rfl ?q1 ?q2 (tP _) rfl (fun bf bT => ?_)
   case q1=>exact jB (by show out.length+a'.length≤1000000;omega)
   case q2=>show (out.length+a'.length)*16≤140737488355328;omega
   (refine aQ ?_);refine QJ (k:=(e9 (dZ fx fy) a b).length) (zs:=b0 (e9 (dZ fx fy) a b)) 0 rfl rfl rfl rfl ?p1 ?p2 ?p3 ?p4 (tP _) rfl ?_
   case p1=>exact jB (by show (out.length+a'.length)+cx.length≤1000000;omega)
   case p2=>show ((out.length+a'.length)+cx.length)*16≤140737488355328;omega
   case p3=>show (out.length+a'.length)+cx.length=(e9 (dZ fx fy) a b).length;rw[K8];omega
   case p4=>show (b0 out++b0 a')++b0 cx=b0 (e9 (dZ fx fy) a b);rw[←gj,ack,K9,←tO,Ro,nk]
   (refine aQ ?_)
   ((refine bn rfl (bb rfl aM) ?_))
   exact ag.aW.refl _
 ·have Ub:¬(a'.length:Int)>0:=by omega
  have acb:a'=[]:=List.length_eq_zero_iff.1 (by omega);(repeat first|refine bQ ?_|(with_reducible apply eH);rfl;(repeat first|refine gW ?_|(with_reducible apply bU (c:=false));rfl;rfl;(exact cb (by omega)));(with_reducible apply dC));refine na 0 rfl rfl rfl rfl ?q1 ?q2 (tP _) rfl (fun bf bT => ?_)
  case q1=>exact jB (by show out.length+a'.length≤1000000;omega)
  case q2=>show (out.length+a'.length)*16≤140737488355328;omega
  (refine aQ ?_);refine QJ (k:=(e9 (dZ fx fy) a b).length) (zs:=b0 (e9 (dZ fx fy) a b)) 0 rfl rfl rfl rfl ?p1 ?p2 ?p3 ?p4 (tP _) rfl ?_
  case p1=>exact jB (by show (out.length+a'.length)+cx.length≤1000000;omega)
  case p2=>show ((out.length+a'.length)+cx.length)*16≤140737488355328;omega
  case p3=>show (out.length+a'.length)+cx.length=(e9 (dZ fx fy) a b).length;rw[K8];omega
  case p4=>show (b0 out++b0 a')++b0 cx=b0 (e9 (dZ fx fy) a b);rw[←gj,acb,agw,Ro,nk,←tO]
  (refine aQ ?_)
  ((refine bn rfl (bb rfl aM) ?_))
  exact ag.aW.refl _
theorem ah1{fx fy:Bool} :
  ∀(N:Nat) (l:List (Int×Int)),l.length≤N→N≤100000→aP ah 140 [gD l,xQ fx fy] (gD (jW (dZ fx fy) l)):=by
 intro N
 induction N with
 | zero =>
  intro l h1 h2;have eV:=Lu (fx:=fx) (fy:=fy) (a:=l) (b:=[]) (by omega) (by simp);rw[K9] at eV
  have aZ:aP ah 198 [gD l,MB,xQ fx fy] (gD l):=TM eV rfl rfl (by
   intro i x y ab ai
   match i with
   | 0=>cases ab;cases ai;exact .refl _
   | 1=>cases ab;cases ai;exact nil_le 2
   | 2=>cases ab;cases ai;exact .refl _
   | i+3=>simp at ab)
  have q1:(l.length:Int)<2:=by omega
  have e:jW (dZ fx fy) l=l:=by rw[jW,dif_pos (by omega)]
  rw[e];clear eV;refine bq (f:=140) Tryz.func140 rfl rfl rfl rfl ?_;(refine cR ?_)
  ((refine bn rfl (bb rfl aM) ?_))
  exact ag.aW.refl _
 | succ N cg =>
  intro l h1 h2
  by_cases q:l.length<2
  ·have eV:=Lu (fx:=fx) (fy:=fy) (a:=l) (b:=[]) (by omega) (by simp);rw[K9] at eV
   have aZ:aP ah 198 [gD l,MB,xQ fx fy] (gD l):=TM eV rfl rfl (by
    intro i x y ab ai
    match i with
    | 0=>cases ab;cases ai;exact .refl _
    | 1=>cases ab;cases ai;exact nil_le 2
    | 2=>cases ab;cases ai;exact .refl _
    | i+3=>simp at ab)
   have q1:(l.length:Int)<2:=by omega
   have e:jW (dZ fx fy) l=l:=by rw[jW,dif_pos (by omega)]
   rw[e];clear eV cg;refine bq (f:=140) Tryz.func140 rfl rfl rfl rfl ?_;(refine cR ?_)
   ((refine bn rfl (bb rfl aM) ?_))
   exact ag.aW.refl _
  ·have q1:¬(l.length:Int)<2:=by omega
   have e:jW (dZ fx fy) l=e9 (dZ fx fy) (jW (dZ fx fy) (l.take (l.length/2))) (jW (dZ fx fy) (l.drop (l.length/2))):=by rw[jW,dif_neg q]
   have aZ:=cg (l.take (l.length/2)) (by simp;omega) (by omega);have bM:=cg (l.drop (l.length/2)) (by simp;omega) (by omega);have l1:=G8 (dZ fx fy) _ (l.take (l.length/2)) (cF _);have l2:=G8 (dZ fx fy) _ (l.drop (l.length/2)) (cF _);have eh:=Lu (fx:=fx) (fy:=fy) (a:=jW (dZ fx fy) (l.take (l.length/2))) (b:=jW (dZ fx fy) (l.drop (l.length/2))) (by rw[l1];simp;omega) (by rw[l2];simp;omega);have ba:((l.length:Int)/2).toNat=l.length/2:=by omega
   have aI:((l.length:Int)/2).toNat-0=(l.take (l.length/2)).length:=by rw[ba];simp;omega
   have aO:=aeH l (l.length/2);have cf:((l.length:Int)).toNat-((l.length:Int)/2).toNat=(l.drop (l.length/2)).length:=by rw[ba];simp
   have ei:=aeG l (l.length/2) (by omega);have jo:((b0 l).drop (((l.length:Int)/2).toNat*2)).take ((l.drop (l.length/2)).length*2)=b0 (l.drop (l.length/2)):=by rw[ba];exact ei
   rw[e];clear cg l1 l2 e ei ba;refine bq (f:=140) Tryz.func140 rfl rfl rfl rfl ?_;(repeat first|(with_reducible apply gd);rfl|(with_reducible apply rZ);(iterate 3 rfl)|(with_reducible apply Ia);(iterate 4 rfl);(omega);(omega);(omega);(assumption);(assumption);rfl|(with_reducible apply Ib);(iterate 5 rfl);(omega);(omega);(omega);(omega);(assumption);(assumption);rfl|(with_reducible apply YV);(iterate 3 rfl);omega;omega;omega;rfl|refine H5 rfl rfl rfl rfl (by(first|exact aZ|exact bM)) rfl ?_|refine H6 rfl rfl rfl rfl rfl (by(exact eh)) rfl ?_|(with_reducible apply NM);kernel_rfl|(with_reducible apply N4);kernel_rfl;kernel_rfl;rfl|(with_reducible first|apply N5|apply NW|apply Ih|apply dC|apply Ii|apply Ij)|(with_reducible apply NY);rfl;(exact cb (by omega)))
   ((refine bn rfl (bb rfl aM) ?_))
   exact ag.aW.refl _
section
variable{P:Program}{aH:cW}{s:aB}{ops:Array Oper}{dr:Option (List Nat)}{ty d:Nat}{pos:String}{after:Array Edge}{guard:Option (Nat×Bool)}{K:aB→Prop}{rest:List Oper}
theorem H9{tt z n l lo hi:Nat}{v u:Value}{x y:Operand} [S:hM P tt z](hw:want ops ⟨some d,.slice tt x (some y) none none,ty,pos,after,guard⟩ s=some true)(ab:s.look x=some (aR u))(ai:s.look y=some (aL (l:Int)))(hu:j2 v z lo hi u)(hm:hi-lo=n)(h1:l≤n)(hd:Nat.blt d s.n=true)(h:bk P ops K rest (s.put (some d) (aR (h3 u z l n)))):bk P ops K (⟨some d,.slice tt x (some y) none none,ty,pos,after,guard⟩::rest) s:=by
 subst hm;obtain⟨⟨A,c,rfl⟩,_⟩:=hu;refine fJ (av:=aR (h3 (.slice A (hi-lo) c) z l (hi-lo))) hw ⟨fun _ _ h=>(by cases h),fun q aj => ?_,fun U ad W env he => ?_,fun j af=>absurd af (gS _ j)⟩ hd h
 ·simp[Op.operands] at aj;rcases aj with rfl|rfl
  ·exact⟨_,ab⟩
  ·exact⟨_,ai⟩
 ·have ex:env x = .slice A (hi-lo) c:=(he x (by simp[Op.operands]) _ ab).1;have j4:env y = .int .i64 (l:Int):=(he y (by simp[Op.operands]) _ ai).1;obtain⟨e',fc,hu,b7,hs⟩:=nm S.h;have eZ:P.underlying tt=some (.slice (P.elem tt)):=by rw[j3 hu];exact hu
  refine⟨h3 (.slice A (hi-lo) c) z l (hi-lo),?_,rfl,rfl⟩;simp only[execOp,ex,hk,rB,j4,Sem.run_bind,run_sliceAt_slice W tt _ _ _ _ eZ,run_slice_l W tt A (hi-lo) c eZ .i64 l (by omega) (by omega),j3 hu,h5 b7,Result.andThen_ok,hs,Sem.run_pure,kL,h3]
theorem YW{tt z n l lo hi:Nat}{v u:Value}{x y:Operand} [S:hM P tt z](hw:want ops ⟨some d,.slice tt x none (some y) none,ty,pos,after,guard⟩ s=some true)(ab:s.look x=some (aR u))(ai:s.look y=some (aL (l:Int)))(hu:j2 v z lo hi u)(hm:hi-lo=n)(h1:l≤n)(hd:Nat.blt d s.n=true)(h:bk P ops K rest (s.put (some d) (aR (h3 u z 0 l)))):bk P ops K (⟨some d,.slice tt x none (some y) none,ty,pos,after,guard⟩::rest) s:=by
 subst hm;obtain⟨⟨A,c,rfl⟩,ak⟩:=hu
 have J0:l≤c:=by
  rcases xx l with e|e
  ·omega
  ·have ba:=ak (show lo<hi by omega);obtain⟨g,n',c',g1,g2,g3⟩:=ba;have ei:c=c'-lo:=by injection g3
   clear g1 g3 ak;omega
 refine fJ (av:=aR (h3 (.slice A (hi-lo) c) z 0 l)) hw ⟨fun _ _ h=>(by cases h),fun q aj => ?_,fun U ad W env he => ?_,fun j af=>absurd af (gS _ j)⟩ hd h
 ·simp[Op.operands] at aj;rcases aj with rfl|rfl
  ·exact⟨_,ab⟩
  ·exact⟨_,ai⟩
 ·have ex:env x = .slice A (hi-lo) c:=(he x (by simp[Op.operands]) _ ab).1;have j4:env y = .int .i64 (l:Int):=(he y (by simp[Op.operands]) _ ai).1;obtain⟨e',fc,hu,b7,hs⟩:=nm S.h;have eZ:P.underlying tt=some (.slice (P.elem tt)):=by rw[j3 hu];exact hu
  refine⟨h3 (.slice A (hi-lo) c) z 0 l,?_,rfl,rfl⟩;simp only[execOp,ex,hk,rB,j4,Sem.run_bind,run_sliceAt_slice W tt _ _ _ _ eZ,run_slice_h W tt A (hi-lo) c eZ .i64 l (by omega) (by omega),j3 hu,h5 b7,Result.andThen_ok,hs,Sem.run_pure,kL,h3]
end
theorem Mi{A C Ns:List AC}{n:Nat}(h:A.length=n):eP (A++Ns) n C=(A++C)++Ns.drop C.length:=by
 subst h;unfold eP;rw[List.take_left,List.drop_append,rD (by omega),uf,Nat.add_sub_cancel_left]
theorem Rq{l:List aq}{n:Nat}(h:l.length=n):(b0 l).take (n*2)=b0 l:=gB (by rw[oy];omega)
theorem Rc{l:List Int}{n:Nat}(h:l.length=n):(cK l).take (n*1)=cK l:=gB (by simp[cK];omega)
theorem Rb(l:List Int):(cK l).all AC.aV=true:=b4.2 fun y ai=>by
 obtain⟨x,_,rfl⟩:=fV.1 ai;rfl
theorem FM(l:List Int):(cK l).length=l.length*1:=by simp[cK]
abbrev GS(LL:List (List aq)):List AC:=LL.map fun l=>AC.p (b6 2 l.length (b0 l))
abbrev Hh(LL:List (List aq)):ag:=cG 1 LL.length (GS LL)
theorem UQ{LL:List (List aq)}{j:Int}{i:Nat}{l:List aq}(af:j=i)(h:LL[i]?=some l):((GS LL).drop (j.toNat*1)).take 1=[.p (b6 2 l.length (b0 l))]:=by
 subst af;have hi:=(bt.1 h).1;rw[kL,Nat.mul_one,jU (by simpa [GS] using hi)];have:LL[i]=l:=(bt.1 h).2;simp[GS,this]
def jb(LL:List (List aq))(i:Nat):List aq:=(LL.take i).flatten
theorem T0{LL:List (List aq)}{i:Nat}{l:List aq}(h:LL[i]?=some l):jb LL (i+1)=jb LL i++l:=by
 unfold jb;rw[lH (bt.1 h).1,(bt.1 h).2];simp
theorem TY{LL:List (List aq)}{i:Nat}(h:LL.length≤i):jb LL i=LL.flatten:=by unfold jb;rw[gB h]
theorem TZ(LL:List (List aq))(i:Nat):(jb LL i).length≤LL.flatten.length:=by
 have:LL.flatten=jb LL i++(LL.drop i).flatten:=by unfold jb;rw[←List.flatten_append,ki]
 rw[this,c3];omega
def Xj(LL:List (List aq))(n:Nat)(R:aC)(az:List (Nat×ag))(aS:List (Nat×List AC)):Prop :=
 ∃(i:Nat) (ii qt:Int),i≤LL.length∧n=LL.length-i∧ii=i∧qt=((jb LL i).length:Nat)∧R=dq∧aS=[]∧az=[(0,Hh LL),(3,aL qt),(10,Hh LL),(11,aL LL.length),(12,aL ii)]
def Xk(LL:List (List aq))(N:Nat)(v:Value)(fP:List AC)(n:Nat)(R:aC)(az:List (Nat×ag))(aS:List (Nat×List AC)):Prop :=
 ∃(i:Nat) (ii:Int) (u:Value),i≤LL.length∧n=LL.length-i∧ii=i∧j2 v 2 (jb LL i).length N u∧R=bp 0 ⟨50,2,v,N,b0 (jb LL i)++fP.drop ((jb LL i).length*2)⟩∧aS=[]∧az=[(6,aR v),(7,aR u),(24,Hh LL),(25,aL LL.length),(26,aL ii)]
theorem Tv{LL:List (List aq)}(dn:LL.length≤1100)(gl:LL.flatten.length≤100000):aP ah 217 [Hh LL] (gD LL.flatten):=by
 refine bq (f:=217) Tryz.func217 rfl rfl rfl rfl ?_;refine uJ ?_;(refine aQ ?_);refine iy 37 (Xj LL) LL.length dq _ [] ⟨0,0,0,du _,rfl,rfl,rfl,rfl,rfl,rfl⟩ (a8.refl _) rfl ⟨rfl,rfl,rfl,rfl,rfl,trivial⟩ trivial rfl ?_;rintro n R az aS ⟨i,ii,qt,hi,rfl,ev,Bz,rfl,rfl,rfl⟩ bC;clear bC
 by_cases aj:i<LL.length
 ·have q2:ii<(LL.length:Int):=by omega
  have q3:0≤ii:=by omega
  obtain⟨l,g1⟩:∃l,LL[i]?=some l:=⟨_,bF aj⟩;have hL:=UQ ev g1;have h1:=T0 g1;have h2:=TZ LL (i+1);have ar:(jb LL (i+1)).length=(jb LL i).length+l.length:=by rw[h1,c3]
  (refine aQ ?_);exact⟨LL.length-(i+1),dq,_,[],by omega,⟨i+1,ii+1,_,by omega,rfl,by omega,by omega,rfl,rfl,rfl⟩,a8.refl _,rfl,⟨rfl,rfl,rfl,rfl,rfl,trivial⟩,trivial,rfl⟩
 ·have q2:¬ii<(LL.length:Int):=by omega
  rw[TY (by omega)] at Bz;subst Bz;generalize Ba:LL.flatten.length=N at *;(refine aQ ?_);refine yQ (l:=N) (c':=N) 0 rfl rfl rfl rfl (cF _) rfl rfl ?h2 (jB (by omega)) rfl (fun v hv => ?_)
  case h2=>show 16*N≤281474976710656;omega
  generalize ec:jf N 2 _=fP;have E5:fP.length=N*2:=by rw[←ec];simp[jf]
  clear ec;(refine aQ ?_);refine L4 0 (r:=⟨50,2,v,N,fP⟩) rfl (fun ff c jL eN j8 cp hlen => ?_);have nf:v = .slice ff N c:=jL;have tH:j2 v 2 0 N v:=by rw[nf];exact j2.all 2 eN cp
  clear jL eN j8 cp hlen;refine iy 37 (Xk LL N v fP) LL.length (bp 0 ⟨50,2,v,N,fP⟩) _ [] ⟨0,0,v,du _,rfl,rfl,tH,rfl,rfl,rfl⟩ (lc _ _ _) rfl ⟨rfl,rfl,rfl,rfl,rfl,trivial⟩ trivial rfl ?_;clear aj q2 tH ev nf;rintro n R az aS ⟨i,ii,u,hi,rfl,ev,hu,rfl,rfl,rfl⟩ bC;clear bC
  by_cases aj:i<LL.length
  ·have q2:ii<(LL.length:Int):=by omega
   have q3:0≤ii:=by omega
   obtain⟨l,g1⟩:∃l,LL[i]?=some l:=⟨_,bF aj⟩;have hL:=UQ ev g1;have h1:=T0 g1;have h2:=TZ LL (i+1);have ar:(jb LL (i+1)).length=(jb LL i).length+l.length:=by rw[h1,c3]
   rw[Ba] at h2;have c1:=tP l;have bx:Nat.min l.length (N-(jb LL i).length)=l.length:=qE (by omega);obtain⟨m,hm⟩:∃m,N-(jb LL i).length=m:=⟨_,rfl⟩;have b1:(jb LL i).length≤N:=by omega
   have b2:l.length≤m:=by omega
   have s1:eP (b0 (jb LL i)++fP.drop ((jb LL i).length*2)) ((jb LL i).length*2) ((b0 l).take (l.length*2))=b0 (jb LL (i+1))++fP.drop ((jb LL (i+1)).length*2):=by
    rw[Rq rfl,Mi (oy _),←tO,←h1,List.drop_drop,oy];congr 2;omega
   have eZ:=hu.sl hm b2 b1;rw[←ar] at eZ;(repeat first|refine bQ ?_|(with_reducible apply eH);rfl;(repeat first|refine gW ?_|(with_reducible apply H9);(iterate 3 rfl);assumption;(assumption);(assumption);rfl);(with_reducible apply dC)|(with_reducible apply QK 0);(iterate 3 rfl);assumption;rfl;rfl;rfl;(assumption);(exact cF _);(assumption);rfl;assumption;assumption;rfl);exact⟨LL.length-(i+1),_,_,[],by omega,⟨i+1,ii+1,_,by omega,rfl,by omega,eZ,rfl,rfl,rfl⟩,lc _ _ _,rfl,⟨rfl,rfl,rfl,rfl,rfl,trivial⟩,trivial,rfl⟩
  ·have q2:¬ii<(LL.length:Int):=by omega
   have cB:b0 (jb LL i)++fP.drop ((jb LL i).length*2)=b0 LL.flatten:=by
    rw[TY (by omega),rD (by omega),nk]
   rw[cB];refine zy 0 6 ⟨50,2,v,N,b0 LL.flatten⟩ rfl rfl ?_;rw[←Ba];(refine aQ ?_)
   ((refine bn rfl (bb rfl aM) ?_))
   exact ag.aW.refl _
abbrev GU(LL:List (List Int)):List AC:=LL.map fun l=>AC.p (b6 1 l.length (cK l))
abbrev Hg(LL:List (List Int)):ag:=cG 1 LL.length (GU LL)
theorem UR{LL:List (List Int)}{j:Int}{i:Nat}{l:List Int}(af:j=i)(h:LL[i]?=some l):((GU LL).drop (j.toNat*1)).take 1=[.p (b6 1 l.length (cK l))]:=by
 subst af;have hi:=(bt.1 h).1;rw[kL,Nat.mul_one,jU (by simpa [GU] using hi)];have:LL[i]=l:=(bt.1 h).2;simp[GU,this]
def ja(LL:List (List Int))(i:Nat):List Int:=(LL.take i).flatten
theorem TX{LL:List (List Int)}{i:Nat}{l:List Int}(h:LL[i]?=some l):ja LL (i+1)=ja LL i++l:=by
 unfold ja;rw[lH (bt.1 h).1,(bt.1 h).2];simp
theorem TV{LL:List (List Int)}{i:Nat}(h:LL.length≤i):ja LL i=LL.flatten:=by unfold ja;rw[gB h]
theorem TW(LL:List (List Int))(i:Nat):(ja LL i).length≤LL.flatten.length:=by
 have:LL.flatten=ja LL i++(LL.drop i).flatten:=by unfold ja;rw[←List.flatten_append,ki]
 rw[this,c3];omega
def Xh(LL:List (List Int))(n:Nat)(R:aC)(az:List (Nat×ag))(aS:List (Nat×List AC)):Prop :=
 ∃(i:Nat) (ii qt:Int),i≤LL.length∧n=LL.length-i∧ii=i∧qt=((ja LL i).length:Nat)∧R=dq∧aS=[]∧az=[(0,Hg LL),(3,aL qt),(10,Hg LL),(11,aL LL.length),(12,aL ii)]
def Xi(LL:List (List Int))(N:Nat)(v:Value)(fP:List AC)(n:Nat)(R:aC)(az:List (Nat×ag))(aS:List (Nat×List AC)):Prop :=
 ∃(i:Nat) (ii:Int) (u:Value),i≤LL.length∧n=LL.length-i∧ii=i∧j2 v 1 (ja LL i).length N u∧R=bp 0 ⟨3,1,v,N,cK (ja LL i)++fP.drop ((ja LL i).length*1)⟩∧aS=[]∧az=[(6,aR v),(7,aR u),(24,Hg LL),(25,aL LL.length),(26,aL ii)]
theorem Tu{LL:List (List Int)}(dn:LL.length≤1100)(gl:LL.flatten.length≤100000):aP ah 218 [Hg LL] (n0 LL.flatten):=by
 refine bq (f:=218) Tryz.func218 rfl rfl rfl rfl ?_;refine uJ ?_;(refine aQ ?_);refine iy 37 (Xh LL) LL.length dq _ [] ⟨0,0,0,du _,rfl,rfl,rfl,rfl,rfl,rfl⟩ (a8.refl _) rfl ⟨rfl,rfl,rfl,rfl,rfl,trivial⟩ trivial rfl ?_;rintro n R az aS ⟨i,ii,qt,hi,rfl,ev,Bz,rfl,rfl,rfl⟩ bC;clear bC
 by_cases aj:i<LL.length
 ·have q2:ii<(LL.length:Int):=by omega
  have q3:0≤ii:=by omega
  obtain⟨l,g1⟩:∃l,LL[i]?=some l:=⟨_,bF aj⟩;have hL:=UR ev g1;have h1:=TX g1;have h2:=TW LL (i+1);have ar:(ja LL (i+1)).length=(ja LL i).length+l.length:=by rw[h1,c3]
  (refine aQ ?_);exact⟨LL.length-(i+1),dq,_,[],by omega,⟨i+1,ii+1,_,by omega,rfl,by omega,by omega,rfl,rfl,rfl⟩,a8.refl _,rfl,⟨rfl,rfl,rfl,rfl,rfl,trivial⟩,trivial,rfl⟩
 ·have q2:¬ii<(LL.length:Int):=by omega
  rw[TV (by omega)] at Bz;subst Bz;generalize Ba:LL.flatten.length=N at *;(refine aQ ?_);refine yQ (l:=N) (c':=N) 0 rfl rfl rfl rfl (cF _) rfl rfl ?h2 (jB (by omega)) rfl (fun v hv => ?_)
  case h2=>show 8*N≤281474976710656;omega
  generalize ec:jf N 1 _=fP;have E5:fP.length=N*1:=by rw[←ec];simp[jf]
  clear ec;(refine aQ ?_);refine L4 0 (r:=⟨3,1,v,N,fP⟩) rfl (fun ff c jL eN j8 cp hlen => ?_);have nf:v = .slice ff N c:=jL;have tH:j2 v 1 0 N v:=by rw[nf];exact j2.all 1 eN cp
  clear jL eN j8 cp hlen;refine iy 37 (Xi LL N v fP) LL.length (bp 0 ⟨3,1,v,N,fP⟩) _ [] ⟨0,0,v,du _,rfl,rfl,tH,rfl,rfl,rfl⟩ (lc _ _ _) rfl ⟨rfl,rfl,rfl,rfl,rfl,trivial⟩ trivial rfl ?_;clear aj q2 tH ev nf;rintro n R az aS ⟨i,ii,u,hi,rfl,ev,hu,rfl,rfl,rfl⟩ bC;clear bC
  by_cases aj:i<LL.length
  ·have q2:ii<(LL.length:Int):=by omega
   have q3:0≤ii:=by omega
   obtain⟨l,g1⟩:∃l,LL[i]?=some l:=⟨_,bF aj⟩;have hL:=UR ev g1;have h1:=TX g1;have h2:=TW LL (i+1);have ar:(ja LL (i+1)).length=(ja LL i).length+l.length:=by rw[h1,c3]
   rw[Ba] at h2;have c1:=Rb l;have bx:Nat.min l.length (N-(ja LL i).length)=l.length:=qE (by omega);obtain⟨m,hm⟩:∃m,N-(ja LL i).length=m:=⟨_,rfl⟩;have b1:(ja LL i).length≤N:=by omega
   have b2:l.length≤m:=by omega
   have s1:eP (cK (ja LL i)++fP.drop ((ja LL i).length*1)) ((ja LL i).length*1) ((cK l).take (l.length*1))=cK (ja LL (i+1))++fP.drop ((ja LL (i+1)).length*1):=by
    rw[Rc rfl,Mi (FM _),←BX,←h1,List.drop_drop,FM];congr 2;omega
   have eZ:=hu.sl hm b2 b1;rw[←ar] at eZ;(repeat first|refine bQ ?_|(with_reducible apply eH);rfl;(repeat first|refine gW ?_|(with_reducible apply H9);(iterate 3 rfl);assumption;(assumption);(assumption);rfl);(with_reducible apply dC)|(with_reducible apply QK 0);(iterate 3 rfl);assumption;rfl;rfl;rfl;(assumption);(exact cF _);(assumption);rfl;assumption;assumption;rfl);exact⟨LL.length-(i+1),_,_,[],by omega,⟨i+1,ii+1,_,by omega,rfl,by omega,eZ,rfl,rfl,rfl⟩,lc _ _ _,rfl,⟨rfl,rfl,rfl,rfl,rfl,trivial⟩,trivial,rfl⟩
  ·have q2:¬ii<(LL.length:Int):=by omega
   have cB:cK (ja LL i)++fP.drop ((ja LL i).length*1)=cK LL.flatten:=by
    rw[TV (by omega),rD (by omega),nk]
   rw[cB];refine zy 0 6 ⟨3,1,v,N,cK LL.flatten⟩ rfl rfl ?_;rw[←Ba];(refine aQ ?_)
   ((refine bn rfl (bb rfl aM) ?_))
   exact ag.aW.refl _
theorem ahW{x y:Nat}(ab:x<9223372036854775808)(ai:y<9223372036854775808)(h:x*y<9223372036854775808):aP ah 292 [aR (.int .u64 (x:Nat)),aR (.int .u64 (y:Nat))] (.cj [.one (.c (.int .u64 0)),.one (.c (.int .u64 ((x*y:Nat):Int)))]):=by
 refine iM [.int .u64 (x:Nat),.int .u64 (y:Nat)] (.tuple #[.int .u64 0,.int .u64 ((x*y:Nat):Int)]) rfl rfl rfl rfl rfl fun W => ?_;refine(Tryz.bits_Mul64 x y (by omega) (by omega) W).mono ?_;rintro e w' ⟨rfl,rfl⟩;have aI:x*y/18446744073709551616=0:=Nat.div_eq_of_lt (by omega);have aO:x*y % 18446744073709551616=x*y:=Nat.mod_eq_of_lt (by omega);rw[aI,aO];exact⟨rfl,Below.refl _ _⟩
theorem ahU{y:Nat}(ai:y<9223372036854775808):aP ah 251 [aR (.int .u64 1),aR (.int .u64 (y:Nat))] (.cj [.one (.c (.int .u64 0)),.one (.c (.int .u64 (y:Nat)))]):=by
 have aZ:=ahW (x:=1) (y:=y) (by decide) ai (by omega);rw[Nat.one_mul] at aZ
 replace aZ:aP ah 292 [aR (.int .u64 1),aR (.int .u64 (y:Nat))] (.cj [.one (.c (.int .u64 0)),.one (.c (.int .u64 (y:Nat)))]):=aZ
 refine bq (f:=251) Tryz.func251 rfl rfl rfl rfl ?_;(refine cR ?_)
 ((refine bn rfl (bb rfl (bb rfl aM)) ?_))
 exact ag.aW.refl _
def XK(d:Int)(m:Nat)(v:Value)(fP:List AC)(n:Nat)(R:aC)(az:List (Nat×ag))(aS:List (Nat×List AC)):Prop :=
 ∃(k:Nat) (ek:Int),1≤k∧k≤m∧n=m-k∧ek=k∧R=bp 0 ⟨3,1,v,m,cK (List.replicate k d)++fP.drop k⟩∧aS=[]∧az=[(7,aR v),(8,aL ek)]
theorem ahY{d:Int}{m:Nat}(yJ:1≤m)(hm:m≤100000):aP ah 195 [n0 [d],aL m] (n0 (List.replicate m d)):=by
 have wh:=ahU (y:=m) (by omega);have w1:IntKind.u64.wrap (m:Int)=m:=by rw[IntKind.wrap_u64];omega
 have w2:IntKind.i64.wrap (m:Int)=m:=jx (by omega);have dt:¬(m:Int)<0:=by omega
 have q1:¬(m:Int)>9223372036854775807:=by omega
 have bx:Nat.min 1 m=1:=qE yJ;refine bq (f:=195) Tryz.func195 rfl rfl rfl rfl ?_;refine uJ ?_;(refine mD ?_);refine yQ (l:=m) (c':=m) 0 rfl rfl rfl rfl (cF _) rfl rfl ?h2 (jB (by omega)) rfl (fun v hv => ?_)
 case h2=>show 8*m≤281474976710656;omega
 generalize ec:jf m 1 _=fP;have E5:fP.length=m:=by rw[←ec];simp[jf]
 have aca:fP.all AC.aV=true:=by
  rw[←ec];refine b4.2 fun y ai => ?_;simp only[jf,fV] at ai;obtain⟨j,_,rfl⟩:=ai;rfl
 clear ec
 have s1:eP fP (0*1) ((cK [d]).take (1*1))=cK (List.replicate 1 d)++fP.drop 1:=by
  unfold eP;simp[cK]
 (repeat first|refine bQ ?_|(with_reducible apply adS 0);(iterate 6 rfl);(rfl);rfl;(assumption);(assumption);rfl);refine L4 0 (r:=⟨3,1,v,m,cK (List.replicate 1 d)++fP.drop 1⟩) rfl (fun ff c jL eN j8 cp hlen => ?_);have nf:v = .slice ff m c:=jL;have hu:j2 v 1 0 m v:=by rw[nf];exact j2.all 1 eN cp
 clear jL eN j8 cp hlen nf;refine iy 48 (XK d m v fP) (m-1) (bp 0 ⟨3,1,v,m,cK (List.replicate 1 d)++fP.drop 1⟩) _ [] ⟨1,1,cF _,yJ,rfl,rfl,rfl,rfl,rfl⟩ (lc _ _ _) rfl ⟨rfl,rfl,trivial⟩ trivial rfl ?_;clear wh w1 w2 dt q1 bx s1;rintro n R az aS ⟨k,ek,mX,ae,rfl,rfl,rfl,rfl,rfl⟩ bC;clear bC
 by_cases aj:k<m
 ·have q2:(k:Int)<(m:Int):=by omega
  obtain⟨x,ab⟩:∃x,Nat.min k (m-k)=x:=⟨_,rfl⟩;have anC:1≤x:=by rw[←ab];exact Nat.le_min.2 ⟨mX,by omega⟩
  have aee:x≤k:=by rw[←ab];exact Nat.min_le_left _ _
  have anD:x≤m-k:=by rw[←ab];exact Nat.min_le_right _ _
  have m0:m-0=m:=Nat.sub_zero m;have cN:=hu.sl m0 ae (du _);have cO:=hu.ak8 (k:=k) (by omega);rw[hZ] at cN cO;have cB:0+k=k:=hZ k
  have hb:(cK (List.replicate k d)++fP.drop k).all AC.aV=true:=by
   rw[List.all_append,Rb,pK];exact b4.2 fun y ai=>b4.1 aca y (oE ai)
  have s1:eP (cK (List.replicate k d)++fP.drop k) (k*1) ((((cK (List.replicate k d)++fP.drop k).drop (0*1)).take (k*1)).take (x*1))=cK (List.replicate (k+x) d)++fP.drop (k+x):=by
   have lk:(cK (List.replicate k d)).length=k*1:=by simp[cK]
   rw[Nat.zero_mul,List.drop_zero,←lk,List.take_left,Mi rfl]
   have cf:(cK (List.replicate k d)).take (x*1)=cK (List.replicate x d):=by
    simp only[cK,List.map_replicate,Nat.mul_one,List.take_replicate];rw[qE aee]
   rw[cf,List.drop_drop,←BX,List.replicate_append_replicate,show (cK (List.replicate x d)).length=x by simp[cK]]
  have w1:IntKind.i64.wrap ((k:Int)+(x:Int))=(k:Int)+(x:Int):=jx (by omega);(repeat first|(with_reducible apply dv (id:=9) [0,1,2,3,4,5,6,7,8,9]);kernel_rfl;kernel_rfl;rfl|refine bQ ?_|(with_reducible apply eH);rfl;(repeat first|refine gW ?_|(with_reducible apply H9);(iterate 3 rfl);assumption;(assumption);(assumption);rfl|(with_reducible apply YW);(iterate 3 rfl);assumption;(assumption);(assumption);rfl);(with_reducible apply dC)|(with_reducible apply oQ 0);(iterate 4 rfl);kernel_rfl;rfl|(with_reducible apply adT 0);(iterate 3 rfl);assumption;rfl;assumption;assumption;assumption;rfl;rfl;(assumption);(exact cF _);(assumption);rfl;assumption;assumption;rfl);exact⟨m-(k+x),_,_,[],by omega,⟨k+x,(k:Int)+(x:Int),by omega,by omega,rfl,by omega,rfl,rfl,rfl⟩,lc _ _ _,rfl,⟨rfl,rfl,trivial⟩,trivial,rfl⟩
 ·have q2:¬(k:Int)<(m:Int):=by omega
  have cB:cK (List.replicate k d)++fP.drop k=cK (List.replicate m d):=by
   rw[show k=m by omega,rD (by omega),nk]
  rw[cB];refine zy 0 7 ⟨3,1,v,m,cK (List.replicate m d)⟩ rfl rfl ?_
  have el:cG 1 m (cK (List.replicate m d))=n0 (List.replicate m d):=by
   show cG 1 m _=cG 1 (List.replicate m d).length _;rw[List.length_replicate]
  rw[←el];(refine aQ ?_)
  ((refine bn rfl (bb rfl aM) ?_))
  exact ag.aW.refl _
end Go.Proofs.YtklpfooafbjnpaaGreat
namespace Go.Proofs.YtklpfooafbjnpaaGreat
def xn(p q:aq):List aq:=if p=q then [p] else [p,q]
def xm(p q:aq):List Int:=if p=q then [] else [1]
end Go.Proofs.YtklpfooafbjnpaaGreat
namespace Go.Proofs.YtklpfooafbjnpaaGreat
open Go.RowKit
open Classical in
noncomputable def xC(r:Nat)(V:List aq)(D:List Int):Bool:=decide (xD r V D)
theorem UT{r:Nat}{V:List aq}{D:List Int}(h:xD r V D):xC r V D=true:=by unfold xC;exact @decide_eq_true _ (Classical.propDecidable _) h
theorem akg{r:Nat}{V:List aq}{D:List Int}(h:¬xD r V D):xC r V D=false:=by unfold xC;exact @decide_eq_false _ (Classical.propDecidable _) h
def mP(D:List Int):Int:=D.foldl max 0
theorem aak{D:List Int}{m:Int}(aF:0≤m)(h:∀d∈D,d≤m):0≤mP D∧mP D≤m:=by
 have key:∀(D:List Int) (n:Int),0≤n→n≤m→(∀d∈D,d≤m)→0≤D.foldl max n∧D.foldl max n≤m:=by
  intro D
  induction D with
  | nil=>intro n g1 g2 _;exact⟨g1,g2⟩
  | cons d D cg =>
   intro n g1 g2 g3;rw[uc];have:=g3 d (hE ..);exact cg _ (by omega) (by omega) fun e he=>g3 e (k8 _ he)
 exact key D 0 (o6 _) aF h
def WI:Prop:=∀x y z w:Int,aP ah 191 [bm x y,bm z w] (pO (xn (x,y) (z,w)) (xm (x,y) (z,w)))
def WN:Prop:=∀(V:List aq) (D:List Int) (j:Nat) (l:List aq),V.length=D.length+1→V.length≤1100→l.length≤1100→j<D.length→(∀d∈D,1≤d∧d≤1048576) →
 aP ah 139 [pO V D,aL j,gD l] (.cj [.agg (xf (if l.isEmpty then [] else G6 V j l) (if l.isEmpty then [] else C2 D j l.length)),.one (.c (.bool (!l.isEmpty)))])
def MT:Prop:=∀(V:List aq) (D:List Int) (r:Nat),r≤28→V.length≤1100→D.length≤1100→(∀v∈V,DG v)→(∀d∈D,0≤d∧d≤9223372036854775807)→aP ah 258 [pO V D,aL r] (bl (xC r V D))
def MS:Prop:=∀(V:List aq) (D:List Int),V.length≤1100→D.length≤1100→aP ah 76 [pO V D] (aL (mP D))
end Go.Proofs.YtklpfooafbjnpaaGreat
