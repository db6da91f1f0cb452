/-
  My own texts,without what this claim does not need. My own text.
-/
import Derived.Laws.BytesArg
import Derived.Test.YtklpfooafbjnpaaGreatSLPartsK9
set_option maxRecDepth 100000
set_option maxHeartbeats 64000000
set_option linter.unusedVariables false
set_option linter.unusedSimpArgs false
set_option linter.unusedSectionVars false
open Go.Proofs.Tryz renaming prog → ah
namespace Go.Proofs.YtklpfooafbjnpaaGreat
open Go.RowKit
theorem TC{n m:Int}(aE : -9223372036854775808≤n)(h1:n<9223372036854775808)(eY : -9223372036854775808≤m)(bD:m<9223372036854775808):aO ah 246 [aL n,aL m] (gF (n*m)):=by
 have a7:=vx aE h1;have bK:=vx eY bD;have dZ:=ahU (Pg aE h1) (Pg eY bD);rw[xQ (alP aE h1 eY bD)] at dZ;clear aE h1 eY bD;refine bo (f:=246) Tryz.func246 rfl rfl rfl rfl ?_;(refine cK ?_)
 ((refine bk rfl (c6 rfl rfl rfl aM) ?_))
 exact ag.aU.refl _
theorem aaN(a b c d a' b4 c' d':Int)(W:World):(Op.equalIn 10000 237 (.agg #[.int .i64 a,.int .i64 b,.int .i64 c,.int .i64 d]) (.agg #[.int .i64 a',.int .i64 b4,.int .i64 c',.int .i64 d'])).run ah W = .ok (wF a b c d a' b4 c' d') W:=by
 unfold wF dE
 go_simp
 by_cases h1:a=a' <;> by_cases h2:b=b4 <;> by_cases ar:c=c' <;> by_cases aK:d=d' <;> simp[h1,h2,ar,aK]
instance anM:M0 ah 237:=⟨by kernel_rfl,aaN⟩
theorem ai5{a b c d:Int}:(qq a b c d>0↔¬dM a b c d):=by
 unfold qq dM;cases h:dE a b c d with
 | true=>rw[qY] at h;rw[if_pos rfl];omega
 | false =>
  have:¬(a=c∧b=d):=fun k=>by rw[qY.2 k] at h;cases h
  rw[if_neg (by simp)]
  split <;> omega
theorem Lv{a1 a2 b1 b2:Int}:aO ah 241 [bn a1 a2,bn b1 b2] (.ck [.agg [.c (.int .i64 (eZ a1 a2 b1 b2)),.c (.int .i64 (eH a1 a2 b1 b2))],.agg [.c (.int .i64 (en a1 a2 b1 b2)),.c (.int .i64 (eh a1 a2 b1 b2))]]):=by
 have a7:=aiR (a:=a1) (b:=a2) (c:=b1) (d:=b2);have h:=ai5 (a:=a1) (b:=a2) (c:=b1) (d:=b2)
 have cs:(qq a1 a2 b1 b2>0∧eZ a1 a2 b1 b2=b1∧eH a1 a2 b1 b2=b2∧en a1 a2 b1 b2=a1∧eh a1 a2 b1 b2=a2)∨(¬qq a1 a2 b1 b2>0∧eZ a1 a2 b1 b2=a1∧eH a1 a2 b1 b2=a2∧en a1 a2 b1 b2=b1∧eh a1 a2 b1 b2=b2):=by
  rw[h];unfold eZ eH en eh
  by_cases k:dM a1 a2 b1 b2 <;> simp[k]
 clear h;generalize eZ a1 a2 b1 b2=l1 at *;generalize eH a1 a2 b1 b2=l2 at *;generalize en a1 a2 b1 b2=h1 at *;generalize eh a1 a2 b1 b2=h2 at *;generalize qq a1 a2 b1 b2=c at *;rcases cs with ⟨q,rfl,rfl,rfl,rfl⟩|⟨q,rfl,rfl,rfl,rfl⟩
 all_goals
  refine bo (f:=241) Tryz.func241 rfl rfl rfl rfl ?_;(refine cK ?_)
  ((refine bk rfl (c6 rfl rfl rfl (c6 rfl rfl rfl aM)) ?_))
  exact ag.aU.refl _
theorem Gn{a1 a2 b1 b2:Int}:aO ah 186 [bn a1 a2,bn b1 b2] (kk (eZ a1 a2 b1 b2) (eH a1 a2 b1 b2) (en a1 a2 b1 b2) (eh a1 a2 b1 b2)):=by
 have a7:=Lv (a1:=a1) (a2:=a2) (b1:=b1) (b2:=b2);generalize eZ a1 a2 b1 b2=l1 at *;generalize eH a1 a2 b1 b2=l2 at *;generalize en a1 a2 b1 b2=h1 at *;generalize eh a1 a2 b1 b2=h2 at *;refine bo (f:=186) Tryz.func186 rfl rfl rfl rfl ?_;(refine cK ?_)
 ((refine bk rfl (c6 rfl rfl rfl aM) ?_))
 exact ag.aU.refl _
theorem Gm{s1 s2 bV b8 p1 p2:Int}(h1:eF s1 s2=true)(h2:eF bV b8=true)(ar:eF p1 p2=true):aO ah 187 [kk s1 s2 bV b8,bn p1 p2] (aL (cq s1 s2 bV b8 p1 p2)):=by
 have a7:=S7 h1 h2 ar;clear h1 h2 ar;generalize cq s1 s2 bV b8 p1 p2=c at *;refine bo (f:=187) Tryz.func187 rfl rfl rfl rfl ?_;(refine cK ?_)
 ((refine bk rfl (aY rfl aM) ?_))
 exact ag.aU.refl _
theorem ahk{s1 s2 bV b8 p1 p2:Int}(h1:eF s1 s2=true)(h2:eF bV b8=true)(ar:eF p1 p2=true):Gi p1 p2 s1 s2 bV b8=decide (dJ p1 p2 s1 s2 bV b8):=by
 rw[o3,cT];unfold Gi dJ tL;rw[h1,h2,ar];simp only[pF,eg,cT,abV]
 constructor
 ·rintro⟨⟨a,b,c,d⟩,e⟩;exact⟨e,a,b,c,d⟩
 ·rintro⟨e,a,b,c,d⟩;exact⟨⟨a,b,c,d⟩,e⟩
theorem Tk{s1 s2 bV b8 p1 p2:Int}(h1:eF s1 s2=true)(h2:eF bV b8=true)(ar:eF p1 p2=true):aO ah 243 [kk s1 s2 bV b8,bn p1 p2] (bl (decide (dJ p1 p2 s1 s2 bV b8))):=by
 have a7:=ahW (ahk h1 h2 ar);clear h1 h2 ar;generalize decide (dJ p1 p2 s1 s2 bV b8)=c at *;refine bo (f:=243) Tryz.func243 rfl rfl rfl rfl ?_;(refine cK ?_)
 ((refine bk rfl (aY rfl aM) ?_))
 exact ag.aU.refl _
theorem Tv{m n:Int}{r:Bool}(ao:decide (same m n)=r):aO ah 189 [aL m,aL n] (bl r):=by
 have cs:(m>0∧n>0∧r=true)∨(m>0∧¬n>0∧¬m<0∧r=false)∨(¬m>0∧m<0∧n<0∧r=true)∨(¬m>0∧m<0∧¬n<0∧r=false)∨(¬m>0∧¬m<0∧r=false):=by
  rw[←ao];unfold same
  by_cases h1:m>0 <;> by_cases h2:n>0 <;> by_cases ar:m<0 <;> by_cases aK:n<0 <;> simp[h1,h2,ar,aK] <;> omega
 clear ao;rcases cs with ⟨q1,q2,rfl⟩|⟨q1,q2,q3,rfl⟩|⟨q1,q2,q3,rfl⟩|⟨q1,q2,q3,rfl⟩|⟨q1,q2,rfl⟩
 all_goals
  refine bo (f:=189) Tryz.func189 rfl rfl rfl rfl ?_;(repeat first|refine dc ?_|(with_reducible apply bR (c:=true));rfl;rfl;(exact b5 (by omega))|(with_reducible apply bR (c:=false));rfl;rfl;(exact cc (by omega)))
  ((refine bk rfl (aY rfl aM) ?_))
  first|exact ag.aU.refl _|exact ag.aU.of_eq (by rw[b5 q2];rfl)|exact ag.aU.of_eq (by rw[b5 q3];rfl)|exact ag.aU.of_eq (by rw[cc q3];rfl)
theorem D8{x A:Int}(h1 : -134217728≤x)(h2:x≤134217728)(ar : -144115188075855872≤A)(aK:A≤144115188075855872) : -19342813113834066795298816≤x*A∧x*A≤19342813113834066795298816:=by
 have:=Lc h1 h2 ar aK;omega
theorem TD{l h A B n d:Int}(cA:A≠B)(mr : -134217728≤l)(l1:l≤134217728)(aE : -134217728≤h)(h1:h≤134217728)(aP : -144115188075855872≤A)(dO:A≤144115188075855872)(aG : -144115188075855872≤B)(dG:B≤144115188075855872)(aA:kE (h*A-l*B) (A-B)=n)(hd:jE (A-B)=d):aO ah 190 [aL l,aL h,aL A,aL B] (fv n d):=by
 have b1:=D8 aE h1 aP dO;have b2:=D8 mr l1 aG dG;have qQ:=TC (n:=h) (m:=A) (by omega) (by omega) (by omega) (by omega);have s8:=TC (n:=l) (m:=B) (by omega) (by omega) (by omega) (by omega);have f1:fits (h*A)=true:=by unfold fits;rw[cT];omega
 have f2:fits (l*B)=true:=by unfold fits;rw[cT];omega
 have f3:fits (h*A-l*B)=true:=by unfold fits;rw[cT];omega
 have f4:fits (A-B)=true:=by unfold fits;rw[cT];omega
 have XU:=TB f1 f2;have XV:=vx (n:=A-B) (by omega) (by omega);simp only[wf,f3,if_true] at XU
 have XW:aO ah 247 [gF (h*A-l*B),gF (A-B)] (.ck [EG n d,.one (.c (.bool true))]):=by
  by_cases q:A-B<0
  ·unfold kE at aA;unfold jE at hd;rw[if_pos q] at aA hd;have g1:fits (-(h*A-l*B))=true:=by unfold fits;rw[cT];omega
   have g2:fits (-(A-B))=true:=by unfold fits;rw[cT];omega
   exact ahN f3 f4 q (s:=true) (by rw[g1,g2];rfl) (by rw[if_pos rfl,aA]) (by rw[if_pos rfl,hd])
  ·unfold kE at aA;unfold jE at hd;rw[if_neg q] at aA hd;have:=ahO f3 f4 (by omega);rw[aA,hd] at this;rw[aA,hd];exact this
 obtain⟨D,e4⟩:∃D,A-B=D:=⟨_,rfl⟩;have w1:IntKind.i64.wrap (A-B)=D:=by rw[←e4];exact kC (by omega)
 rw[e4] at XV XW;clear f1 f2 f3 f4 b1 b2 aA hd e4 aP dO aG dG cA;generalize h*A-l*B=X at *;generalize h*A=Y at *;generalize l*B=Z at *;refine bo (f:=190) Tryz.func190 rfl rfl rfl rfl ?_;(refine cK ?_)
 ((refine bk rfl (c6 rfl rfl rfl aM) ?_))
 exact ag.aU.refl _
instance anN:Hz ah 184 0 0 false 1:=⟨by kernel_rfl⟩
abbrev al3(k n d m e p1 p2 q1 q2:Int):ag := .w (.agg [.c (.int .i64 k),.c (.int .i64 (cy n)),.c (.int .u64 (dT n)),.c (.int .i64 (cy d)),.c (.int .u64 (dT d)),.c (.int .i64 (cy m)),.c (.int .u64 (dT m)),.c (.int .i64 (cy e)),.c (.int .u64 (dT e)),.c (.int .i64 p1),.c (.int .i64 p2),.c (.int .i64 q1),.c (.int .i64 q2)])
abbrev pJ(M:fY):ag:=al3 M.k M.n M.d M.m M.e M.p1 M.p2 M.q1 M.q2
theorem aeu{s1 s2 bV b8 t1 t2 t3 t4 f1 f2 g1 g2 dd dj jP mD:Int}{p q:Bool}{M:fY}
  (HM:aO ah 241 [bn s1 s2,bn t1 t2] (.ck [.agg [.c (.int .i64 dd),.c (.int .i64 dj)],.agg [.c (.int .i64 f1),.c (.int .i64 f2)]]))
  (Xu:aO ah 241 [bn bV b8,bn t3 t4] (.ck [.agg [.c (.int .i64 g1),.c (.int .i64 g2)],.agg [.c (.int .i64 jP),.c (.int .i64 mD)]]))
  (H1:aO ah 243 [kk s1 s2 bV b8,bn f1 f2] (bl p)) (dI:aO ah 243 [kk t1 t2 t3 t4,bn f1 f2] (bl q))
  (jt:aO ah 244 [aL f1] (fv f1 1)) (pa:aO ah 244 [aL f2] (fv f2 1))
  (gh:(if (p&&q)=true then w6 f1 f2 g1 g2 else iR)=M):aO ah 188 [kk s1 s2 bV b8,kk t1 t2 t3 t4] (pJ M):=by
 unfold w6 at gh;have hp:(f1=g1∧f2=g2)↔dE f1 f2 g1 g2=true:=qY.symm
 have cs:(p=false∧M=iR)∨(p=true∧q=false∧M=iR)∨(p=true∧q=true∧dE f1 f2 g1 g2=true∧M=kd f1 1 f2 1)∨(p=true∧q=true∧dE f1 f2 g1 g2=false∧M=uH f1 f2 g1 g2):=by
  rw[←gh];cases aj:dE f1 f2 g1 g2 <;> rw[aj] at hp <;> cases p <;> cases q <;> simp[hp]
 clear gh hp;refine bo (f:=188) Tryz.func188 rfl rfl rfl rfl ?_;(refine cK ?_);clear HM Xu;rcases cs with ⟨rfl,rfl⟩|⟨rfl,rfl,rfl⟩|⟨rfl,rfl,h,rfl⟩|⟨rfl,rfl,h,rfl⟩
 all_goals
  (refine cK ?_)
  ((refine bk rfl (c6 rfl rfl rfl aM) ?_))
  first|exact ag.aU.refl _|exact ag.aU.of_eq (by simp only[iR,yD,yY];rfl)|exact ag.aU.of_eq (by simp only[uH,yD,yY];rfl)
theorem LP{a1 a2 b1 b2:Int}(h:c5 a1 a2=true)(k:c5 b1 b2=true):c5 (en a1 a2 b1 b2) (eh a1 a2 b1 b2)=true:=by
 rcases oP a1 a2 b1 b2 with ⟨_,_,ar,aK,_⟩|⟨_,_,ar,aK,_⟩ <;> rw[ar,aK] <;> assumption
theorem T7{a1 a2 b1 b2:Int}(h:c5 a1 a2=true)(k:c5 b1 b2=true):c5 (eZ a1 a2 b1 b2) (eH a1 a2 b1 b2)=true:=by
 rcases oP a1 a2 b1 b2 with ⟨ar,aK,_⟩|⟨ar,aK,_⟩ <;> rw[ar,aK] <;> assumption
theorem aiA{s1 s2 bV b8 t1 t2 t3 t4:Int}(h1:c5 s1 s2=true)(h2:c5 bV b8=true)(ar:c5 t1 t2=true)(aK:c5 t3 t4=true):aO ah 188 [kk s1 s2 bV b8,kk t1 t2 t3 t4] (pJ (inl s1 s2 bV b8 t1 t2 t3 t4)):=by
 have aw:=LP h1 ar;have aa:=ui.1 aw;refine aeu Lv Lv (Tk (my h1) (my h2) (my aw)) (Tk (my ar) (my aK) (my aw)) (Tf (by omega) (by omega)) (Tf (by omega) (by omega)) ?_;unfold inl;exact B3 (by rw[eg,cT,cT])
theorem aid{a1 a2 b1 b2 c1 c2 d1 d2:Int}(h:(c5 a1 a2&&c5 b1 b2&&c5 c1 c2&&c5 d1 d2)=false):aO ah 133 [bn a1 a2,bn b1 b2,bn c1 c2,bn d1 d2] (pJ iR):=by
 have bd:=qo (x:=a1) (y:=a2) rfl;have dR:=qo (x:=b1) (y:=b2) rfl;have lG:=qo (x:=c1) (y:=c2) rfl;have rV:=qo (x:=d1) (y:=d2) rfl
 have cs:c5 a1 a2=false∨(c5 a1 a2=true∧c5 b1 b2=false)∨(c5 a1 a2=true∧c5 b1 b2=true∧c5 c1 c2=false)∨(c5 a1 a2=true∧c5 b1 b2=true∧c5 c1 c2=true∧c5 d1 d2=false):=by
  generalize c5 a1 a2=cp at *;generalize c5 b1 b2=dQ at *;generalize c5 c1 c2=ki at *;generalize c5 d1 d2=sN at *;cases cp <;> cases dQ <;> cases ki <;> cases sN <;> simp_all
 clear h;rcases cs with h1|⟨h1,h2⟩|⟨h1,h2,ar⟩|⟨h1,h2,ar,aK⟩ <;> simp only[*] at bd dR lG rV
 all_goals
  refine bo (f:=133) Tryz.func133 rfl rfl rfl rfl ?_;(refine cK ?_)
  ((refine bk rfl (c6 rfl rfl rfl aM) ?_))
  exact ag.aU.of_eq (by simp only[iR,yD,yY];rfl)
theorem ZZ{a1 a2 b1 b2 c1 c2 d1 d2 s1 s2 bV b8 t1 t2 t3 t4 A B C D n d m e:Int}{x y:Bool}{I M:fY}
  (bd:aO ah 185 [bn a1 a2] (bl true)) (dR:aO ah 185 [bn b1 b2] (bl true)) (lG:aO ah 185 [bn c1 c2] (bl true)) (rV:aO ah 185 [bn d1 d2] (bl true))
  (dG:aO ah 186 [bn a1 a2,bn b1 b2] (kk s1 s2 bV b8)) (l5:aO ah 186 [bn c1 c2,bn d1 d2] (kk t1 t2 t3 t4))
  (jU:aO ah 187 [kk s1 s2 bV b8,bn t1 t2] (aL A)) (l9:aO ah 187 [kk s1 s2 bV b8,bn t3 t4] (aL B))
  (x5:aO ah 187 [kk t1 t2 t3 t4,bn s1 s2] (aL C)) (Ah:aO ah 187 [kk t1 t2 t3 t4,bn bV b8] (aL D))
  (DE:aO ah 189 [aL A,aL B] (bl x)) (M6:aO ah 189 [aL C,aL D] (bl y))
  (L:aO ah 188 [kk s1 s2 bV b8,kk t1 t2 t3 t4] (pJ I))
  (Al:A≠B→aO ah 190 [aL t1,aL t3,aL A,aL B] (fv n d)) (Am:A≠B→aO ah 190 [aL t2,aL t4,aL A,aL B] (fv m e))
  (gh:(if A=B then I else if (x||y)=true then iR else kd n d m e)=M):aO ah 133 [bn a1 a2,bn b1 b2,bn c1 c2,bn d1 d2] (pJ M):=by
 have cs:(A=B∧M=I)∨(¬A=B∧x=true∧M=iR)∨(¬A=B∧x=false∧y=true∧M=iR)∨(¬A=B∧x=false∧y=false∧M=kd n d m e):=by
  rw[←gh]
  by_cases h:A=B
  ·simp[h]
  ·cases x <;> cases y <;> simp[h]
 clear gh;refine bo (f:=133) Tryz.func133 rfl rfl rfl rfl ?_;(refine cK ?_);clear bd dR lG rV dG l5 jU l9;rcases cs with ⟨h,rfl⟩|⟨h,rfl,rfl⟩|⟨h,rfl,rfl,rfl⟩|⟨h,rfl,rfl,rfl⟩
 ·clear Al Am;(refine cK ?_)
  ((refine bk rfl (c6 rfl rfl rfl aM) ?_))
  exact ag.aU.refl _
 ·clear Al Am;(refine cK ?_)
  ((refine bk rfl (c6 rfl rfl rfl aM) ?_))
  exact ag.aU.of_eq (by simp only[iR,yD,yY];rfl)
 ·clear Al Am;(refine cK ?_)
  ((refine bk rfl (c6 rfl rfl rfl aM) ?_))
  exact ag.aU.of_eq (by simp only[iR,yD,yY];rfl)
 ·have ams:=Al h;have amt:=Am h;clear Al Am;(refine cK ?_)
  ((refine bk rfl (c6 rfl rfl rfl aM) ?_))
  exact ag.aU.refl _
theorem F8{x y:Int}(h1 : -268435456≤x)(h2:x≤268435456)(ar : -268435456≤y)(aK:y≤268435456) : -72057594037927936≤x*y∧x*y≤72057594037927936:=by
 have:=Lc h1 h2 ar aK;omega
theorem OB{o1 o2 a1 a2 b1 b2:Int}(h1:c5 o1 o2=true)(h2:c5 a1 a2=true)(ar:c5 b1 b2=true) : -144115188075855872≤cq o1 o2 a1 a2 b1 b2∧cq o1 o2 a1 a2 b1 b2≤144115188075855872:=by
 rw[ui] at h1 h2 ar;have m1:=F8 (x:=a1-o1) (y:=b2-o2) (by omega) (by omega) (by omega) (by omega);have m2:=F8 (x:=a2-o2) (y:=b1-o1) (by omega) (by omega) (by omega) (by omega);unfold cq;omega
def sx(a1 a2 b1 b2 c1 c2 d1 d2:Int):fY:=if (c5 a1 a2&&c5 b1 b2&&c5 c1 c2&&c5 d1 d2)=true then jn a1 a2 b1 b2 c1 c2 d1 d2 else iR
theorem aie{a1 a2 b1 b2 c1 c2 d1 d2:Int}(aX:c5 a1 a2=true)(aa:c5 b1 b2=true)(ak:c5 c1 c2=true)(hd:c5 d1 d2=true):aO ah 133 [bn a1 a2,bn b1 b2,bn c1 c2,bn d1 d2] (pJ (jn a1 a2 b1 b2 c1 c2 d1 d2)):=by
 have bd:=qo aX;have dR:=qo aa;have lG:=qo ak;have rV:=qo hd;have dG:=Gn (a1:=a1) (a2:=a2) (b1:=b1) (b2:=b2);have l5:=Gn (a1:=c1) (a2:=c2) (b1:=d1) (b2:=d2);have q1:=T7 aX aa;have q2:=LP aX aa;have q3:=T7 ak hd;have q4:=LP ak hd;have l1:=yV a1 a2 b1 b2;have l2:=yV c1 c2 d1 d2;rw[←agl];generalize eZ a1 a2 b1 b2=s1 at *;generalize eH a1 a2 b1 b2=s2 at *;generalize en a1 a2 b1 b2=bV at *;generalize eh a1 a2 b1 b2=b8 at *;generalize eZ c1 c2 d1 d2=t1 at *;generalize eH c1 c2 d1 d2=t2 at *;generalize en c1 c2 d1 d2=t3 at *;generalize eh c1 c2 d1 d2=t4 at *;have bD:=OB q1 q2 q3;have cm:=OB q1 q2 q4;have i3:=ui.1 q3;have i4:=ui.1 q4
 refine ZZ bd dR lG rV dG l5 (Gm (my q1) (my q2) (my q3)) (Gm (my q1) (my q2) (my q4)) (Gm (my q3) (my q4) (my q1)) (Gm (my q3) (my q4) (my q2)) (Tv rfl) (Tv rfl) (aiA q1 q2 q3 q4)
  (fun cA=>TD cA i3.1.1 i3.1.2 i4.1.1 i4.1.2 bD.1 bD.2 cm.1 cm.2 rfl rfl) (fun cA=>TD cA i3.2.1 i3.2.2 i4.2.1 i4.2.2 bD.1 bD.2 cm.1 cm.2 rfl rfl) ?_
 rw[←agk l1 l2];unfold K1
 by_cases h:cq s1 s2 bV b8 t1 t2=cq s1 s2 bV b8 t3 t4
 ·rw[if_pos h,if_pos h]
 ·rw[if_neg h,if_neg h];exact B3 (by rw[pA,cT,cT])
theorem Lt{a1 a2 b1 b2 c1 c2 d1 d2:Int}:aO ah 133 [bn a1 a2,bn b1 b2,bn c1 c2,bn d1 d2] (pJ (sx a1 a2 b1 b2 c1 c2 d1 d2)):=by
 unfold sx
 by_cases h:(c5 a1 a2&&c5 b1 b2&&c5 c1 c2&&c5 d1 d2)=true
 ·rw[if_pos h];simp only[eg] at h;exact aie h.1.1.1 h.1.1.2 h.1.2 h.2
 ·rw[if_neg h];exact aid (by simpa using h)
def IX(M:fY)(a1 a2 b1 b2 c1 c2 d1 d2:Int):Bool :=
 if M.k=1 then dE a1 a2 c1 c2||dE a1 a2 d1 d2||dE b1 b2 c1 c2||dE b1 b2 d1 d2
 else if M.k=2 then wF (eZ a1 a2 b1 b2) (eH a1 a2 b1 b2) (en a1 a2 b1 b2) (eh a1 a2 b1 b2) (eZ c1 c2 d1 d2) (eH c1 c2 d1 d2) (en c1 c2 d1 d2) (eh c1 c2 d1 d2)
 else true
theorem Zv{a1 a2 b1 b2 c1 c2 d1 d2 s1 s2 bV b8 t1 t2 t3 t4:Int}{M:fY}{r:Bool}(a7:aO ah 133 [bn a1 a2,bn b1 b2,bn c1 c2,bn d1 d2] (pJ M))
  (dG:aO ah 186 [bn a1 a2,bn b1 b2] (kk s1 s2 bV b8)) (l5:aO ah 186 [bn c1 c2,bn d1 d2] (kk t1 t2 t3 t4))
  (ao:(if M.k=1 then dE a1 a2 c1 c2||dE a1 a2 d1 d2||dE b1 b2 c1 c2||dE b1 b2 d1 d2 else if M.k=2 then wF s1 s2 bV b8 t1 t2 t3 t4 else true)=r):aO ah 201 [bn a1 a2,bn b1 b2,bn c1 c2,bn d1 d2] (bl r):=by
 obtain⟨k,n,d,m,e,p1,p2,q1,q2⟩:=M;simp only at ao a7
 have cs:(k=1∧dE a1 a2 c1 c2=true∧r=true)∨(k=1∧dE a1 a2 c1 c2=false∧dE a1 a2 d1 d2=true∧r=true)∨(k=1∧dE a1 a2 c1 c2=false∧dE a1 a2 d1 d2=false∧dE b1 b2 c1 c2=true∧r=true)∨(k=1∧dE a1 a2 c1 c2=false∧dE a1 a2 d1 d2=false∧dE b1 b2 c1 c2=false∧r=dE b1 b2 d1 d2)∨(¬k=1∧k=2∧r=wF s1 s2 bV b8 t1 t2 t3 t4)∨(¬k=1∧¬k=2∧r=true):=by
  rw[←ao]
  by_cases h1:k=1
  ·rw[if_pos h1];cases dE a1 a2 c1 c2 <;> cases dE a1 a2 d1 d2 <;> cases dE b1 b2 c1 c2 <;> simp[h1]
  ·rw[if_neg h1]
   by_cases h2:k=2
   ·rw[if_pos h2];simp[h2]
   ·rw[if_neg h2];simp[h1,h2]
 clear ao;refine bo (f:=201) Tryz.func201 rfl rfl rfl rfl ?_;(refine cK ?_);clear a7;rcases cs with ⟨h1,h2,rfl⟩|⟨h1,h2,ar,rfl⟩|⟨h1,h2,ar,aK,rfl⟩|⟨h1,h2,ar,aK,rfl⟩|⟨h1,h2,rfl⟩|⟨h1,h2,rfl⟩
 all_goals
  (repeat first|refine dc ?_|refine fw ?_|(with_reducible apply bR (c:=true));rfl;rfl;(assumption)|(with_reducible apply bR (c:=false));rfl;rfl;(assumption))
  ((refine bk rfl (aY rfl aM) ?_))
  first|exact ag.aU.refl _|exact ag.aU.of_eq (by rw[h2];rfl)|exact ag.aU.of_eq (by rw[ar];rfl)|exact ag.aU.of_eq (by rw[aK];rfl)
theorem aic{a1 a2 b1 b2 c1 c2 d1 d2:Int}:aO ah 201 [bn a1 a2,bn b1 b2,bn c1 c2,bn d1 d2] (bl (IX (sx a1 a2 b1 b2 c1 c2 d1 d2) a1 a2 b1 b2 c1 c2 d1 d2)) :=
 Zv Lt Gn Gn rfl
end Go.Proofs.YtklpfooafbjnpaaGreat
namespace Go.Proofs.YtklpfooafbjnpaaGreat.bH
abbrev bN:=aq×aq
def lU(r:Nat)(p:aq):aq:=(ca p.1 r,ca p.2 r)
abbrev li:bN:=((0,0),(0,0))
def h8(a b:bN):fY:=jn a.1.1 a.1.2 a.2.1 a.2.2 b.1.1 b.1.2 b.2.1 b.2.2
def uS(a b:bN):Bool:=IX (h8 a b) a.1.1 a.1.2 a.2.1 a.2.2 b.1.1 b.1.2 b.2.1 b.2.2
def jG(r:Nat)(M:fY):aq:=(fV (2^r) M.n M.d,fV (2^r) M.m M.e)
def AB(r:Nat)(p:aq):aq:=(2^r*p.1,2^r*p.2)
def gU(r:Nat)(l:aq×aq):bN:=(AB r l.1,AB r l.2)
def Qg(r:Nat)(p q x:aq):Bool:=sy (2^r*p.1) (2^r*p.2) (2^r*q.1) (2^r*q.2) r x
def gr(p q:aq)(l:List aq):List aq:=sV (decide (q.1<p.1)) (decide (q.2<p.2)) (fun _=>true) l
def tk(r:Nat)(l m:aq×aq):Option aq:=if (h8 (gU r l) (gU r m)).k=1∧uS (gU r l) (gU r m)=false then some (jG r (h8 (gU r l) (gU r m))) else none
def xo(r:Nat)(a b:bN):Option aq:=if (h8 a b).k=1 then some (jG r (h8 a b)) else none
def rp(E:List bN)(r R:Nat):dm aq where
 Fi:=Qg r
 hz:=gr
 cut:=tk r
 n:=E.length
 P i:=lU r (E.getD i li).1
 Q i:=lU r (E.getD i li).2
 oY i j:=xo r (E.getD i li) (E.getD j li)
 R:=R
 gG x:=dX r x.1 x.2=true
def gK(p:aq):Bool:=decide (-134217728≤p.1)&&decide (p.1<134217728)&&decide (-134217728≤p.2)&&decide (p.2<134217728)
def jD(E:List bN):Bool:=E.all fun e=>gK e.1&&gK e.2
theorem ot{p:aq}:gK p=true↔((-134217728≤p.1∧p.1<134217728) ∧ -134217728≤p.2∧p.2<134217728):=by
 unfold gK;simp only[eg,cT];omega
theorem qj{E:List bN}(h:jD E=true)(i:Nat):gK (E.getD i li).1=true∧gK (E.getD i li).2=true:=by
 rw[xt];cases he:E[i]? with
 | none=>exact⟨by decide,by decide⟩
 | some e =>
  have:=bZ.1 h e (cM he);exact Bool.and_eq_true_iff.1 this
theorem ER(v:Int)(r:Nat):ca v r=fV (2^r) v 1:=by
 unfold ca fV;rw[Int.mul_one]
theorem zh{S X W X' W':Int}(hS:0<S)(gj:0<W)(Bk:0<W')(h:X*W'≤X'*W):fV S X W≤fV S X' W':=by
 obtain⟨a1,a2⟩:=Gz hS gj X;obtain⟨b1,b2⟩:=Gz hS Bk X';generalize fV S X W=g at *;generalize fV S X' W'=cZ at *;refine Int.not_lt.1 fun a8 => ?_;have h1:S*(cZ+1)≤S*g:=sM a8 (by omega);rw[Int.mul_add,Int.mul_one] at h1;generalize S*g=G at *;generalize S*cZ=xV at *;have c1:(2*xV+S)*W≤(2*G-S)*W:=qx (by omega) (by omega);have c2:(2*xV+S)*W≤2*X:=by omega
 have jc:(2*xV+S)*W*W'≤2*X*W':=qx c2 (by omega);have Ax:2*X'*W<(2*xV+S)*W'*W:=Int.mul_lt_mul_of_pos_right b2 gj;have aH:(2*xV+S)*W*W'=(2*xV+S)*W'*W:=by rw[k4,k3 W,←k4]
 have aN:2*X*W'=2*(X*W'):=k4 ..;have b6:2*X'*W=2*(X'*W):=k4 ..;omega
theorem Dd{m lo hi x:Int}(h1:wi m lo=true)(h2:wi m hi=true)(ar:lo≤x)(aK:x≤hi):wi m x=true:=by
 unfold wi at *;simp only[eg,cT] at *;omega
theorem aaU{r:Nat}(ao:r≤28):wi (134217728/2^r) (ca (-134217728) r)=true∧wi (134217728/2^r) (ca 134217727 r)=true:=by
 have:r=0∨r=1∨r=2∨r=3∨r=4∨r=5∨r=6∨r=7∨r=8∨r=9∨r=10∨r=11∨r=12∨r=13∨r=14∨r=15∨r=16∨r=17∨r=18∨r=19∨r=20∨r=21∨r=22∨r=23∨r=24∨r=25∨r=26∨r=27∨r=28:=by omega
 rcases this with rfl|rfl|rfl|rfl|rfl|rfl|rfl|rfl|rfl|rfl|rfl|rfl|rfl|rfl|rfl|rfl|rfl|rfl|rfl|rfl|rfl|rfl|rfl|rfl|rfl|rfl|rfl|rfl|rfl <;> exact⟨by decide,by decide⟩
theorem GA{r:Nat}(ao:r≤28){X W:Int}(gj:0<W)(h1 : -134217728*W≤X)(h2:X≤134217727*W):wi (134217728/2^r) (fV (2^r) X W)=true:=by
 have hS:(0:Int)<2^r:=jo (by decide);have g:=aaU ao;rw[ER,ER] at g;exact Dd g.1 g.2 (zh hS (by decide) gj (by omega)) (zh hS gj (by decide) (by omega))
theorem Gc{r:Nat}(ao:r≤28){p:aq}(h:gK p=true):dX r (lU r p).1 (lU r p).2=true:=by
 have h:=ot.1 h;unfold dX lU;rw[ER,ER,GA ao (by decide) (by omega) (by omega),GA ao (by decide) (by omega) (by omega)];rfl
theorem FV{a b:bN}(h:(h8 a b).k=1):∃X Y W W',h8 a b=kd X W Y W':=by
 unfold h8 jn at h ⊢
 split at h
 ·rename_i hw;rw[if_pos hw];unfold w7 inl at h ⊢
  split at h
  ·rename_i Kc;rw[if_pos Kc];unfold w6 at h ⊢
   split at h
   ·rename_i he;rw[if_pos he];exact⟨_,_,_,_,rfl⟩
   ·simp[uH] at h
  ·simp[iR] at h
 ·rename_i hw;rw[if_neg hw];unfold oq vm at h ⊢
  split at h
  ·rename_i aw;rw[if_pos aw];exact⟨_,_,_,_,rfl⟩
  ·simp[iR] at h
theorem aaE{a b:bN}(h:(h8 a b).k=1):uS a b=true↔(a.1=b.1∨a.1=b.2∨a.2=b.1∨a.2=b.2):=by
 have e:∀p q:aq,dE p.1 p.2 q.1 q.2=true↔p=q:=fun p q=>by rw[qY,Prod.ext_iff]
 unfold uS IX;rw[if_pos h];simp only[pA,e,or_assoc]
theorem ZH{r:Nat}{p q:aq}:AB r p=AB r q↔p=q:=by
 have hS:(2:Int)^r≠0:=by have:(0:Int)<2^r:=jo (by decide);omega
 unfold AB;rw[Prod.ext_iff,Prod.ext_iff];exact⟨fun⟨h1,h2⟩=>⟨Int.eq_of_mul_eq_mul_left hS h1,Int.eq_of_mul_eq_mul_left hS h2⟩,fun⟨h1,h2⟩=>⟨by rw[h1],by rw[h2]⟩⟩
theorem O5{r:Nat}{l m:aq×aq}(h:(h8 (gU r l) (gU r m)).k=1):uS (gU r l) (gU r m)=true↔Aj l m:=by
 rw[aaE h];unfold gU Aj;simp only[ZH]
theorem Gx{r:Nat}{a b:bN}{X Y W W':Int}(e:h8 a b=kd X W Y W'):W'=W∧0<W∧jG r (h8 a b)=(fV (2^r) X W,fV (2^r) Y W)∧DC (2^r) X Y W (jG r (h8 a b)):=by
 obtain⟨h1,h2,_⟩:=Cf e;have hS:(0:Int)<2^r:=jo (by decide);have aN:jG r (h8 a b)=(fV (2^r) X W,fV (2^r) Y W):=by rw[e];unfold jG kd;rw[h1]
 exact⟨h1,h2,aN,by rw[aN];exact aev hS h2⟩
theorem sa{r:Nat}{p:aq}(h:dX r p.1 p.2=true):c5 (2^r*p.1) (2^r*p.2)=true:=by
 have h:=(FL r _ _).1 h;unfold c5;simp only[eg,cT];omega
theorem akb(E:List bN){r:Nat}(ao:r≤28)(R:Nat):Ag (2^r) (rp E r R) where
 pos:=jo (by decide)
 adi p q x h:=by
  have h:sy _ _ _ _ _ _=true:=h;unfold sy at h;rw[JU ao,K0] at h;exact h.2.2
 Qf p q x hp aj ab h:=by
  show sy _ _ _ _ _ _=true;unfold sy;have ab:dX r x.1 x.2=true:=ab;have kB:=(FL r _ _).1 ab;have aos:=LF ao;rw[JU ao,K0,agf];refine⟨ab,⟨sa hp,sa aj,?_,?_,rfl⟩,h⟩
  ·rw[Em];omega
  ·rw[Em];omega
 OD l m x h:=by
  have h:tk r l m=some x:=h;unfold tk at h
  split at h
  ·rename_i ae;cases h;obtain⟨X,Y,W,W',e⟩:=FV ae.1;refine⟨fun hs => ?_,X,Y,W,W',e,(Gx e).2.2.2⟩;have:=(O5 ae.1).2 hs;rw[ae.2] at this;cases this
  ·cases h
 Z5 l m _ _ _ _ h ae:=by
  have h:tk r l m=none:=h;unfold tk at h
  split at h
  ·cases h
  ·rename_i aA;refine(O5 ae).1 ?_;cases he:uS (gU r l) (gU r m) with
   | true=>rfl
   | false=>exact absurd ⟨ae,he⟩ aA
def xz(r:Nat)(V:List aq)(D:List Int):Prop :=
 V≠[]∧V.length=D.length+1∧(∀v∈V,dX r v.1 v.2=true)∧gu (· ≠ ·) V∧(gu (fun p q=>p.1≤q.1) V∨gu (fun p q=>q.1≤p.1) V)∧(gu (fun p q=>p.2≤q.2) V∨gu (fun p q=>q.2≤p.2) V)
theorem Iu{R T:aq→aq→Prop}:∀ {l:List aq},gu R l→gu T l→gu (fun p q=>R p q∧T p q) l
 | [],_,_=>trivial
 | [_],_,_=>trivial
 | p::q::W,h,aJ=>⟨⟨h.1,aJ.1⟩,Iu (l:=q::W) h.2 aJ.2⟩
theorem Oq{R:aq→aq→Prop}(aC:∀a b c,R a b→R b c→R a c):∀ {l:List aq},gu R l→l.Pairwise R
 | [],_ => .nil
 | [_],_=>by simp
 | p::q::W,h=>by
  have cf:=Oq aC (l:=q::W) h.2;refine kh.2 ⟨fun x ab => ?_,cf⟩;rcases fg.1 ab with rfl|ab
  ·exact h.1
  ·exact aC _ _ _ h.1 ((kh.1 cf).1 x ab)
theorem Ej{R T:aq→aq→Prop}(h1:∀a b c,R a b→R b c→R a c)(h2:∀a b c,T a b→T b c→T a c)(aX:∀a b,R a b→R b a→T a b→T b a→a=b){l:List aq}(ao:gu R l)(aC:gu T l)(aA:gu (· ≠ ·) l):l.Nodup:=by
 have:=Oq (R:=fun p q=>(R p q∧T p q)∧p≠q) (fun a b c x y=>⟨⟨h1 _ _ _ x.1.1 y.1.1,h2 _ _ _ x.1.2 y.1.2⟩,fun e=>by subst e;exact x.2 (aX _ _ x.1.1 y.1.1 x.1.2 y.1.2)⟩) (Iu (Iu ao aC) aA);exact this.imp fun h=>h.2
theorem xz.nodup{r:Nat}{V:List aq}{D:List Int}(h:xz r V D):V.Nodup:=by
 obtain⟨_,_,_,aA,ab,ai⟩:=h;rcases ab with ab|ab <;> rcases ai with ai|ai
 ·exact Ej (R:=fun p q:aq=>p.1≤q.1) (T:=fun p q:aq=>p.2≤q.2) (fun a b c=>Int.le_trans) (fun a b c=>Int.le_trans) (fun a b h1 h2 ar aK=>Prod.ext (Int.le_antisymm h1 h2) (Int.le_antisymm ar aK)) ab ai aA
 ·exact Ej (R:=fun p q:aq=>p.1≤q.1) (T:=fun p q:aq=>q.2≤p.2) (fun a b c=>Int.le_trans) (fun a b c h aJ=>Int.le_trans aJ h) (fun a b h1 h2 ar aK=>Prod.ext (Int.le_antisymm h1 h2) (Int.le_antisymm aK ar)) ab ai aA
 ·exact Ej (R:=fun p q:aq=>q.1≤p.1) (T:=fun p q:aq=>p.2≤q.2) (fun a b c h aJ=>Int.le_trans aJ h) (fun a b c=>Int.le_trans) (fun a b h1 h2 ar aK=>Prod.ext (Int.le_antisymm h2 h1) (Int.le_antisymm ar aK)) ab ai aA
 ·exact Ej (R:=fun p q:aq=>q.1≤p.1) (T:=fun p q:aq=>q.2≤p.2) (fun a b c h aJ=>Int.le_trans aJ h) (fun a b c h aJ=>Int.le_trans aJ h) (fun a b h1 h2 ar aK=>Prod.ext (Int.le_antisymm h2 h1) (Int.le_antisymm aK ar)) ab ai aA
theorem EH(r:Nat)(a b:Int):decide ((2:Int)^r*a<2^r*b)=decide (a<b):=by
 have hS:(0:Int)<2^r:=jo (by decide);rw[vA];exact⟨fun h=>Int.lt_of_mul_lt_mul_left h (by omega),fun h=>Int.mul_lt_mul_of_pos_left h hS⟩
theorem OM{fx fy:Bool}{p q:aq}:∀(l out:List aq),(∀x∈l,x≠p∧x≠q)→(out++l).Nodup→l.foldl (qX p q) out=out++l
 | [],out,_,_=>by simp
 | x::l,out,h,hd=>by
  have ab:=h x (hc ..);have e:qX p q out x=out++[x]:=if_pos ⟨ab.1,ab.2,fun he=>(List.nodup_append.1 hd).2.2 x (List.mem_of_getLast? he) x (hc ..) rfl⟩;rw[ub,e,OM (fx:=fx) (fy:=fy) l (out++[x]) (fun y ai=>h y (kH _ ai)) (by simpa using hd),hx];rfl
theorem alg{fx fy:Bool}{f g:aq→Bool}{l:List aq}(h:∀x∈l,f x=g x):sV fx fy f l=sV fx fy g l:=by
 unfold sV
 have key:∀(l out:List aq),(∀x∈l,f x=g x)→l.foldl (fun out q=>if f q then nF fx fy q out else out) out=l.foldl (fun out q=>if g q then nF fx fy q out else out) out:=by
  intro l
  induction l with
  | nil=>intro out _;rfl
  | cons x l cf =>
   intro out h;rw[ub,ub,h x (hc ..)];exact cf _ fun y ai=>h y (kH _ ai)
 exact key l [] h
theorem Jg{E:List bN}{r R:Nat}{p q x:aq}:kv (rp E r R) p q x=true↔x≠p∧x≠q∧Qg r p q x=true:=by
 unfold kv;simp only[eg,cT,and_assoc];exact Iff.rfl
theorem C4(p q:aq)(br:List aq):(gr p q br).Perm br:=by
 have:=G2 (decide (q.1<p.1)) (decide (q.2<p.2)) (fun _=>true) br;rwa [List.filter_eq_self.2 (fun _ _=>rfl)] at this
theorem Mq{E:List bN}{r R:Nat}{p q:aq}{br:List aq}(aA:br.Nodup)(h:∀x∈br,kv (rp E r R) p q x=true):gr p q br=tb r br p q:=by
 unfold tb OL;rw[EH,EH,←alg (f:=fun _=>true) (g:=sy (2^r*p.1) (2^r*p.2) (2^r*q.1) (2^r*q.2) r) (fun x ab=>((Jg.1 (h x ab)).2.2).symm)];have hp:=C4 p q br;show gr p q br=(gr p q br).foldl (qX p q) [];rw[OM (fx:=false) (fy:=false) (gr p q br) [] (fun x ab=>⟨(Jg.1 (h x (hp.mem_iff.1 ab))).1,(Jg.1 (h x (hp.mem_iff.1 ab))).2.1⟩) (by simpa using hp.nodup_iff.2 aA)];rfl
theorem Oo{R:aq→aq→Prop}:∀ {A B:List aq} {q:aq},gu R (A++q::B)→gu R (A++[q])∧gu R (q::B)
 | [],_,_,h=>⟨trivial,h⟩
 | [a],_,_,h=>⟨⟨h.1,trivial⟩,h.2⟩
 | a::b::A,B,q,h=>by
  have cf:=Oo (A:=b::A) h.2;exact⟨⟨h.1,cf.1⟩,cf.2⟩
theorem alS{V:List aq}{j:Nat}{p q:aq}(hp:V[j]?=some p)(aj:V[j+1]?=some q):∃A B,V=A++p::q::B∧A.length=j∧∀l,dz V j l=A++p::(l++q::B):=by
 obtain⟨h1,aH⟩:=bq.1 hp;obtain⟨h2,aN⟩:=bq.1 aj;have hd:=aap hp aj;refine⟨V.take j,V.drop (j+2),by rw[←hd,kg],by rw[dY];omega,fun l => ?_⟩;unfold dz;rw[jL h1,aH,jK h2,aN];simp
theorem AE{R:aq→aq→Prop}{V l:List aq}{j:Nat}{p q:aq}(hp:V[j]?=some p)(aj:V[j+1]?=some q)(h:gu R V)(al:R p q→gu R (p::(l++[q]))):gu R (dz V j l):=by
 obtain⟨A,B,e,_,IL⟩:=alS hp aj;rw[IL];rw[e] at h;obtain⟨h1,h2⟩:=Oo h;refine Iv h1 ?_;have ar:=al h2.1;have:=Iv (A:=p::l) (q:=q) (W:=B) ar h2.2;exact this
theorem xz.cut{E:List bN}{r R:Nat}(ao:r≤28){V:List aq}{D:List Int}(h:xz r V D){j:Nat}{p q:aq}{br:List aq}(hp:V[j]?=some p)(aj:V[j+1]?=some q)(aA:br.Nodup)(au:∀x∈br,kv (rp E r R) p q x=true):xz r (dz V j (gr p q br)) (eL D j br.length):=by
 obtain⟨h1,h2,ar,aK,fb,kT⟩:=h;have hS:(0:Int)<2^r:=jo (by decide);have af:=(bq.1 aj).1;rw[Mq aA au];have lS:=D3 ao br p q;have hlen:(tb r br p q).length=br.length:=by rw[←Mq aA au];exact(C4 p q br).length_eq
 refine⟨fun aE => ?_,?_,fun v hv => ?_,?_,?_,?_⟩
 ·have:=congrArg List.length aE;rw[AL,List.length_nil] at this;omega
 ·rw[AL,Iz (by omega),hlen];omega
 ·rcases OI hv with hv|hv
  ·exact ar v hv
  ·exact(lS.2.1 v hv).2.1
 ·exact AE hp aj aK fun jh=>Zd ao br p q jh
 ·refine fb.imp (fun h=>AE hp aj h fun jh=>D4 ao br p q jh (fun x ab => ?_) (fun x y u w hu hw tH => ?_)) (fun h=>AE hp aj h fun jh=>D4 ao br p q jh (fun x ab => ?_) (fun x y u w hu hw tH => ?_))
  ·obtain⟨u,hu⟩:=ab;exact(F5 hS hu.1.1 hu.1.2 hu.2.1).1 jh
  ·exact F7 hS hu.2.1 hw.2.1 tH jh
  ·obtain⟨u,hu⟩:=ab;exact((F5 hS hu.1.1 hu.1.2 hu.2.1).2 jh).symm
  ·exact F6 hS hu.2.1 hw.2.1 tH jh
 ·refine kT.imp (fun h=>AE hp aj h fun jh=>D4 ao br p q jh (fun x ab => ?_) (fun x y u w hu hw tH => ?_)) (fun h=>AE hp aj h fun jh=>D4 ao br p q jh (fun x ab => ?_) (fun x y u w hu hw tH => ?_))
  ·obtain⟨u,hu⟩:=ab;exact(F5 hS hu.1.1 hu.1.2 hu.2.2).1 jh
  ·exact F7 hS hu.2.2 hw.2.2 tH jh
  ·obtain⟨u,hu⟩:=ab;exact((F5 hS hu.1.1 hu.1.2 hu.2.2).2 jh).symm
  ·exact F6 hS hu.2.2 hw.2.2 tH jh
def tU(r:Nat)(e:bN)(d:Int)(t:Rat)(x:aq):Prop:=y9 e.1.1 e.1.2 e.2.1 e.2.2 (2^r) (bw d*bw (2^r)) t x
theorem agZ{r:Nat}{e:bN}{d d':Int}(h:d≤d'){t:Rat}{x:aq}(ab:tU r e d t x):tU r e d' t x:=by
 refine ag1 ?_ ab;have hS:(0:Rat)<bw (2^r):=rz (jo (by decide));exact Rat.mul_le_mul_of_nonneg_right (sO.2 h) (Rat.le_of_lt hS)
theorem Ow{r:Nat}{e:bN}{p q:aq}{d:Int}{t1 t2:Rat}(Jj:t1≤t2)(Jk:t2≤1)(hp:tU r e d t1 p)(aj:tU r e d t2 q):∀(l:List aq) (k6:Rat),0≤k6→k6≤1→(∀x∈l,∀u,rU (2^r) p q u x→k6≤u)→(∀x∈l,∃u,rU (2^r) p q u x)→lc (decide ((2:Int)^r*q.1<2^r*p.1)) (decide ((2:Int)^r*q.2<2^r*p.2)) l→Ek (tU r e) (d+1) t2 (t1+k6*(t2-t1)) l
 | [],k6,aE,h1,_,_,_=>by
  show t1+k6*(t2-t1)≤t2;have:=lB (show 0≤1-k6 by grind) (show 0≤t2-t1 by grind);grind
 | x::l,k6,aE,h1,hu,hm,aX=>by
  have hS:(0:Int)<2^r:=jo (by decide);obtain⟨u,yR⟩:=hm x (hc ..);have ak:=kh.1 aX;have h2:=hu x (hc ..) u yR;have bD:=lB (show 0≤u-k6 by grind) (show 0≤t2-t1 by grind);have cm:=lB (show 0≤1-u by have:=yR.1.2;grind) (show 0≤t2-t1 by grind)
  have ab:tU r e (d+1) (t1+u*(t2-t1)) x:=by
   have:=ag0 hp aj yR;unfold tU;rw[show bw (d+1)=bw d+1 by simp[bw,tZ]];exact this
  exact⟨t1+u*(t2-t1),by grind,by grind,ab,Ow Jj Jk hp aj l u yR.1.1 yR.1.2 (fun y ai w hw=>R9 hS yR hw (ak.1 y ai)) (fun y ai=>hm y (kH _ ai)) ak.2⟩
def zb(E:List bN)(r:Nat)(i:Nat)(c:List aq×List Int):Prop:=xz r c.1 c.2∧th (tU r (E.getD i li)) 0 c.1 c.2
theorem Gf{r:Nat}(a b:Int):tT (bw a) (bw b) (2*(bw (2^r)*bw (ca a r))) (bw 1*bw (2^r)) 0∧tT (bw b) (bw a) (2*(bw (2^r)*bw (ca a r))) (bw 1*bw (2^r)) 1:=by
 have eX:(0:Int)<2^r:=jo (by decide);obtain⟨g0,g1⟩:2*(ca a r*2^r)≤2*a+2^r∧2*a+2^r<2*(ca a r*2^r)+2*2^r:=abF eX;have c4:=sO.2 g0;have q1:=LQ.2 g1;have z:bw 1=1:=by simp[bw]
 rw[z];simp only[bw,tZ,Rat.intCast_mul] at c4 q1 ⊢;generalize ((2^r:Int):Rat)=S at *;generalize ((ca a r:Int):Rat)=g at *;generalize ((a:Int):Rat)=a' at *;generalize ((b:Int):Rat)=b4 at *;have aN:((2:Int):Rat)=2:=by simp
 rw[aN] at c4 q1;refine⟨⟨?_,?_⟩,?_,?_⟩ <;> grind
theorem ZX{r:Nat}(e:bN):th (tU r e) 0 (hr (lU r e.1) (lU r e.2)).1 (hr (lU r e.1) (lU r e.2)).2 :=
 ZW ⟨(Gf e.1.1 e.2.1).1,(Gf e.1.2 e.2.2).1⟩ ⟨(Gf e.2.1 e.1.1).2,(Gf e.2.2 e.1.2).2⟩
theorem agU{r:Nat}{p q:aq}(hp:dX r p.1 p.2=true)(aj:dX r q.1 q.2=true):xz r (hr p q).1 (hr p q).2:=by
 unfold hr
 split
 ·exact⟨by simp,rfl,fun v hv=>by rw[jJ.1 hv];exact hp,trivial,.inl trivial,.inl trivial⟩
 ·rename_i cA;refine⟨by simp,rfl,fun v hv => ?_,⟨cA,trivial⟩,?_,?_⟩
  ·simp only[fg,sL,or_false] at hv;rcases hv with rfl|rfl
   ·exact hp
   ·exact aj
  ·rcases Int.le_total p.1 q.1 with h|h
   ·exact .inl ⟨h,trivial⟩
   ·exact .inr ⟨h,trivial⟩
  ·rcases Int.le_total p.2 q.2 with h|h
   ·exact .inl ⟨h,trivial⟩
   ·exact .inr ⟨h,trivial⟩
theorem Ec{X W a b n d:Int}(gj:0<W)(hd:0<d)(aA:0≤n∧n≤d)(e:X*d=W*(a*(d-n)+b*n)){lo hi:Int}(aX:lo≤a∧a≤hi)(aa:lo≤b∧b≤hi):lo*W≤X∧X≤hi*W:=by
 have a1:=hP (show 0≤a-lo by omega) (show 0≤d-n by omega);have a2:=hP (show 0≤hi-a by omega) (show 0≤d-n by omega);have b1:=hP (show 0≤b-lo by omega) aA.1;have b2:=hP (show 0≤hi-b by omega) aA.1;have s1:lo*d≤a*(d-n)+b*n:=by grind
 have s2:a*(d-n)+b*n≤hi*d:=by grind
 have t1:=sM s1 (pD gj);have t2:=sM s2 (pD gj);rw[←e] at t1 t2;refine⟨Int.le_of_mul_le_mul_right ?_ hd,Int.le_of_mul_le_mul_right ?_ hd⟩
 ·rw[show lo*W*d=W*(lo*d) by grind];exact t1
 ·rw[show hi*W*d=W*(hi*d) by grind];exact t2
theorem LH{r:Nat}(ao:r≤28){a b:bN}(h1:gK a.1=true)(h2:gK a.2=true){x:aq}(h:xo r a b=some x):dX r x.1 x.2=true:=by
 unfold xo at h
 split at h
 ·rename_i ae;cases h;obtain⟨X,Y,W,W',e⟩:=FV ae;obtain⟨q1,q2,q3,_⟩:=Gx (r:=r) e;obtain⟨_,_,⟨n,d,g1,g2,g3,g4⟩,_⟩:=Cf e;have cP:=ot.1 h1;have cQ:=ot.1 h2;obtain⟨c1,c2⟩:=Ec q2 g1 g2 g3 (lo := -134217728) (hi:=134217727) (by omega) (by omega);obtain⟨jc,Ax⟩:=Ec q2 g1 g2 g4 (lo := -134217728) (hi:=134217727) (by omega) (by omega);rw[q3];unfold dX;rw[GA ao q2 c1 c2,GA ao q2 jc Ax];rfl
 ·cases h
theorem OK{r:Nat}{l m:aq×aq}(h1:dX r l.1.1 l.1.2=true)(h2:dX r l.2.1 l.2.2=true){x:aq}(h:tk r l m=some x):dX r x.1 x.2=true:=by
 have hS:(0:Int)<2^r:=jo (by decide);unfold tk at h
 split at h
 ·rename_i ae;cases h;obtain⟨X,Y,W,W',e⟩:=FV ae.1;obtain⟨q1,q2,q3,q4⟩:=Gx (r:=r) e;obtain⟨_,_,⟨n,d,g1,g2,g3,g4⟩,_⟩:=Cf e;generalize jG r (h8 (gU r l) (gU r m))=x at *;obtain⟨⟨i1,i2⟩,i3,i4⟩:=q4;have v1:=T0 hS q2 g1 g2 g3 i1 i2;have v2:=T0 hS q2 g1 g2 g4 i3 i4;unfold dX at h1 h2 ⊢;rw[eg] at h1 h2 ⊢;refine⟨?_,?_⟩
  ·rcases Int.le_total l.1.1 l.2.1 with h|h
   ·exact Dd h1.1 h2.1 (v1.1 h).1 (v1.1 h).2
   ·exact Dd h2.1 h1.1 (v1.2 h).1 (v1.2 h).2
  ·rcases Int.le_total l.1.2 l.2.2 with h|h
   ·exact Dd h1.2 h2.2 (v2.1 h).1 (v2.1 h).2
   ·exact Dd h2.2 h1.2 (v2.2 h).1 (v2.2 h).2
 ·cases h
theorem ajZ{E:List bN}{r R:Nat}(ao:r≤28)(fB:jD E=true):nm (rp E r R) (zb E r) where
 nodup i c h:=h.1.nodup
 new i hi:=⟨agU (Gc ao (qj fB i).1) (Gc ao (qj fB i).2),ZX _⟩
 split i c j p q br h hlen hp aj aA _ au:=by
  refine⟨h.1.cut ao hp aj aA au,?_⟩;have adM:=C4 p q br;have e:br.length=(gr p q br).length:=adM.length_eq.symm;show th _ _ (dz c.1 j (gr p q br)) (eL c.2 j br.length);rw[e];refine Ox (fun d t x ab=>agZ (by omega) ab) (fun d t1 t2 Jj Jk h1 h2 => ?_) c.1 c.2 j 0 hlen hp aj h.2;have lS:=D3 ao br p q;rw[Mq aA au];have:=Ow Jj Jk h1 h2 (tb r br p q) 0 Rat.le_refl (by decide) (fun x ab u hu=>hu.1.1) (fun x ab=>(lS.2.1 x ab).2.2) lS.1;rwa [show t1+0*(t2-t1)=t1 by grind] at this
 hz:=C4
 EO i _:=⟨Gc ao (qj fB i).1,Gc ao (qj fB i).2⟩
 PA i j x _ _ h:=LH ao (qj fB i).1 (qj fB i).2 h
 Py p q fJ cI x h1 h2 _ _ h:=OK (l:=(p,q)) (m:=(fJ,cI)) h1 h2 h
 cut hot p q fJ cI x au _ _ h1 h2 ar aK bX fb h:=(akb E ao R).Z9 hot p q fJ cI x au h1 h2 ar aK bX fb h
variable{α:Type} [DecidableEq α]
abbrev iX(α:Type):=List (List α×List Int)
end Go.Proofs.YtklpfooafbjnpaaGreat.bH
namespace Go.Proofs.YtklpfooafbjnpaaGreat.bH
variable{α:Type} [DecidableEq α]
def news(o:dm α):iX α:=(List.range o.n).map fun k=>hr (o.P k) (o.Q k)
theorem acT(o:dm α){s:bh α}(aa:iM o s)(q:α)(aj:o.gG q):(dF o s q=fo s 5 0 0∧s.hot.length=o.R∧q∉s.hot) ∨
  ∃ez,dF o s q={s with hot:=ez}∧iM o ({s with hot:=ez}:bh α)∧(∀x,x∈ez↔(x∈s.hot∨x=q)):=by
 have:=aa.room;unfold dF
 by_cases h:q∈s.hot
 ·rw[if_pos h];exact .inr ⟨s.hot,rfl,aa,fun x=>⟨.inl,fun aZ=>aZ.elim id fun e=>by rw[e];exact h⟩⟩
 ·rw[if_neg h]
  by_cases h2:s.hot.length<o.R
  ·rw[if_pos h2];refine .inr ⟨s.hot++[q],rfl,⟨?_,?_,fun x ab=>(kf.1 ab).elim (aa.hl x) fun h=>by rw[jJ.1 h];exact aj⟩,fun x=>by simp⟩
   ·show (s.hot++[q]).Nodup;refine List.nodup_append.2 ⟨aa.nd,by simp,fun a aX b cR => ?_⟩;rw[jJ] at cR;subst cR;exact fun e=>h (by rw[←e];exact aX)
   ·show (s.hot++[q]).length≤o.R;rw[cY,List.length_singleton];omega
  ·rw[if_neg h2];exact .inl ⟨rfl,by omega,h⟩
end Go.Proofs.YtklpfooafbjnpaaGreat.bH
namespace Go.Proofs.YtklpfooafbjnpaaGreat.bH
variable{α:Type} [DecidableEq α]
structure DI (o:dm α) (z:α):Prop where
 P:∀i,i<o.n→o.P i=z∧o.Q i=z
 oY:∀i j x,i<j→j<o.n→o.oY i j=some x→x=z
 room:0<o.R
structure One (o:dm α) (z:α) (m:Nat) (s:bh α):Prop where
 hot:∀x∈s.hot,x=z
 left:(s.ph=0∧(o.n-s.I)+o.n*o.n≤m)∨(s.ph=1∧(o.n-s.I)*o.n-s.J≤m)∨(s.ph=4∧s.hot=[z]∧s.ch=news o)
theorem P9{o:dm α}{z:α}{s:bh α}(h1:DI o z)(FI:o.gG z)(aa:iM o s)(h:∀x∈s.hot,x=z):∃ez,dF o s z={s with hot:=ez}∧iM o ({s with hot:=ez}:bh α)∧ez=[z]:=by
 have mS:∀l:List α,l.Nodup→(∀x∈l,x=z)→z∈l→l=[z]:=fun l aA al aS=>by
  have:=Co aA (m:=[z]) fun x ab=>by rw[al x ab];simp
  match l,aS,this with
  | [a],_,_=>rw[al a (by simp)]
  | a::b::l,_,aZ=>simp at aZ
 rcases acT o aa z FI with ⟨_,f,g⟩|⟨h2,e,b2,m2⟩
 ·exfalso;have:=h1.room;have hlen:0<s.hot.length:=by omega
  obtain⟨y,ai⟩:=List.exists_mem_of_length_pos hlen;exact g (by rw[←h y ai];exact ai)
 ·exact⟨h2,e,b2,mS h2 b2.nd (fun x ab=>((m2 x).1 ab).elim (h x) id) ((m2 z).2 (.inr rfl))⟩
theorem RJ{o:dm α}{z:α}(h1:DI o z)(s:bh α):ms o s=fo {s with ch:=news o} 4 0 0:=by
 have hlen:∀c∈news o,c.1.length=1:=fun c ak=>by
  obtain⟨k,ae,rfl⟩:=fE.1 ak;obtain⟨aH,aN⟩:=h1.P k (nN.1 ae);rw[aH,aN];unfold hr;rw[if_pos rfl];rfl
 have BL:∀(cs:iX α) i,(∀c∈cs,c.1.length=1)→rG cs i 0=none:=by
  intro cs
  induction cs with
  | nil=>intro i _;rfl
  | cons c cs cf =>
   intro i h;unfold rG;rw[if_neg (by rw[h c (hc ..)];decide)];exact cf _ fun c ak=>h c (kH _ ak)
 have al:bi (news o)=[]:=List.flatMap_eq_nil_iff.2 fun c ak=>List.length_eq_zero_iff.1 (by rw[sv,hlen c ak]);show mA (fo {s with ch:=news o} 2 0 0)=_;unfold mA;show (match rG ((news o).drop 0) 0 0 with|some BX=>_|none=>if (bi (news o)).length<2 then _ else _)=_;rw[List.drop_zero,BL _ 0 hlen,al];rfl
theorem Vu{o:dm α}{ok:Nat→List α×List Int→Prop}{z:α}{m:Nat}(ae:nm o ok)(h1:DI o z){s:bh α}(hi:kO o ok s)(h:One o z (m+1) s):One o z m (eI o s):=by
 rcases h.left with ⟨hp,al⟩|⟨hp,al⟩|⟨hp,al,ak⟩
 ·have aE:HH o s:=by
   obtain⟨_,aJ|aJ|aJ|aJ|aJ|aJ⟩:=hi
   ·exact aJ
   all_goals · have:=aJ.ph;omega
  have bf:=aE.I;have e:eI o s=r7 o s:=by simp only[eI,hp]
  rw[e];obtain⟨aH,aN⟩:=h1.P s.I bf;have FI:o.gG z:=by rw[←aH];exact(ae.EO _ bf).1
  obtain⟨a1,f1,b1,g1⟩:=P9 h1 FI hi.1 h.hot;subst g1;obtain⟨a2,f2,b2,g2⟩:=P9 h1 FI b1 (fun x ab=>jJ.1 ab);subst g2;unfold r7;rw[aH,aN,f1,f2,if_neg (show ¬s.ph=5 by omega),if_neg (show ¬s.ph=5 by omega),RJ h1]
  split
  ·exact⟨fun x ab=>jJ.1 ab,.inl ⟨hp,show (o.n-(s.I+1))+o.n*o.n≤m by omega⟩⟩
  ·split
   ·exact⟨fun x ab=>jJ.1 ab,.inr (.inr ⟨rfl,rfl,rfl⟩)⟩
   ·exact⟨fun x ab=>jJ.1 ab,.inr (.inl ⟨rfl,show (o.n-0)*o.n-1≤m by rw[Nat.sub_zero];omega⟩)⟩
 ·have aE:Inv1 o s:=by
   obtain⟨_,aJ|aJ|aJ|aJ|aJ|aJ⟩:=hi
   ·have:=aJ.ph;omega
   ·exact aJ
   all_goals · have:=aJ.ph;omega
  have Qe:s.hot=[z]:=by
   have aA:0<o.n:=by have:=aE.J;omega
   have aS:z∈s.hot:=by rw[←(h1.P 0 aA).1];exact(aE.zK 0 aA).1
   have:=Co hi.1.nd (m:=[z]) fun x ab=>by rw[h.hot x ab];simp
   have dL:=h.hot;generalize s.hot=l at aS this dL
   match l,aS,this with
   | [a],_,_=>rw[dL a (by simp)]
   | a::b::l,_,aZ=>simp at aZ
  have e:eI o s=sG o s:=by simp only[eI,hp]
  have key:lm o s (o.oY s.I s.J)=s:=by
   cases adP:o.oY s.I s.J with
   | none=>rfl
   | some x =>
    have:=h1.oY _ _ x aE.v8 aE.J adP;subst this;show dF o s x=s;unfold dF;rw[if_pos (by rw[Qe];simp)]
  obtain⟨fI,gD⟩:=Ll aE.v8 aE.J;rw[e];unfold sG;rw[key,if_neg (show ¬s.ph=5 by omega),RJ h1]
  split
  ·rename_i a8;have:=(gD a8).2;exact⟨h.hot,.inr (.inl ⟨hp,show (o.n-(cz o.n s.I s.J).1)*o.n-(cz o.n s.I s.J).2≤m by omega⟩)⟩
  ·exact⟨h.hot,.inr (.inr ⟨rfl,Qe,rfl⟩)⟩
 ·have e:eI o s=s:=by simp only[eI,hp]
  rw[e];exact⟨h.hot,.inr (.inr ⟨hp,al,ak⟩)⟩
end Go.Proofs.YtklpfooafbjnpaaGreat.bH
namespace Go.Proofs.YtklpfooafbjnpaaGreat.bH
theorem EQ{v:Int}(h : -134217728≤v∧v<134217728):ca v 28=0:=by
 unfold ca;have e:(2:Int)^28=268435456:=by decide
 rw[e];omega
theorem Ux{E:List bN}{R:Nat}(fB:jD E=true)(an:0<R):DI (rp E 28 R) (0,0) where
 P i hi:=by
  have h:=qj fB i;have h1:=ot.1 h.1;have h2:=ot.1 h.2;exact⟨Prod.ext (EQ h1.1) (EQ h1.2),Prod.ext (EQ h2.1) (EQ h2.2)⟩
 oY i j x gB af hp:=by
  have hp:xo 28 (E.getD i li) (E.getD j li)=some x:=hp;have h:=qj fB i;have g:=LH (by decide) h.1 h.2 hp;have h1:=ot.1 h.1;have h2:=ot.1 h.2;unfold xo at hp
  split at hp
  ·rename_i ae;cases hp;obtain⟨X,Y,W,W',e⟩:=FV ae;obtain⟨q1,q2,q3,_⟩:=Gx (r:=28) e;obtain⟨_,_,⟨n,d,g1,g2,g3,g4⟩,_⟩:=Cf e;obtain⟨c1,c2⟩:=Ec q2 g1 g2 g3 (lo := -134217728) (hi:=134217727) (by omega) (by omega);obtain⟨jc,Ax⟩:=Ec q2 g1 g2 g4 (lo := -134217728) (hi:=134217727) (by omega) (by omega);have hS:(0:Int)<2^28:=by decide
   have jq:fV (2^28) (-134217728) 1=0:=by decide
   have z2:fV (2^28) 134217727 1=0:=by decide
   have m1:=zh hS (by decide) q2 (X := -134217728) (W:=1) (X':=X) (by omega);have m2:=zh hS q2 (by decide) (X:=X) (X':=134217727) (W':=1) (by omega);have m3:=zh hS (by decide) q2 (X := -134217728) (W:=1) (X':=Y) (by omega);have m4:=zh hS q2 (by decide) (X:=Y) (X':=134217727) (W':=1) (by omega);rw[jq] at m1 m3;rw[z2] at m2 m4;rw[q3];exact Prod.ext (by show fV _ _ _=0;omega) (by show fV _ _ _=0;omega)
  ·cases hp
 room:=an
end Go.Proofs.YtklpfooafbjnpaaGreat.bH
namespace Go.Proofs.YtklpfooafbjnpaaGreat
open Go.RowKit
abbrev oA(V:List aq)(D:List Int):ag := .w (.agg [.p (b3 2 V.length (bY V)),.p (b3 1 D.length (cw D))])
abbrev xa(V:List aq)(D:List Int):List AC:=[.p (b3 2 V.length (bY V)),.p (b3 1 D.length (cw D))]
abbrev Ef(b:Bool):AC := .p (pc [.c (.bool (!b))])
abbrev xN(l d:Bool):ag := .w (.one (.p (l6 (.func 199) [Ef l,Ef d])))
theorem ahx{a1 a2 b1 b2:Int}:aO ah 141 [bn a1 a2,bn b1 b2] (xN (decide (b1<a1)) (decide (b2<a2))):=by
 have aH:decide (b1≥a1) = !decide (b1<a1):=by by_cases h:b1<a1 <;> simp[h] <;> omega
 have aN:decide (b2≥a2) = !decide (b2<a2):=by by_cases h:b2<a2 <;> simp[h] <;> omega
 refine LD (f:=141) Tryz.func141 rfl rfl rfl rfl ?_;refine D7 (wu ?_);(refine eK ?_);refine D7 (wu ?_);(refine eK ?_);refine D6 5 _ rfl rfl ?_;refine D6 6 _ rfl rfl ?_;refine wu ?_;(repeat first|refine dc ?_|refine DZ (xs:=[_,_]) (cs:=[_,_]) rfl rfl rfl rfl ?_)
 ((refine bk rfl (aY rfl aM) ?_))
 exact ag.aU.of_eq (by rw[aH,aN];rfl)
theorem ah5{x y z w:Int}{l d r:Bool}(ao:Aq x y z w l d=r):aO ah 199 [bn x y,bn z w,.w (.one (Ef l)),.w (.one (Ef d))] (bl r):=by
 have cs:(¬x=z∧z<x∧r=l)∨(¬x=z∧¬z<x∧r = !l)∨(x=z∧¬y=w∧w<y∧r=d)∨(x=z∧¬y=w∧¬w<y∧r = !d)∨(x=z∧y=w∧r=false):=by
  rw[←ao];unfold Aq
  by_cases h1:x<z <;> by_cases h2:z<x <;> by_cases ar:y<w <;> by_cases aK:w<y <;> simp[h1,h2,ar,aK] <;> omega
 clear ao;rcases cs with ⟨h1,h2,rfl⟩|⟨h1,h2,rfl⟩|⟨h1,ar,h2,rfl⟩|⟨h1,ar,h2,rfl⟩|⟨h1,ar,rfl⟩
 all_goals
  refine bo (f:=199) Tryz.func199 rfl rfl rfl rfl ?_;(repeat first|refine dc ?_|(with_reducible apply Yq);(iterate 4 rfl);kernel_rfl|(with_reducible apply bR (c:=true));rfl;rfl;((simp only[qT];(omega)))|(with_reducible apply bR (c:=false));rfl;rfl;((simp only[qT];(omega))))
  ((refine bk rfl (aY rfl aM) ?_))
  first
  | exact ag.aU.refl _
  | exact ag.aU.of_eq (by rw[cc (show ¬x<z by omega),Bool.false_beq,Bool.not_not];rfl)
  | exact ag.aU.of_eq (by rw[b5 (show x<z by omega),Bool.true_beq];rfl)
  | exact ag.aU.of_eq (by rw[cc (show ¬y<w by omega),Bool.false_beq,Bool.not_not];rfl)
  | exact ag.aU.of_eq (by rw[b5 (show y<w by omega),Bool.true_beq];rfl)
section
variable{P:Program}{s:aB}{ops:Array Oper}{K:aB→Prop}{rest:List Oper}{ty:Nat}{pos:String}{after:Array Edge}{guard:Option (Nat×Bool)}{d:Nat}
theorem YV{dl dN:Nat}{x y:Operand}{a b:Int}(hw:want ops ⟨some d,.binOp .quo dl x y dN,ty,pos,after,guard⟩ s=some true)(ab:s.look x=some (aQ (.int .i64 a)))(ai:s.look y=some (aQ (.int .i64 b)))(aE:0≤a)(h1:0<b)(h2:a≤9223372036854775807)(hd:Nat.blt d s.n=true)(h:bm P ops K rest (s.put (some d) (aQ (.int .i64 (a/b))))):bm P ops K (⟨some d,.binOp .quo dl x y dN,ty,pos,after,guard⟩::rest) s:=by
 refine qS hw ab ai (fun W => ?_) rfl hd h;have aa:b≠0:=by omega
 have e:a.tdiv b=a/b:=Int.tdiv_eq_ediv_of_nonneg aE
 have aN:IntKind.i64.wrap (a/b)=a/b:=kC (by
  have:=o5 aE (show 0≤b by omega);have:=Int.ediv_le_self b aE;omega)
 simp[binOp,Op.intDiv,aa,e,aN]
end
theorem Rl:bY []=[]:=rfl
theorem Rm(p:Int×Int)(l:List (Int×Int)):((bY (p::l)).drop ((1:Int).toNat*2)).take (l.length*2)=bY l:=by
 show ((bY (p::l)).drop 2).take (l.length*2)=bY l;rw[←ol];simp[bY]
theorem KD(p:Int×Int)(l:List (Int×Int)):bY l++[.c (.int .i64 p.1),.c (.int .i64 p.2)]=bY (l++[p]):=by rw[tN];rfl
theorem aeL(l:List (Int×Int))(k:Nat):((bY l).drop (0*2)).take ((l.take k).length*2)=bY (l.take k):=by
 have e:bY l=bY (l.take k)++bY (l.drop k):=by rw[←tN,kg]
 rw[e,Nat.zero_mul,List.drop_zero,←ol];simp
theorem aeK(l:List (Int×Int))(k:Nat)(ae:k≤l.length):((bY l).drop (k*2)).take ((l.drop k).length*2)=bY (l.drop k):=by
 have e:bY l=bY (l.take k)++bY (l.drop k):=by rw[←tN,kg]
 have aN:k*2=(bY (l.take k)).length:=by rw[ol,dY,qw ae]
 rw[e,aN,List.drop_left,←ol,uf]
abbrev jH(v:Value)(l:List (Int×Int)):bE:=⟨50,2,v,l.length,bY l⟩
instance anO:nn ah 41 50 2 16:=⟨by kernel_rfl⟩
def Xo(M:List (Int×Int))(lt:Int×Int→Int×Int→Bool)(sw:ag)(K:Nat)(m:Nat)(R:aF)(az:List (Nat×ag))(aR:List (Nat×List AC)):Prop :=
 ∃(a b out:List (Int×Int)) (v:Value),m=a.length+b.length∧out++e9 lt a b=M∧out.length+m=K∧R=bp 0 (jH v out)∧az=[(0,fF a),(1,fF b),(2,sw),(7,aQ v)]∧aR=[]
theorem Lx{fx fy:Bool}{a b:List (Int×Int)}(aX:a.length≤100000)(aa:b.length≤100000) :
  aO ah 198 [fF a,fF b,xN fx fy] (fF (e9 (ea fx fy) a b)):=by
 refine bo (f:=198) Tryz.func198 rfl rfl rfl rfl ?_;refine td ?_;(refine aT ?_);refine yN (l:=0) (c':=a.length+b.length) 0 rfl rfl rfl rfl (dk _) rfl rfl ?h2 (iP (by omega)) rfl (fun v hv => ?_)
 case h2=>omega
 (refine aT ?_);refine iH 52 (Xo (e9 (ea fx fy) a b) (ea fx fy) (xN fx fy) (a.length+b.length)) (a.length+b.length) (bp 0 (jH v [])) _ _ ⟨a,b,[],v,rfl,rfl,ib _,rfl,rfl,rfl⟩ (kj _ _ _) rfl ⟨rfl,rfl,rfl,rfl,trivial⟩ trivial rfl ?_;rintro m R az aR ⟨a',b4,out,v,rfl,gh,fc,rfl,rfl,rfl⟩ bz;clear bz hv
 by_cases LN:0<a'.length
 ·by_cases LO:0<b4.length
  ·have T3:(a'.length:Int)>0:=by omega
   have ajt:(b4.length:Int)>0:=by omega
   obtain⟨⟨x,n⟩,a2,rfl⟩:=List.exists_cons_of_length_pos LN;obtain⟨⟨y,m⟩,b2,rfl⟩:=List.exists_cons_of_length_pos LO;have gQ:((bY ((x,n)::a2)).drop ((0:Int).toNat*2)).take 2=[.c (.int .i64 x),.c (.int .i64 n)]:=oO (j:=0) (i:=0) rfl rfl;have uA:((bY ((y,m)::b2)).drop ((0:Int).toNat*2)).take 2=[.c (.int .i64 y),.c (.int .i64 m)]:=oO (j:=0) (i:=0) rfl rfl;have a7:=ah5 (x:=y) (y:=m) (z:=x) (w:=n) (l:=fx) (d:=fy) rfl;rw[show Aq y m x n fx fy=ea fx fy (y,m) (x,n) from rfl] at a7;cases a8:ea fx fy (y,m) (x,n) with
   | true =>
    rw[a8] at a7;have aH:((y,m)::b2).length-(1:Int).toNat=b2.length:=rfl;have aN:=Rm (y,m) b2
    have Jt:(out++[(y,m)])++e9 (ea fx fy) ((x,n)::a2) b2=e9 (ea fx fy) a b:=by
     rw[←gh,e9,if_pos a8,hx];rfl
    have pq:(out++[(y,m)]).length=out.length+1:=cY;have iw:((y,m)::b2).length=b2.length+1:=rfl;have adm:((x,n)::a2).length=a2.length+1:=rfl;(repeat first|(with_reducible apply dB (id:=3) [0,1,2,3,4,5,6,7]);kernel_rfl;kernel_rfl;rfl|(with_reducible apply dB (id:=4) [0,1,2,3,6,7,4,5,8,9]);kernel_rfl;kernel_rfl;rfl|refine b9 ?_|(with_reducible apply eT);rfl;(repeat first|refine hD ?_|refine fw ?_|(with_reducible apply bR (c:=true));rfl;rfl;(exact b5 (by omega)));(with_reducible apply dC));refine mm 0 rfl rfl rfl rfl ?q1 ?q2 rfl rfl (fun ba bT => ?_)
    case q1=>exact iP (by show out.length+1≤1000000;omega)
    case q2=>show (out.length+1)*16≤140737488355328;omega
    (refine aT ?_)
    have b6:jH ba (out++[(y,m)])=⟨50,2,ba,out.length+1,bY out++[.c (.int .i64 y),.c (.int .i64 m)]⟩:=by
     unfold jH;rw[←KD,cY];rfl
    refine⟨_,bp 0 (jH ba (out++[(y,m)])),_,_,?_,⟨(x,n)::a2,b2,out++[(y,m)],ba,rfl,Jt,?_,rfl,rfl,rfl⟩,by rw[b6];exact kj _ _ _,rfl,⟨rfl,rfl,rfl,rfl,trivial⟩,trivial,rfl⟩
    ·omega
    ·omega
   | false =>
    rw[a8] at a7;have aH:((x,n)::a2).length-(1:Int).toNat=a2.length:=rfl;have aN:=Rm (x,n) a2
    have Jt:(out++[(x,n)])++e9 (ea fx fy) a2 ((y,m)::b2)=e9 (ea fx fy) a b:=by
     rw[←gh,e9,if_neg (by rw[a8];decide),hx];rfl
    have pq:(out++[(x,n)]).length=out.length+1:=cY;have iw:((y,m)::b2).length=b2.length+1:=rfl;have adm:((x,n)::a2).length=a2.length+1:=rfl;(repeat first|(with_reducible apply dB (id:=3) [0,1,2,3,4,5,6,7]);kernel_rfl;kernel_rfl;rfl|(with_reducible apply dB (id:=5) [0,1,2,3,6,7,4,5,8,9]);kernel_rfl;kernel_rfl;rfl|refine b9 ?_|(with_reducible apply eT);rfl;(repeat first|refine hD ?_|refine fw ?_|(with_reducible apply bR (c:=true));rfl;rfl;(exact b5 (by omega)));(with_reducible apply dC));refine mm 0 rfl rfl rfl rfl ?q1 ?q2 rfl rfl (fun ba bT => ?_)
    case q1=>exact iP (by show out.length+1≤1000000;omega)
    case q2=>show (out.length+1)*16≤140737488355328;omega
    (refine aT ?_)
    have b6:jH ba (out++[(x,n)])=⟨50,2,ba,out.length+1,bY out++[.c (.int .i64 x),.c (.int .i64 n)]⟩:=by
     unfold jH;rw[←KD,cY];rfl
    refine⟨_,bp 0 (jH ba (out++[(x,n)])),_,_,?_,⟨a2,(y,m)::b2,out++[(x,n)],ba,rfl,Jt,?_,rfl,rfl,rfl⟩,by rw[b6];exact kj _ _ _,rfl,⟨rfl,rfl,rfl,rfl,trivial⟩,trivial,rfl⟩
    ·omega
    ·omega
  ·have T3:(a'.length:Int)>0:=by omega
   have ajt:¬(b4.length:Int)>0:=by omega
   have PZ:b4=[]:=List.length_eq_zero_iff.1 (by omega);have aS:(a'.length:Int)=a'.length:=rfl;(repeat first|refine b9 ?_|(with_reducible apply eT);rfl;(repeat first|refine hD ?_|(with_reducible apply bR (c:=true));rfl;rfl;(exact b5 (by omega)));(with_reducible apply dC));refine mm 0 rfl rfl rfl rfl ?q1 ?q2 (tO _) rfl (fun ba bT => ?_)
   case q1=>exact iP (by show out.length+a'.length≤1000000;omega)
   case q2=>show (out.length+a'.length)*16≤140737488355328;omega
   (refine aT ?_);refine QG (k:=(e9 (ea fx fy) a b).length) (zs:=bY (e9 (ea fx fy) a b)) 0 rfl rfl rfl rfl ?p1 ?p2 ?p3 ?p4 (tO _) rfl ?_
   case p1=>exact iP (by show (out.length+a'.length)+b4.length≤1000000;omega)
   case p2=>show ((out.length+a'.length)+b4.length)*16≤140737488355328;omega
   case p3=>show (out.length+a'.length)+b4.length=(e9 (ea fx fy) a b).length;rw[K9];omega
   case p4=>show (bY out++bY a')++bY b4=bY (e9 (ea fx fy) a b);rw[←gh,PZ,La,←tN,Rl,nb]
   (refine aT ?_)
   ((refine bk rfl (aY rfl aM) ?_))
   exact ag.aU.refl _
 ·have T3:¬(a'.length:Int)>0:=by omega
  have ach:a'=[]:=List.length_eq_zero_iff.1 (by omega);(repeat first|refine b9 ?_|(with_reducible apply eT);rfl;(repeat first|refine hD ?_|(with_reducible apply bR (c:=false));rfl;rfl;(exact cc (by omega)));(with_reducible apply dC));refine mm 0 rfl rfl rfl rfl ?q1 ?q2 (tO _) rfl (fun ba bT => ?_)
  case q1=>exact iP (by show out.length+a'.length≤1000000;omega)
  case q2=>show (out.length+a'.length)*16≤140737488355328;omega
  (refine aT ?_);refine QG (k:=(e9 (ea fx fy) a b).length) (zs:=bY (e9 (ea fx fy) a b)) 0 rfl rfl rfl rfl ?p1 ?p2 ?p3 ?p4 (tO _) rfl ?_
  case p1=>exact iP (by show (out.length+a'.length)+b4.length≤1000000;omega)
  case p2=>show ((out.length+a'.length)+b4.length)*16≤140737488355328;omega
  case p3=>show (out.length+a'.length)+b4.length=(e9 (ea fx fy) a b).length;rw[K9];omega
  case p4=>show (bY out++bY a')++bY b4=bY (e9 (ea fx fy) a b);rw[←gh,ach,agv,Rl,nb,←tN]
  (refine aT ?_)
  ((refine bk rfl (aY rfl aM) ?_))
  exact ag.aU.refl _
theorem ah1{fx fy:Bool} :
  ∀(N:Nat) (l:List (Int×Int)),l.length≤N→N≤100000→aO ah 140 [fF l,xN fx fy] (fF (jN (ea fx fy) l)):=by
 intro N
 induction N with
 | zero =>
  intro l h1 h2;have eV:=Lx (fx:=fx) (fy:=fy) (a:=l) (b:=[]) (by omega) (by simp);rw[La] at eV
  have a7:aO ah 198 [fF l,MF,xN fx fy] (fF l):=TE eV rfl rfl (by
   intro i x y ab ai
   match i with
   | 0=>cases ab;cases ai;exact .refl _
   | 1=>cases ab;cases ai;exact nil_le 2
   | 2=>cases ab;cases ai;exact .refl _
   | i+3=>simp at ab)
  have q1:(l.length:Int)<2:=by omega
  have e:jN (ea fx fy) l=l:=by rw[jN,dif_pos (by omega)]
  rw[e];clear eV;refine bo (f:=140) Tryz.func140 rfl rfl rfl rfl ?_;(refine cK ?_)
  ((refine bk rfl (aY rfl aM) ?_))
  exact ag.aU.refl _
 | succ N cf =>
  intro l h1 h2
  by_cases q:l.length<2
  ·have eV:=Lx (fx:=fx) (fy:=fy) (a:=l) (b:=[]) (by omega) (by simp);rw[La] at eV
   have a7:aO ah 198 [fF l,MF,xN fx fy] (fF l):=TE eV rfl rfl (by
    intro i x y ab ai
    match i with
    | 0=>cases ab;cases ai;exact .refl _
    | 1=>cases ab;cases ai;exact nil_le 2
    | 2=>cases ab;cases ai;exact .refl _
    | i+3=>simp at ab)
   have q1:(l.length:Int)<2:=by omega
   have e:jN (ea fx fy) l=l:=by rw[jN,dif_pos (by omega)]
   rw[e];clear eV cf;refine bo (f:=140) Tryz.func140 rfl rfl rfl rfl ?_;(refine cK ?_)
   ((refine bk rfl (aY rfl aM) ?_))
   exact ag.aU.refl _
  ·have q1:¬(l.length:Int)<2:=by omega
   have e:jN (ea fx fy) l=e9 (ea fx fy) (jN (ea fx fy) (l.take (l.length/2))) (jN (ea fx fy) (l.drop (l.length/2))):=by rw[jN,dif_neg q]
   have a7:=cf (l.take (l.length/2)) (by simp;omega) (by omega);have bK:=cf (l.drop (l.length/2)) (by simp;omega) (by omega);have l1:=G4 (ea fx fy) _ (l.take (l.length/2)) (cE _);have l2:=G4 (ea fx fy) _ (l.drop (l.length/2)) (cE _);have dZ:=Lx (fx:=fx) (fy:=fy) (a:=jN (ea fx fy) (l.take (l.length/2))) (b:=jN (ea fx fy) (l.drop (l.length/2))) (by rw[l1];simp;omega) (by rw[l2];simp;omega);have aZ:((l.length:Int)/2).toNat=l.length/2:=by omega
   have aH:((l.length:Int)/2).toNat-0=(l.take (l.length/2)).length:=by rw[aZ];simp;omega
   have aN:=aeL l (l.length/2);have b6:((l.length:Int)).toNat-((l.length:Int)/2).toNat=(l.drop (l.length/2)).length:=by rw[aZ];simp
   have eb:=aeK l (l.length/2) (by omega);have jd:((bY l).drop (((l.length:Int)/2).toNat*2)).take ((l.drop (l.length/2)).length*2)=bY (l.drop (l.length/2)):=by rw[aZ];exact eb
   rw[e];clear cf l1 l2 e eb aZ;refine bo (f:=140) Tryz.func140 rfl rfl rfl rfl ?_;(repeat first|(with_reducible apply ga);rfl|(with_reducible apply rY);(iterate 3 rfl)|(with_reducible apply Ib);(iterate 4 rfl);(omega);(omega);(omega);(assumption);(assumption);rfl|(with_reducible apply Ic);(iterate 5 rfl);(omega);(omega);(omega);(omega);(assumption);(assumption);rfl|(with_reducible apply YV);(iterate 3 rfl);omega;omega;omega;rfl|refine H6 rfl rfl rfl rfl (by(first|exact a7|exact bK)) rfl ?_|refine H7 rfl rfl rfl rfl rfl (by(exact dZ)) rfl ?_|(with_reducible apply NL);kernel_rfl|(with_reducible apply N4);kernel_rfl;kernel_rfl;rfl|(with_reducible first|apply N5|apply NV|apply Ii|apply dC|apply Ij|apply Ik)|(with_reducible apply NY);rfl;(exact cc (by omega)))
   ((refine bk rfl (aY rfl aM) ?_))
   exact ag.aU.refl _
section
variable{P:Program}{aG:cU}{s:aB}{ops:Array Oper}{dr:Option (List Nat)}{ty d:Nat}{pos:String}{after:Array Edge}{guard:Option (Nat×Bool)}{K:aB→Prop}{rest:List Oper}
theorem Ia{tt z n l lo hi:Nat}{v u:Value}{x y:Operand} [S:hE P tt z](hw:want ops ⟨some d,.slice tt x (some y) none none,ty,pos,after,guard⟩ s=some true)(ab:s.look x=some (aQ u))(ai:s.look y=some (aL (l:Int)))(hu:jT v z lo hi u)(hm:hi-lo=n)(h1:l≤n)(hd:Nat.blt d s.n=true)(h:bm P ops K rest (s.put (some d) (aQ (hQ u z l n)))):bm P ops K (⟨some d,.slice tt x (some y) none none,ty,pos,after,guard⟩::rest) s:=by
 subst hm;obtain⟨⟨A,c,rfl⟩,_⟩:=hu;refine gb (av:=aQ (hQ (.slice A (hi-lo) c) z l (hi-lo))) hw ⟨fun _ _ h=>(by cases h),fun q aj => ?_,fun U ad W env he => ?_,fun j af=>absurd af (gL _ j)⟩ hd h
 ·simp[Op.operands] at aj;rcases aj with rfl|rfl
  ·exact⟨_,ab⟩
  ·exact⟨_,ai⟩
 ·have ex:env x = .slice A (hi-lo) c:=(he x (by simp[Op.operands]) _ ab).1;have jY:env y = .int .i64 (l:Int):=(he y (by simp[Op.operands]) _ ai).1;obtain⟨e',fi,hu,b7,hs⟩:=nf S.h;have e0:P.underlying tt=some (.slice (P.elem tt)):=by rw[jX hu];exact hu
  refine⟨hQ (.slice A (hi-lo) c) z l (hi-lo),?_,rfl,rfl⟩;simp only[execOp,ex,ha,ru,jY,Sem.run_bind,run_sliceAt_slice W tt _ _ _ _ e0,run_slice_l W tt A (hi-lo) c e0 .i64 l (by omega) (by omega),jX hu,ig b7,Result.andThen_ok,hs,Sem.run_pure,kI,hQ]
theorem YW{tt z n l lo hi:Nat}{v u:Value}{x y:Operand} [S:hE P tt z](hw:want ops ⟨some d,.slice tt x none (some y) none,ty,pos,after,guard⟩ s=some true)(ab:s.look x=some (aQ u))(ai:s.look y=some (aL (l:Int)))(hu:jT v z lo hi u)(hm:hi-lo=n)(h1:l≤n)(hd:Nat.blt d s.n=true)(h:bm P ops K rest (s.put (some d) (aQ (hQ u z 0 l)))):bm P ops K (⟨some d,.slice tt x none (some y) none,ty,pos,after,guard⟩::rest) s:=by
 subst hm;obtain⟨⟨A,c,rfl⟩,ak⟩:=hu
 have J0:l≤c:=by
  rcases xr l with e|e
  ·omega
  ·have aZ:=ak (show lo<hi by omega);obtain⟨g,n',c',g1,g2,g3⟩:=aZ;have eb:c=c'-lo:=by injection g3
   clear g1 g3 ak;omega
 refine gb (av:=aQ (hQ (.slice A (hi-lo) c) z 0 l)) hw ⟨fun _ _ h=>(by cases h),fun q aj => ?_,fun U ad W env he => ?_,fun j af=>absurd af (gL _ j)⟩ hd h
 ·simp[Op.operands] at aj;rcases aj with rfl|rfl
  ·exact⟨_,ab⟩
  ·exact⟨_,ai⟩
 ·have ex:env x = .slice A (hi-lo) c:=(he x (by simp[Op.operands]) _ ab).1;have jY:env y = .int .i64 (l:Int):=(he y (by simp[Op.operands]) _ ai).1;obtain⟨e',fi,hu,b7,hs⟩:=nf S.h;have e0:P.underlying tt=some (.slice (P.elem tt)):=by rw[jX hu];exact hu
  refine⟨hQ (.slice A (hi-lo) c) z 0 l,?_,rfl,rfl⟩;simp only[execOp,ex,ha,ru,jY,Sem.run_bind,run_sliceAt_slice W tt _ _ _ _ e0,run_slice_h W tt A (hi-lo) c e0 .i64 l (by omega) (by omega),jX hu,ig b7,Result.andThen_ok,hs,Sem.run_pure,kI,hQ]
end
theorem Ml{A C Nt:List AC}{n:Nat}(h:A.length=n):eP (A++Nt) n C=(A++C)++Nt.drop C.length:=by
 subst h;unfold eP;rw[List.take_left,List.drop_append,ry (by omega),ue,Nat.add_sub_cancel_left]
theorem Rn{l:List aq}{n:Nat}(h:l.length=n):(bY l).take (n*2)=bY l:=fL (by rw[ol];omega)
theorem Q9{l:List Int}{n:Nat}(h:l.length=n):(cw l).take (n*1)=cw l:=fL (by simp[cw];omega)
theorem Q8(l:List Int):(cw l).all AC.aW=true:=bZ.2 fun y ai=>by
 obtain⟨x,_,rfl⟩:=fE.1 ai;rfl
theorem FM(l:List Int):(cw l).length=l.length*1:=by simp[cw]
abbrev GO(LL:List (List aq)):List AC:=LL.map fun l=>AC.p (b3 2 l.length (bY l))
abbrev Hg(LL:List (List aq)):ag:=cF 1 LL.length (GO LL)
theorem UJ{LL:List (List aq)}{j:Int}{i:Nat}{l:List aq}(af:j=i)(h:LL[i]?=some l):((GO LL).drop (j.toNat*1)).take 1=[.p (b3 2 l.length (bY l))]:=by
 subst af;have hi:=(bq.1 h).1;rw[kI,Nat.mul_one,jK (by simpa [GO] using hi)];have:LL[i]=l:=(bq.1 h).2;simp[GO,this]
def iU(LL:List (List aq))(i:Nat):List aq:=(LL.take i).flatten
theorem TS{LL:List (List aq)}{i:Nat}{l:List aq}(h:LL[i]?=some l):iU LL (i+1)=iU LL i++l:=by
 unfold iU;rw[jL (bq.1 h).1,(bq.1 h).2];simp
theorem TQ{LL:List (List aq)}{i:Nat}(h:LL.length≤i):iU LL i=LL.flatten:=by unfold iU;rw[fL h]
theorem TR(LL:List (List aq))(i:Nat):(iU LL i).length≤LL.flatten.length:=by
 have:LL.flatten=iU LL i++(LL.drop i).flatten:=by unfold iU;rw[←List.flatten_append,kg]
 rw[this,cY];omega
def Xi(LL:List (List aq))(n:Nat)(R:aF)(az:List (Nat×ag))(aR:List (Nat×List AC)):Prop :=
 ∃(i:Nat) (ii qk:Int),i≤LL.length∧n=LL.length-i∧ii=i∧qk=((iU LL i).length:Nat)∧R=dP∧aR=[]∧az=[(0,Hg LL),(3,aL qk),(10,Hg LL),(11,aL LL.length),(12,aL ii)]
def Xj(LL:List (List aq))(N:Nat)(v:Value)(fO:List AC)(n:Nat)(R:aF)(az:List (Nat×ag))(aR:List (Nat×List AC)):Prop :=
 ∃(i:Nat) (ii:Int) (u:Value),i≤LL.length∧n=LL.length-i∧ii=i∧jT v 2 (iU LL i).length N u∧R=bp 0 ⟨50,2,v,N,bY (iU LL i)++fO.drop ((iU LL i).length*2)⟩∧aR=[]∧az=[(6,aQ v),(7,aQ u),(24,Hg LL),(25,aL LL.length),(26,aL ii)]
theorem To{LL:List (List aq)}(dp:LL.length≤1100)(gi:LL.flatten.length≤100000):aO ah 217 [Hg LL] (fF LL.flatten):=by
 refine bo (f:=217) Tryz.func217 rfl rfl rfl rfl ?_;refine td ?_;(refine aT ?_);refine iH 37 (Xi LL) LL.length dP _ [] ⟨0,0,0,dk _,rfl,rfl,rfl,rfl,rfl,rfl⟩ (bc.refl _) rfl ⟨rfl,rfl,rfl,rfl,rfl,trivial⟩ trivial rfl ?_;rintro n R az aR ⟨i,ii,qk,hi,rfl,ee,Bz,rfl,rfl,rfl⟩ bz;clear bz
 by_cases aj:i<LL.length
 ·have q2:ii<(LL.length:Int):=by omega
  have q3:0≤ii:=by omega
  obtain⟨l,g1⟩:∃l,LL[i]?=some l:=⟨_,bB aj⟩;have gQ:=UJ ee g1;have h1:=TS g1;have h2:=TR LL (i+1);have ar:(iU LL (i+1)).length=(iU LL i).length+l.length:=by rw[h1,cY]
  (refine aT ?_);exact⟨LL.length-(i+1),dP,_,[],by omega,⟨i+1,ii+1,_,by omega,rfl,by omega,by omega,rfl,rfl,rfl⟩,bc.refl _,rfl,⟨rfl,rfl,rfl,rfl,rfl,trivial⟩,trivial,rfl⟩
 ·have q2:¬ii<(LL.length:Int):=by omega
  rw[TQ (by omega)] at Bz;subst Bz;generalize Bb:LL.flatten.length=N at *;(refine aT ?_);refine yN (l:=N) (c':=N) 0 rfl rfl rfl rfl (cE _) rfl rfl ?h2 (iP (by omega)) rfl (fun v hv => ?_)
  case h2=>show 16*N≤281474976710656;omega
  generalize ed:iW N 2 _=fO;have E1:fO.length=N*2:=by rw[←ed];simp[iW]
  clear ed;(refine aT ?_);refine L6 0 (r:=⟨50,2,v,N,fO⟩) rfl (fun fh c jj eN j3 ct hlen => ?_);have mV:v = .slice fh N c:=jj;have tG:jT v 2 0 N v:=by rw[mV];exact jT.all 2 eN ct
  clear jj eN j3 ct hlen;refine iH 37 (Xj LL N v fO) LL.length (bp 0 ⟨50,2,v,N,fO⟩) _ [] ⟨0,0,v,dk _,rfl,rfl,tG,rfl,rfl,rfl⟩ (kj _ _ _) rfl ⟨rfl,rfl,rfl,rfl,rfl,trivial⟩ trivial rfl ?_;clear aj q2 tG ee mV;rintro n R az aR ⟨i,ii,u,hi,rfl,ee,hu,rfl,rfl,rfl⟩ bz;clear bz
  by_cases aj:i<LL.length
  ·have q2:ii<(LL.length:Int):=by omega
   have q3:0≤ii:=by omega
   obtain⟨l,g1⟩:∃l,LL[i]?=some l:=⟨_,bB aj⟩;have gQ:=UJ ee g1;have h1:=TS g1;have h2:=TR LL (i+1);have ar:(iU LL (i+1)).length=(iU LL i).length+l.length:=by rw[h1,cY]
   rw[Bb] at h2;have c1:=tO l;have bD:Nat.min l.length (N-(iU LL i).length)=l.length:=qw (by omega);obtain⟨m,hm⟩:∃m,N-(iU LL i).length=m:=⟨_,rfl⟩;have b1:(iU LL i).length≤N:=by omega
   have b2:l.length≤m:=by omega
   have s1:eP (bY (iU LL i)++fO.drop ((iU LL i).length*2)) ((iU LL i).length*2) ((bY l).take (l.length*2))=bY (iU LL (i+1))++fO.drop ((iU LL (i+1)).length*2):=by
    rw[Rn rfl,Ml (ol _),←tN,←h1,List.drop_drop,ol];congr 2;omega
   have e0:=hu.sl hm b2 b1;rw[←ar] at e0;(repeat first|refine b9 ?_|(with_reducible apply eT);rfl;(repeat first|refine hD ?_|(with_reducible apply Ia);(iterate 3 rfl);assumption;(assumption);(assumption);rfl);(with_reducible apply dC)|(with_reducible apply QH 0);(iterate 3 rfl);assumption;rfl;rfl;rfl;(assumption);(exact cE _);(assumption);rfl;assumption;assumption;rfl);exact⟨LL.length-(i+1),_,_,[],by omega,⟨i+1,ii+1,_,by omega,rfl,by omega,e0,rfl,rfl,rfl⟩,kj _ _ _,rfl,⟨rfl,rfl,rfl,rfl,rfl,trivial⟩,trivial,rfl⟩
  ·have q2:¬ii<(LL.length:Int):=by omega
   have cr:bY (iU LL i)++fO.drop ((iU LL i).length*2)=bY LL.flatten:=by
    rw[TQ (by omega),ry (by omega),nb]
   rw[cr];refine xC 0 6 ⟨50,2,v,N,bY LL.flatten⟩ rfl rfl ?_;rw[←Bb];(refine aT ?_)
   ((refine bk rfl (aY rfl aM) ?_))
   exact ag.aU.refl _
abbrev GP(LL:List (List Int)):List AC:=LL.map fun l=>AC.p (b3 1 l.length (cw l))
abbrev Hf(LL:List (List Int)):ag:=cF 1 LL.length (GP LL)
theorem UK{LL:List (List Int)}{j:Int}{i:Nat}{l:List Int}(af:j=i)(h:LL[i]?=some l):((GP LL).drop (j.toNat*1)).take 1=[.p (b3 1 l.length (cw l))]:=by
 subst af;have hi:=(bq.1 h).1;rw[kI,Nat.mul_one,jK (by simpa [GP] using hi)];have:LL[i]=l:=(bq.1 h).2;simp[GP,this]
def iT(LL:List (List Int))(i:Nat):List Int:=(LL.take i).flatten
theorem TP{LL:List (List Int)}{i:Nat}{l:List Int}(h:LL[i]?=some l):iT LL (i+1)=iT LL i++l:=by
 unfold iT;rw[jL (bq.1 h).1,(bq.1 h).2];simp
theorem TN{LL:List (List Int)}{i:Nat}(h:LL.length≤i):iT LL i=LL.flatten:=by unfold iT;rw[fL h]
theorem TO(LL:List (List Int))(i:Nat):(iT LL i).length≤LL.flatten.length:=by
 have:LL.flatten=iT LL i++(LL.drop i).flatten:=by unfold iT;rw[←List.flatten_append,kg]
 rw[this,cY];omega
def Xg(LL:List (List Int))(n:Nat)(R:aF)(az:List (Nat×ag))(aR:List (Nat×List AC)):Prop :=
 ∃(i:Nat) (ii qk:Int),i≤LL.length∧n=LL.length-i∧ii=i∧qk=((iT LL i).length:Nat)∧R=dP∧aR=[]∧az=[(0,Hf LL),(3,aL qk),(10,Hf LL),(11,aL LL.length),(12,aL ii)]
def Xh(LL:List (List Int))(N:Nat)(v:Value)(fO:List AC)(n:Nat)(R:aF)(az:List (Nat×ag))(aR:List (Nat×List AC)):Prop :=
 ∃(i:Nat) (ii:Int) (u:Value),i≤LL.length∧n=LL.length-i∧ii=i∧jT v 1 (iT LL i).length N u∧R=bp 0 ⟨3,1,v,N,cw (iT LL i)++fO.drop ((iT LL i).length*1)⟩∧aR=[]∧az=[(6,aQ v),(7,aQ u),(24,Hf LL),(25,aL LL.length),(26,aL ii)]
theorem Tn{LL:List (List Int)}(dp:LL.length≤1100)(gi:LL.flatten.length≤100000):aO ah 218 [Hf LL] (iI LL.flatten):=by
 refine bo (f:=218) Tryz.func218 rfl rfl rfl rfl ?_;refine td ?_;(refine aT ?_);refine iH 37 (Xg LL) LL.length dP _ [] ⟨0,0,0,dk _,rfl,rfl,rfl,rfl,rfl,rfl⟩ (bc.refl _) rfl ⟨rfl,rfl,rfl,rfl,rfl,trivial⟩ trivial rfl ?_;rintro n R az aR ⟨i,ii,qk,hi,rfl,ee,Bz,rfl,rfl,rfl⟩ bz;clear bz
 by_cases aj:i<LL.length
 ·have q2:ii<(LL.length:Int):=by omega
  have q3:0≤ii:=by omega
  obtain⟨l,g1⟩:∃l,LL[i]?=some l:=⟨_,bB aj⟩;have gQ:=UK ee g1;have h1:=TP g1;have h2:=TO LL (i+1);have ar:(iT LL (i+1)).length=(iT LL i).length+l.length:=by rw[h1,cY]
  (refine aT ?_);exact⟨LL.length-(i+1),dP,_,[],by omega,⟨i+1,ii+1,_,by omega,rfl,by omega,by omega,rfl,rfl,rfl⟩,bc.refl _,rfl,⟨rfl,rfl,rfl,rfl,rfl,trivial⟩,trivial,rfl⟩
 ·have q2:¬ii<(LL.length:Int):=by omega
  rw[TN (by omega)] at Bz;subst Bz;generalize Bb:LL.flatten.length=N at *;(refine aT ?_);refine yN (l:=N) (c':=N) 0 rfl rfl rfl rfl (cE _) rfl rfl ?h2 (iP (by omega)) rfl (fun v hv => ?_)
  case h2=>show 8*N≤281474976710656;omega
  generalize ed:iW N 1 _=fO;have E1:fO.length=N*1:=by rw[←ed];simp[iW]
  clear ed;(refine aT ?_);refine L6 0 (r:=⟨3,1,v,N,fO⟩) rfl (fun fh c jj eN j3 ct hlen => ?_);have mV:v = .slice fh N c:=jj;have tG:jT v 1 0 N v:=by rw[mV];exact jT.all 1 eN ct
  clear jj eN j3 ct hlen;refine iH 37 (Xh LL N v fO) LL.length (bp 0 ⟨3,1,v,N,fO⟩) _ [] ⟨0,0,v,dk _,rfl,rfl,tG,rfl,rfl,rfl⟩ (kj _ _ _) rfl ⟨rfl,rfl,rfl,rfl,rfl,trivial⟩ trivial rfl ?_;clear aj q2 tG ee mV;rintro n R az aR ⟨i,ii,u,hi,rfl,ee,hu,rfl,rfl,rfl⟩ bz;clear bz
  by_cases aj:i<LL.length
  ·have q2:ii<(LL.length:Int):=by omega
   have q3:0≤ii:=by omega
   obtain⟨l,g1⟩:∃l,LL[i]?=some l:=⟨_,bB aj⟩;have gQ:=UK ee g1;have h1:=TP g1;have h2:=TO LL (i+1);have ar:(iT LL (i+1)).length=(iT LL i).length+l.length:=by rw[h1,cY]
   rw[Bb] at h2;have c1:=Q8 l;have bD:Nat.min l.length (N-(iT LL i).length)=l.length:=qw (by omega);obtain⟨m,hm⟩:∃m,N-(iT LL i).length=m:=⟨_,rfl⟩;have b1:(iT LL i).length≤N:=by omega
   have b2:l.length≤m:=by omega
   have s1:eP (cw (iT LL i)++fO.drop ((iT LL i).length*1)) ((iT LL i).length*1) ((cw l).take (l.length*1))=cw (iT LL (i+1))++fO.drop ((iT LL (i+1)).length*1):=by
    rw[Q9 rfl,Ml (FM _),←BZ,←h1,List.drop_drop,FM];congr 2;omega
   have e0:=hu.sl hm b2 b1;rw[←ar] at e0;(repeat first|refine b9 ?_|(with_reducible apply eT);rfl;(repeat first|refine hD ?_|(with_reducible apply Ia);(iterate 3 rfl);assumption;(assumption);(assumption);rfl);(with_reducible apply dC)|(with_reducible apply QH 0);(iterate 3 rfl);assumption;rfl;rfl;rfl;(assumption);(exact cE _);(assumption);rfl;assumption;assumption;rfl);exact⟨LL.length-(i+1),_,_,[],by omega,⟨i+1,ii+1,_,by omega,rfl,by omega,e0,rfl,rfl,rfl⟩,kj _ _ _,rfl,⟨rfl,rfl,rfl,rfl,rfl,trivial⟩,trivial,rfl⟩
  ·have q2:¬ii<(LL.length:Int):=by omega
   have cr:cw (iT LL i)++fO.drop ((iT LL i).length*1)=cw LL.flatten:=by
    rw[TN (by omega),ry (by omega),nb]
   rw[cr];refine xC 0 6 ⟨3,1,v,N,cw LL.flatten⟩ rfl rfl ?_;rw[←Bb];(refine aT ?_)
   ((refine bk rfl (aY rfl aM) ?_))
   exact ag.aU.refl _
theorem ahV{x y:Nat}(ab:x<9223372036854775808)(ai:y<9223372036854775808)(h:x*y<9223372036854775808):aO ah 292 [aQ (.int .u64 (x:Nat)),aQ (.int .u64 (y:Nat))] (.ck [.one (.c (.int .u64 0)),.one (.c (.int .u64 ((x*y:Nat):Int)))]):=by
 refine iB [.int .u64 (x:Nat),.int .u64 (y:Nat)] (.tuple #[.int .u64 0,.int .u64 ((x*y:Nat):Int)]) rfl rfl rfl rfl rfl fun W => ?_;refine(Tryz.bits_Mul64 x y (by omega) (by omega) W).mono ?_;rintro e w' ⟨rfl,rfl⟩;have aH:x*y/18446744073709551616=0:=Nat.div_eq_of_lt (by omega);have aN:x*y % 18446744073709551616=x*y:=Nat.mod_eq_of_lt (by omega);rw[aH,aN];exact⟨rfl,Below.refl _ _⟩
theorem ahT{y:Nat}(ai:y<9223372036854775808):aO ah 251 [aQ (.int .u64 1),aQ (.int .u64 (y:Nat))] (.ck [.one (.c (.int .u64 0)),.one (.c (.int .u64 (y:Nat)))]):=by
 have a7:=ahV (x:=1) (y:=y) (by decide) ai (by omega);rw[Nat.one_mul] at a7
 replace a7:aO ah 292 [aQ (.int .u64 1),aQ (.int .u64 (y:Nat))] (.ck [.one (.c (.int .u64 0)),.one (.c (.int .u64 (y:Nat)))]):=a7
 refine bo (f:=251) Tryz.func251 rfl rfl rfl rfl ?_;(refine cK ?_)
 ((refine bk rfl (aY rfl (aY rfl aM)) ?_))
 exact ag.aU.refl _
def XJ(d:Int)(m:Nat)(v:Value)(fO:List AC)(n:Nat)(R:aF)(az:List (Nat×ag))(aR:List (Nat×List AC)):Prop :=
 ∃(k:Nat) (db:Int),1≤k∧k≤m∧n=m-k∧db=k∧R=bp 0 ⟨3,1,v,m,cw (List.replicate k d)++fO.drop k⟩∧aR=[]∧az=[(7,aQ v),(8,aL db)]
theorem ahX{d:Int}{m:Nat}(yG:1≤m)(hm:m≤100000):aO ah 195 [iI [d],aL m] (iI (List.replicate m d)):=by
 have xY:=ahT (y:=m) (by omega);have w1:IntKind.u64.wrap (m:Int)=m:=by rw[IntKind.wrap_u64];omega
 have w2:IntKind.i64.wrap (m:Int)=m:=kC (by omega);have c4:¬(m:Int)<0:=by omega
 have q1:¬(m:Int)>9223372036854775807:=by omega
 have bD:Nat.min 1 m=1:=qw yG;refine bo (f:=195) Tryz.func195 rfl rfl rfl rfl ?_;refine td ?_;(refine oB ?_);refine yN (l:=m) (c':=m) 0 rfl rfl rfl rfl (cE _) rfl rfl ?h2 (iP (by omega)) rfl (fun v hv => ?_)
 case h2=>show 8*m≤281474976710656;omega
 generalize ed:iW m 1 _=fO;have E1:fO.length=m:=by rw[←ed];simp[iW]
 have acg:fO.all AC.aW=true:=by
  rw[←ed];refine bZ.2 fun y ai => ?_;simp only[iW,fE] at ai;obtain⟨j,_,rfl⟩:=ai;rfl
 clear ed
 have s1:eP fO (0*1) ((cw [d]).take (1*1))=cw (List.replicate 1 d)++fO.drop 1:=by
  unfold eP;simp[cw]
 (repeat first|refine b9 ?_|(with_reducible apply adW 0);(iterate 6 rfl);(rfl);rfl;(assumption);(assumption);rfl);refine L6 0 (r:=⟨3,1,v,m,cw (List.replicate 1 d)++fO.drop 1⟩) rfl (fun fh c jj eN j3 ct hlen => ?_);have mV:v = .slice fh m c:=jj;have hu:jT v 1 0 m v:=by rw[mV];exact jT.all 1 eN ct
 clear jj eN j3 ct hlen mV;refine iH 48 (XJ d m v fO) (m-1) (bp 0 ⟨3,1,v,m,cw (List.replicate 1 d)++fO.drop 1⟩) _ [] ⟨1,1,cE _,yG,rfl,rfl,rfl,rfl,rfl⟩ (kj _ _ _) rfl ⟨rfl,rfl,trivial⟩ trivial rfl ?_;clear xY w1 w2 c4 q1 bD s1;rintro n R az aR ⟨k,db,oa,ae,rfl,rfl,rfl,rfl,rfl⟩ bz;clear bz
 by_cases aj:k<m
 ·have q2:(k:Int)<(m:Int):=by omega
  obtain⟨x,ab⟩:∃x,Nat.min k (m-k)=x:=⟨_,rfl⟩;have anG:1≤x:=by rw[←ab];exact Nat.le_min.2 ⟨oa,by omega⟩
  have aei:x≤k:=by rw[←ab];exact Nat.min_le_left _ _
  have anH:x≤m-k:=by rw[←ab];exact Nat.min_le_right _ _
  have m0:m-0=m:=Nat.sub_zero m;have cP:=hu.sl m0 ae (dk _);have cQ:=hu.ak9 (k:=k) (by omega);rw[ib] at cP cQ;have cr:0+k=k:=ib k
  have gV:(cw (List.replicate k d)++fO.drop k).all AC.aW=true:=by
   rw[List.all_append,Q8,pF];exact bZ.2 fun y ai=>bZ.1 acg y (ow ai)
  have s1:eP (cw (List.replicate k d)++fO.drop k) (k*1) ((((cw (List.replicate k d)++fO.drop k).drop (0*1)).take (k*1)).take (x*1))=cw (List.replicate (k+x) d)++fO.drop (k+x):=by
   have lk:(cw (List.replicate k d)).length=k*1:=by simp[cw]
   rw[Nat.zero_mul,List.drop_zero,←lk,List.take_left,Ml rfl]
   have b6:(cw (List.replicate k d)).take (x*1)=cw (List.replicate x d):=by
    simp only[cw,List.map_replicate,Nat.mul_one,List.take_replicate];rw[qw aei]
   rw[b6,List.drop_drop,←BZ,List.replicate_append_replicate,show (cw (List.replicate x d)).length=x by simp[cw]]
  have w1:IntKind.i64.wrap ((k:Int)+(x:Int))=(k:Int)+(x:Int):=kC (by omega);(repeat first|(with_reducible apply dB (id:=9) [0,1,2,3,4,5,6,7,8,9]);kernel_rfl;kernel_rfl;rfl|refine b9 ?_|(with_reducible apply eT);rfl;(repeat first|refine hD ?_|(with_reducible apply Ia);(iterate 3 rfl);assumption;(assumption);(assumption);rfl|(with_reducible apply YW);(iterate 3 rfl);assumption;(assumption);(assumption);rfl);(with_reducible apply dC)|(with_reducible apply oK 0);(iterate 4 rfl);kernel_rfl;rfl|(with_reducible apply adX 0);(iterate 3 rfl);assumption;rfl;assumption;assumption;assumption;rfl;rfl;(assumption);(exact cE _);(assumption);rfl;assumption;assumption;rfl);exact⟨m-(k+x),_,_,[],by omega,⟨k+x,(k:Int)+(x:Int),by omega,by omega,rfl,by omega,rfl,rfl,rfl⟩,kj _ _ _,rfl,⟨rfl,rfl,trivial⟩,trivial,rfl⟩
 ·have q2:¬(k:Int)<(m:Int):=by omega
  have cr:cw (List.replicate k d)++fO.drop k=cw (List.replicate m d):=by
   rw[show k=m by omega,ry (by omega),nb]
  rw[cr];refine xC 0 7 ⟨3,1,v,m,cw (List.replicate m d)⟩ rfl rfl ?_
  have el:cF 1 m (cw (List.replicate m d))=iI (List.replicate m d):=by
   show cF 1 m _=cF 1 (List.replicate m d).length _;rw[List.length_replicate]
  rw[←el];(refine aT ?_)
  ((refine bk rfl (aY rfl aM) ?_))
  exact ag.aU.refl _
end Go.Proofs.YtklpfooafbjnpaaGreat
namespace Go.Proofs.YtklpfooafbjnpaaGreat
def xh(p q:aq):List aq:=if p=q then [p] else [p,q]
def xg(p q:aq):List Int:=if p=q then [] else [1]
end Go.Proofs.YtklpfooafbjnpaaGreat
namespace Go.Proofs.YtklpfooafbjnpaaGreat
open Go.RowKit
open Classical in
noncomputable def xx(r:Nat)(V:List aq)(D:List Int):Bool:=decide (xy r V D)
theorem UM{r:Nat}{V:List aq}{D:List Int}(h:xy r V D):xx r V D=true:=by unfold xx;exact @decide_eq_true _ (Classical.propDecidable _) h
theorem akj{r:Nat}{V:List aq}{D:List Int}(h:¬xy r V D):xx r V D=false:=by unfold xx;exact @decide_eq_false _ (Classical.propDecidable _) h
def mK(D:List Int):Int:=D.foldl max 0
theorem aam{D:List Int}{m:Int}(aE:0≤m)(h:∀d∈D,d≤m):0≤mK D∧mK D≤m:=by
 have key:∀(D:List Int) (n:Int),0≤n→n≤m→(∀d∈D,d≤m)→0≤D.foldl max n∧D.foldl max n≤m:=by
  intro D
  induction D with
  | nil=>intro n g1 g2 _;exact⟨g1,g2⟩
  | cons d D cf =>
   intro n g1 g2 g3;rw[ub];have:=g3 d (hc ..);exact cf _ (by omega) (by omega) fun e he=>g3 e (kH _ he)
 exact key D 0 (mx _) aE h
def WC:Prop:=∀x y z w:Int,aO ah 191 [bn x y,bn z w] (oA (xh (x,y) (z,w)) (xg (x,y) (z,w)))
def WJ:Prop:=∀(V:List aq) (D:List Int) (j:Nat) (l:List aq),V.length=D.length+1→V.length≤1100→l.length≤1100→j<D.length→(∀d∈D,1≤d∧d≤1048576) →
 aO ah 139 [oA V D,aL j,fF l] (.ck [.agg (xa (if l.isEmpty then [] else G3 V j l) (if l.isEmpty then [] else C1 D j l.length)),.one (.c (.bool (!l.isEmpty)))])
def MX:Prop:=∀(V:List aq) (D:List Int) (r:Nat),r≤28→V.length≤1100→D.length≤1100→(∀v∈V,Dz v)→(∀d∈D,0≤d∧d≤9223372036854775807)→aO ah 258 [oA V D,aL r] (bl (xx r V D))
def MW:Prop:=∀(V:List aq) (D:List Int),V.length≤1100→D.length≤1100→aO ah 76 [oA V D] (aL (mK D))
def WI:Prop:=∀(V W:List aq) (D E:List Int),V.length≤1100→D.length≤1100→W.length≤1100→E.length≤1100→aO ah 95 [oA V D,oA W E] (bl (decide (V=W)&&decide (D=E)))
def Wz:Prop:=∀(V:List aq) (D:List Int),V.length≤1100→D.length≤1100→aO ah 155 [oA V D] (oA V D)
theorem ZI:ag.aU (.w (.agg [.c (.slice none 0 0),.c (.slice none 0 0)])) (oA [] []):=DX rfl fun j x y ab ai=>by
 match j with
 | 0=>cases ab;cases ai;exact .inr ⟨rfl,2,rfl⟩
 | 1=>cases ab;cases ai;exact .inr ⟨rfl,1,rfl⟩
 | j+2=>simp at ab
end Go.Proofs.YtklpfooafbjnpaaGreat
