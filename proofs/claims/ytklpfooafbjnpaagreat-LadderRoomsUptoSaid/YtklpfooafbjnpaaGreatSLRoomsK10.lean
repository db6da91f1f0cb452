/-
  My own texts,without what this claim does not need. My own text.
-/
import Derived.Laws.BytesArg
import Derived.Test.YtklpfooafbjnpaaGreatSLRoomsK9
set_option maxRecDepth 100000
set_option maxHeartbeats 64000000
set_option linter.unusedVariables false
set_option linter.unusedSimpArgs false
set_option linter.unusedSectionVars false
open Go.Proofs.Tryz renaming prog → ah
namespace Go.Proofs.YtklpfooafbjnpaaGreat
open Go.RowKit
theorem TS{n m:Int}(aF : -9223372036854775808≤n)(h1:n<9223372036854775808)(dU : -9223372036854775808≤m)(bD:m<9223372036854775808):aP ah 246 [aL n,aL m] (gF (n*m)):=by
 have a8:=vG aF h1;have bL:=vG dU bD;have eb:=aii (Pu aF h1) (Pu dU bD);rw[x4 (amb aF h1 dU bD)] at eb;clear aF h1 dU bD;refine bp (f:=246) Tryz.func246 rfl rfl rfl rfl ?_;(refine cI ?_)
 ((refine bk rfl (c7 rfl rfl rfl aM) ?_))
 exact ag.aU.refl _
theorem aa1(a b c d a' b0 c' d':Int)(W:World):(Op.equalIn 10000 237 (.agg #[.int .i64 a,.int .i64 b,.int .i64 c,.int .i64 d]) (.agg #[.int .i64 a',.int .i64 b0,.int .i64 c',.int .i64 d'])).run ah W = .ok (wQ a b c d a' b0 c' d') W:=by
 unfold wQ dK
 go_simp
 by_cases h1:a=a' <;> by_cases h2:b=b0 <;> by_cases ar:c=c' <;> by_cases aJ:d=d' <;> simp[h1,h2,ar,aJ]
instance an6:Na ah 237:=⟨by kernel_rfl,aa1⟩
theorem ajr{a b c d:Int}:(qv a b c d>0↔¬dP a b c d):=by
 unfold qv dP;cases h:dK a b c d with
 | true=>rw[q6] at h;rw[if_pos rfl];omega
 | false =>
  have:¬(a=c∧b=d):=fun k=>by rw[q6.2 k] at h;cases h
  rw[if_neg (by simp)]
  split <;> omega
theorem LF{a1 a2 b1 b2:Int}:aP ah 241 [bn a1 a2,bn b1 b2] (.cl [.agg [.c (.int .i64 (eX a1 a2 b1 b2)),.c (.int .i64 (eG a1 a2 b1 b2))],.agg [.c (.int .i64 (en a1 a2 b1 b2)),.c (.int .i64 (eh a1 a2 b1 b2))]]):=by
 have a8:=aje (a:=a1) (b:=a2) (c:=b1) (d:=b2);have h:=ajr (a:=a1) (b:=a2) (c:=b1) (d:=b2)
 have cs:(qv a1 a2 b1 b2>0∧eX a1 a2 b1 b2=b1∧eG a1 a2 b1 b2=b2∧en a1 a2 b1 b2=a1∧eh a1 a2 b1 b2=a2)∨(¬qv a1 a2 b1 b2>0∧eX a1 a2 b1 b2=a1∧eG a1 a2 b1 b2=a2∧en a1 a2 b1 b2=b1∧eh a1 a2 b1 b2=b2):=by
  rw[h];unfold eX eG en eh
  by_cases k:dP a1 a2 b1 b2 <;> simp[k]
 clear h;generalize eX a1 a2 b1 b2=l1 at *;generalize eG a1 a2 b1 b2=l2 at *;generalize en a1 a2 b1 b2=h1 at *;generalize eh a1 a2 b1 b2=h2 at *;generalize qv a1 a2 b1 b2=c at *;rcases cs with ⟨q,rfl,rfl,rfl,rfl⟩|⟨q,rfl,rfl,rfl,rfl⟩
 all_goals
  refine bp (f:=241) Tryz.func241 rfl rfl rfl rfl ?_;(refine cI ?_)
  ((refine bk rfl (c7 rfl rfl rfl (c7 rfl rfl rfl aM)) ?_))
  exact ag.aU.refl _
theorem GA{a1 a2 b1 b2:Int}:aP ah 186 [bn a1 a2,bn b1 b2] (kk (eX a1 a2 b1 b2) (eG a1 a2 b1 b2) (en a1 a2 b1 b2) (eh a1 a2 b1 b2)):=by
 have a8:=LF (a1:=a1) (a2:=a2) (b1:=b1) (b2:=b2);generalize eX a1 a2 b1 b2=l1 at *;generalize eG a1 a2 b1 b2=l2 at *;generalize en a1 a2 b1 b2=h1 at *;generalize eh a1 a2 b1 b2=h2 at *;refine bp (f:=186) Tryz.func186 rfl rfl rfl rfl ?_;(refine cI ?_)
 ((refine bk rfl (c7 rfl rfl rfl aM) ?_))
 exact ag.aU.refl _
theorem Gz{s1 s2 bW b9 p1 p2:Int}(h1:eE s1 s2=true)(h2:eE bW b9=true)(ar:eE p1 p2=true):aP ah 187 [kk s1 s2 bW b9,bn p1 p2] (aL (cq s1 s2 bW b9 p1 p2)):=by
 have a8:=Tm h1 h2 ar;clear h1 h2 ar;generalize cq s1 s2 bW b9 p1 p2=c at *;refine bp (f:=187) Tryz.func187 rfl rfl rfl rfl ?_;(refine cI ?_)
 ((refine bk rfl (aX rfl aM) ?_))
 exact ag.aU.refl _
theorem ahG{s1 s2 bW b9 p1 p2:Int}(h1:eE s1 s2=true)(h2:eE bW b9=true)(ar:eE p1 p2=true):Gu p1 p2 s1 s2 bW b9=decide (dN p1 p2 s1 s2 bW b9):=by
 rw[o6,cU];unfold Gu dN tX;rw[h1,h2,ar];simp only[pH,ef,cU,aca]
 constructor
 ·rintro⟨⟨a,b,c,d⟩,e⟩;exact⟨e,a,b,c,d⟩
 ·rintro⟨e,a,b,c,d⟩;exact⟨⟨a,b,c,d⟩,e⟩
theorem Tz{s1 s2 bW b9 p1 p2:Int}(h1:eE s1 s2=true)(h2:eE bW b9=true)(ar:eE p1 p2=true):aP ah 243 [kk s1 s2 bW b9,bn p1 p2] (bl (decide (dN p1 p2 s1 s2 bW b9))):=by
 have a8:=aik (ahG h1 h2 ar);clear h1 h2 ar;generalize decide (dN p1 p2 s1 s2 bW b9)=c at *;refine bp (f:=243) Tryz.func243 rfl rfl rfl rfl ?_;(refine cI ?_)
 ((refine bk rfl (aX rfl aM) ?_))
 exact ag.aU.refl _
theorem TL{m n:Int}{r:Bool}(ao:decide (same m n)=r):aP ah 189 [aL m,aL n] (bl r):=by
 have cs:(m>0∧n>0∧r=true)∨(m>0∧¬n>0∧¬m<0∧r=false)∨(¬m>0∧m<0∧n<0∧r=true)∨(¬m>0∧m<0∧¬n<0∧r=false)∨(¬m>0∧¬m<0∧r=false):=by
  rw[←ao];unfold same
  by_cases h1:m>0 <;> by_cases h2:n>0 <;> by_cases ar:m<0 <;> by_cases aJ:n<0 <;> simp[h1,h2,ar,aJ] <;> omega
 clear ao;rcases cs with ⟨q1,q2,rfl⟩|⟨q1,q2,q3,rfl⟩|⟨q1,q2,q3,rfl⟩|⟨q1,q2,q3,rfl⟩|⟨q1,q2,rfl⟩
 all_goals
  refine bp (f:=189) Tryz.func189 rfl rfl rfl rfl ?_;(repeat first|refine dd ?_|(with_reducible apply bT (c:=true));rfl;rfl;(exact b5 (by omega))|(with_reducible apply bT (c:=false));rfl;rfl;(exact b8 (by omega)))
  ((refine bk rfl (aX rfl aM) ?_))
  first|exact ag.aU.refl _|exact ag.aU.of_eq (by rw[b5 q2];rfl)|exact ag.aU.of_eq (by rw[b5 q3];rfl)|exact ag.aU.of_eq (by rw[b8 q3];rfl)
theorem Ei{x A:Int}(h1 : -134217728≤x)(h2:x≤134217728)(ar : -144115188075855872≤A)(aJ:A≤144115188075855872) : -19342813113834066795298816≤x*A∧x*A≤19342813113834066795298816:=by
 have:=Ll h1 h2 ar aJ;omega
theorem TT{l h A B n d:Int}(cA:A≠B)(mo : -134217728≤l)(l1:l≤134217728)(aF : -134217728≤h)(h1:h≤134217728)(aO : -144115188075855872≤A)(dC:A≤144115188075855872)(aG : -144115188075855872≤B)(du:B≤144115188075855872)(aA:kE (h*A-l*B) (A-B)=n)(hd:jI (A-B)=d):aP ah 190 [aL l,aL h,aL A,aL B] (fv n d):=by
 have b1:=Ei aF h1 aO dC;have b2:=Ei mo l1 aG du;have r8:=TS (n:=h) (m:=A) (by omega) (by omega) (by omega) (by omega);have r9:=TS (n:=l) (m:=B) (by omega) (by omega) (by omega) (by omega);have f1:fits (h*A)=true:=by unfold fits;rw[cU];omega
 have f2:fits (l*B)=true:=by unfold fits;rw[cU];omega
 have f3:fits (h*A-l*B)=true:=by unfold fits;rw[cU];omega
 have f4:fits (A-B)=true:=by unfold fits;rw[cU];omega
 have X7:=TR f1 f2;have X8:=vG (n:=A-B) (by omega) (by omega);simp only[wf,f3,if_true] at X7
 have X9:aP ah 247 [gF (h*A-l*B),gF (A-B)] (.cl [ET n d,.one (.c (.bool true))]):=by
  by_cases q:A-B<0
  ·unfold kE at aA;unfold jI at hd;rw[if_pos q] at aA hd;have g1:fits (-(h*A-l*B))=true:=by unfold fits;rw[cU];omega
   have g2:fits (-(A-B))=true:=by unfold fits;rw[cU];omega
   exact aia f3 f4 q (s:=true) (by rw[g1,g2];rfl) (by rw[if_pos rfl,aA]) (by rw[if_pos rfl,hd])
  ·unfold kE at aA;unfold jI at hd;rw[if_neg q] at aA hd;have:=aib f3 f4 (by omega);rw[aA,hd] at this;rw[aA,hd];exact this
 obtain⟨D,e3⟩:∃D,A-B=D:=⟨_,rfl⟩;have w1:IntKind.i64.wrap (A-B)=D:=by rw[←e3];exact jo (by omega)
 rw[e3] at X8 X9;clear f1 f2 f3 f4 b1 b2 aA hd e3 aO dC aG du cA;generalize h*A-l*B=X at *;generalize h*A=Y at *;generalize l*B=Z at *;refine bp (f:=190) Tryz.func190 rfl rfl rfl rfl ?_;(refine cI ?_)
 ((refine bk rfl (c7 rfl rfl rfl aM) ?_))
 exact ag.aU.refl _
instance an7:HH ah 184 0 0 false 1:=⟨by kernel_rfl⟩
abbrev amp(k n d m e p1 p2 q1 q2:Int):ag := .w (.agg [.c (.int .i64 k),.c (.int .i64 (cx n)),.c (.int .u64 (dV n)),.c (.int .i64 (cx d)),.c (.int .u64 (dV d)),.c (.int .i64 (cx m)),.c (.int .u64 (dV m)),.c (.int .i64 (cx e)),.c (.int .u64 (dV e)),.c (.int .i64 p1),.c (.int .i64 p2),.c (.int .i64 q1),.c (.int .i64 q2)])
abbrev pM(M:fW):ag:=amp M.k M.n M.d M.m M.e M.p1 M.p2 M.q1 M.q2
theorem aeL{s1 s2 bW b9 t1 t2 t3 t4 f1 f2 g1 g2 de dj jT mA:Int}{p q:Bool}{M:fW}
  (HU:aP ah 241 [bn s1 s2,bn t1 t2] (.cl [.agg [.c (.int .i64 de),.c (.int .i64 dj)],.agg [.c (.int .i64 f1),.c (.int .i64 f2)]]))
  (XJ:aP ah 241 [bn bW b9,bn t3 t4] (.cl [.agg [.c (.int .i64 g1),.c (.int .i64 g2)],.agg [.c (.int .i64 jT),.c (.int .i64 mA)]]))
  (H1:aP ah 243 [kk s1 s2 bW b9,bn f1 f2] (bl p)) (dM:aP ah 243 [kk t1 t2 t3 t4,bn f1 f2] (bl q))
  (kP:aP ah 244 [aL f1] (fv f1 1)) (pd:aP ah 244 [aL f2] (fv f2 1))
  (gd:(if (p&&q)=true then xj f1 f2 g1 g2 else iV)=M):aP ah 188 [kk s1 s2 bW b9,kk t1 t2 t3 t4] (pM M):=by
 unfold xj at gd;have hp:(f1=g1∧f2=g2)↔dK f1 f2 g1 g2=true:=q6.symm
 have cs:(p=false∧M=iV)∨(p=true∧q=false∧M=iV)∨(p=true∧q=true∧dK f1 f2 g1 g2=true∧M=kf f1 1 f2 1)∨(p=true∧q=true∧dK f1 f2 g1 g2=false∧M=uR f1 f2 g1 g2):=by
  rw[←gd];cases aj:dK f1 f2 g1 g2 <;> rw[aj] at hp <;> cases p <;> cases q <;> simp[hp]
 clear gd hp;refine bp (f:=188) Tryz.func188 rfl rfl rfl rfl ?_;(refine cI ?_);clear HU XJ;rcases cs with ⟨rfl,rfl⟩|⟨rfl,rfl,rfl⟩|⟨rfl,rfl,h,rfl⟩|⟨rfl,rfl,h,rfl⟩
 all_goals
  (refine cI ?_)
  ((refine bk rfl (c7 rfl rfl rfl aM) ?_))
  first|exact ag.aU.refl _|exact ag.aU.of_eq (by simp only[iV,yP,za];rfl)|exact ag.aU.of_eq (by simp only[uR,yP,za];rfl)
theorem LY{a1 a2 b1 b2:Int}(h:c6 a1 a2=true)(k:c6 b1 b2=true):c6 (en a1 a2 b1 b2) (eh a1 a2 b1 b2)=true:=by
 rcases oS a1 a2 b1 b2 with ⟨_,_,ar,aJ,_⟩|⟨_,_,ar,aJ,_⟩ <;> rw[ar,aJ] <;> assumption
theorem Un{a1 a2 b1 b2:Int}(h:c6 a1 a2=true)(k:c6 b1 b2=true):c6 (eX a1 a2 b1 b2) (eG a1 a2 b1 b2)=true:=by
 rcases oS a1 a2 b1 b2 with ⟨ar,aJ,_⟩|⟨ar,aJ,_⟩ <;> rw[ar,aJ] <;> assumption
theorem aiX{s1 s2 bW b9 t1 t2 t3 t4:Int}(h1:c6 s1 s2=true)(h2:c6 bW b9=true)(ar:c6 t1 t2=true)(aJ:c6 t3 t4=true):aP ah 188 [kk s1 s2 bW b9,kk t1 t2 t3 t4] (pM (inl s1 s2 bW b9 t1 t2 t3 t4)):=by
 have au:=LY h1 ar;have aa:=ux.1 au;refine aeL LF LF (Tz (mv h1) (mv h2) (mv au)) (Tz (mv ar) (mv aJ) (mv au)) (Tu (by omega) (by omega)) (Tu (by omega) (by omega)) ?_;unfold inl;exact Cd (by rw[ef,cU,cU])
theorem aiB{a1 a2 b1 b2 c1 c2 d1 d2:Int}(h:(c6 a1 a2&&c6 b1 b2&&c6 c1 c2&&c6 d1 d2)=false):aP ah 133 [bn a1 a2,bn b1 b2,bn c1 c2,bn d1 d2] (pM iV):=by
 have bg:=qt (x:=a1) (y:=a2) rfl;have dS:=qt (x:=b1) (y:=b2) rfl;have lK:=qt (x:=c1) (y:=c2) rfl;have r5:=qt (x:=d1) (y:=d2) rfl
 have cs:c6 a1 a2=false∨(c6 a1 a2=true∧c6 b1 b2=false)∨(c6 a1 a2=true∧c6 b1 b2=true∧c6 c1 c2=false)∨(c6 a1 a2=true∧c6 b1 b2=true∧c6 c1 c2=true∧c6 d1 d2=false):=by
  generalize c6 a1 a2=cf at *;generalize c6 b1 b2=dH at *;generalize c6 c1 c2=kj at *;generalize c6 d1 d2=s3 at *;cases cf <;> cases dH <;> cases kj <;> cases s3 <;> simp_all
 clear h;rcases cs with h1|⟨h1,h2⟩|⟨h1,h2,ar⟩|⟨h1,h2,ar,aJ⟩ <;> simp only[*] at bg dS lK r5
 all_goals
  refine bp (f:=133) Tryz.func133 rfl rfl rfl rfl ?_;(refine cI ?_)
  ((refine bk rfl (c7 rfl rfl rfl aM) ?_))
  exact ag.aU.of_eq (by simp only[iV,yP,za];rfl)
theorem aac{a1 a2 b1 b2 c1 c2 d1 d2 s1 s2 bW b9 t1 t2 t3 t4 A B C D n d m e:Int}{x y:Bool}{I M:fW}
  (bg:aP ah 185 [bn a1 a2] (bl true)) (dS:aP ah 185 [bn b1 b2] (bl true)) (lK:aP ah 185 [bn c1 c2] (bl true)) (r5:aP ah 185 [bn d1 d2] (bl true))
  (du:aP ah 186 [bn a1 a2,bn b1 b2] (kk s1 s2 bW b9)) (li:aP ah 186 [bn c1 c2,bn d1 d2] (kk t1 t2 t3 t4))
  (ko:aP ah 187 [kk s1 s2 bW b9,bn t1 t2] (aL A)) (tk:aP ah 187 [kk s1 s2 bW b9,bn t3 t4] (aL B))
  (yi:aP ah 187 [kk t1 t2 t3 t4,bn s1 s2] (aL C)) (Ar:aP ah 187 [kk t1 t2 t3 t4,bn bW b9] (aL D))
  (ti:aP ah 189 [aL A,aL B] (bl x)) (uO:aP ah 189 [aL C,aL D] (bl y))
  (L:aP ah 188 [kk s1 s2 bW b9,kk t1 t2 t3 t4] (pM I))
  (Aw:A≠B→aP ah 190 [aL t1,aL t3,aL A,aL B] (fv n d)) (Ax:A≠B→aP ah 190 [aL t2,aL t4,aL A,aL B] (fv m e))
  (gd:(if A=B then I else if (x||y)=true then iV else kf n d m e)=M):aP ah 133 [bn a1 a2,bn b1 b2,bn c1 c2,bn d1 d2] (pM M):=by
 have cs:(A=B∧M=I)∨(¬A=B∧x=true∧M=iV)∨(¬A=B∧x=false∧y=true∧M=iV)∨(¬A=B∧x=false∧y=false∧M=kf n d m e):=by
  rw[←gd]
  by_cases h:A=B
  ·simp[h]
  ·cases x <;> cases y <;> simp[h]
 clear gd;refine bp (f:=133) Tryz.func133 rfl rfl rfl rfl ?_;(refine cI ?_);clear bg dS lK r5 du li ko tk;rcases cs with ⟨h,rfl⟩|⟨h,rfl,rfl⟩|⟨h,rfl,rfl,rfl⟩|⟨h,rfl,rfl,rfl⟩
 ·clear Aw Ax;(refine cI ?_)
  ((refine bk rfl (c7 rfl rfl rfl aM) ?_))
  exact ag.aU.refl _
 ·clear Aw Ax;(refine cI ?_)
  ((refine bk rfl (c7 rfl rfl rfl aM) ?_))
  exact ag.aU.of_eq (by simp only[iV,yP,za];rfl)
 ·clear Aw Ax;(refine cI ?_)
  ((refine bk rfl (c7 rfl rfl rfl aM) ?_))
  exact ag.aU.of_eq (by simp only[iV,yP,za];rfl)
 ·have amN:=Aw h;have amO:=Ax h;clear Aw Ax;(refine cI ?_)
  ((refine bk rfl (c7 rfl rfl rfl aM) ?_))
  exact ag.aU.refl _
theorem Gh{x y:Int}(h1 : -268435456≤x)(h2:x≤268435456)(ar : -268435456≤y)(aJ:y≤268435456) : -72057594037927936≤x*y∧x*y≤72057594037927936:=by
 have:=Ll h1 h2 ar aJ;omega
theorem ON{o1 o2 a1 a2 b1 b2:Int}(h1:c6 o1 o2=true)(h2:c6 a1 a2=true)(ar:c6 b1 b2=true) : -144115188075855872≤cq o1 o2 a1 a2 b1 b2∧cq o1 o2 a1 a2 b1 b2≤144115188075855872:=by
 rw[ux] at h1 h2 ar;have m1:=Gh (x:=a1-o1) (y:=b2-o2) (by omega) (by omega) (by omega) (by omega);have m2:=Gh (x:=a2-o2) (y:=b1-o1) (by omega) (by omega) (by omega) (by omega);unfold cq;omega
def sL(a1 a2 b1 b2 c1 c2 d1 d2:Int):fW:=if (c6 a1 a2&&c6 b1 b2&&c6 c1 c2&&c6 d1 d2)=true then jt a1 a2 b1 b2 c1 c2 d1 d2 else iV
theorem aiC{a1 a2 b1 b2 c1 c2 d1 d2:Int}(aV:c6 a1 a2=true)(aa:c6 b1 b2=true)(ak:c6 c1 c2=true)(hd:c6 d1 d2=true):aP ah 133 [bn a1 a2,bn b1 b2,bn c1 c2,bn d1 d2] (pM (jt a1 a2 b1 b2 c1 c2 d1 d2)):=by
 have bg:=qt aV;have dS:=qt aa;have lK:=qt ak;have r5:=qt hd;have du:=GA (a1:=a1) (a2:=a2) (b1:=b1) (b2:=b2);have li:=GA (a1:=c1) (a2:=c2) (b1:=d1) (b2:=d2);have q1:=Un aV aa;have q2:=LY aV aa;have q3:=Un ak hd;have q4:=LY ak hd;have l1:=y7 a1 a2 b1 b2;have l2:=y7 c1 c2 d1 d2;rw[←agE];generalize eX a1 a2 b1 b2=s1 at *;generalize eG a1 a2 b1 b2=s2 at *;generalize en a1 a2 b1 b2=bW at *;generalize eh a1 a2 b1 b2=b9 at *;generalize eX c1 c2 d1 d2=t1 at *;generalize eG c1 c2 d1 d2=t2 at *;generalize en c1 c2 d1 d2=t3 at *;generalize eh c1 c2 d1 d2=t4 at *;have bD:=ON q1 q2 q3;have cp:=ON q1 q2 q4;have i3:=ux.1 q3;have i4:=ux.1 q4
 refine aac bg dS lK r5 du li (Gz (mv q1) (mv q2) (mv q3)) (Gz (mv q1) (mv q2) (mv q4)) (Gz (mv q3) (mv q4) (mv q1)) (Gz (mv q3) (mv q4) (mv q2)) (TL rfl) (TL rfl) (aiX q1 q2 q3 q4)
  (fun cA=>TT cA i3.1.1 i3.1.2 i4.1.1 i4.1.2 bD.1 bD.2 cp.1 cp.2 rfl rfl) (fun cA=>TT cA i3.2.1 i3.2.2 i4.2.1 i4.2.2 bD.1 bD.2 cp.1 cp.2 rfl rfl) ?_
 rw[←agD l1 l2];unfold La
 by_cases h:cq s1 s2 bW b9 t1 t2=cq s1 s2 bW b9 t3 t4
 ·rw[if_pos h,if_pos h]
 ·rw[if_neg h,if_neg h];exact Cd (by rw[pC,cU,cU])
theorem LC{a1 a2 b1 b2 c1 c2 d1 d2:Int}:aP ah 133 [bn a1 a2,bn b1 b2,bn c1 c2,bn d1 d2] (pM (sL a1 a2 b1 b2 c1 c2 d1 d2)):=by
 unfold sL
 by_cases h:(c6 a1 a2&&c6 b1 b2&&c6 c1 c2&&c6 d1 d2)=true
 ·rw[if_pos h];simp only[ef] at h;exact aiC h.1.1.1 h.1.1.2 h.1.2 h.2
 ·rw[if_neg h];exact aiB (by simpa using h)
def I4(M:fW)(a1 a2 b1 b2 c1 c2 d1 d2:Int):Bool :=
 if M.k=1 then dK a1 a2 c1 c2||dK a1 a2 d1 d2||dK b1 b2 c1 c2||dK b1 b2 d1 d2
 else if M.k=2 then wQ (eX a1 a2 b1 b2) (eG a1 a2 b1 b2) (en a1 a2 b1 b2) (eh a1 a2 b1 b2) (eX c1 c2 d1 d2) (eG c1 c2 d1 d2) (en c1 c2 d1 d2) (eh c1 c2 d1 d2)
 else true
theorem ZI{a1 a2 b1 b2 c1 c2 d1 d2 s1 s2 bW b9 t1 t2 t3 t4:Int}{M:fW}{r:Bool}(a8:aP ah 133 [bn a1 a2,bn b1 b2,bn c1 c2,bn d1 d2] (pM M))
  (du:aP ah 186 [bn a1 a2,bn b1 b2] (kk s1 s2 bW b9)) (li:aP ah 186 [bn c1 c2,bn d1 d2] (kk t1 t2 t3 t4))
  (ao:(if M.k=1 then dK a1 a2 c1 c2||dK a1 a2 d1 d2||dK b1 b2 c1 c2||dK b1 b2 d1 d2 else if M.k=2 then wQ s1 s2 bW b9 t1 t2 t3 t4 else true)=r):aP ah 201 [bn a1 a2,bn b1 b2,bn c1 c2,bn d1 d2] (bl r):=by
 obtain⟨k,n,d,m,e,p1,p2,q1,q2⟩:=M;simp only at ao a8
 have cs:(k=1∧dK a1 a2 c1 c2=true∧r=true)∨(k=1∧dK a1 a2 c1 c2=false∧dK a1 a2 d1 d2=true∧r=true)∨(k=1∧dK a1 a2 c1 c2=false∧dK a1 a2 d1 d2=false∧dK b1 b2 c1 c2=true∧r=true)∨(k=1∧dK a1 a2 c1 c2=false∧dK a1 a2 d1 d2=false∧dK b1 b2 c1 c2=false∧r=dK b1 b2 d1 d2)∨(¬k=1∧k=2∧r=wQ s1 s2 bW b9 t1 t2 t3 t4)∨(¬k=1∧¬k=2∧r=true):=by
  rw[←ao]
  by_cases h1:k=1
  ·rw[if_pos h1];cases dK a1 a2 c1 c2 <;> cases dK a1 a2 d1 d2 <;> cases dK b1 b2 c1 c2 <;> simp[h1]
  ·rw[if_neg h1]
   by_cases h2:k=2
   ·rw[if_pos h2];simp[h2]
   ·rw[if_neg h2];simp[h1,h2]
 clear ao;refine bp (f:=201) Tryz.func201 rfl rfl rfl rfl ?_;(refine cI ?_);clear a8;rcases cs with ⟨h1,h2,rfl⟩|⟨h1,h2,ar,rfl⟩|⟨h1,h2,ar,aJ,rfl⟩|⟨h1,h2,ar,aJ,rfl⟩|⟨h1,h2,rfl⟩|⟨h1,h2,rfl⟩
 all_goals
  (repeat first|refine dd ?_|refine fs ?_|(with_reducible apply bT (c:=true));rfl;rfl;(assumption)|(with_reducible apply bT (c:=false));rfl;rfl;(assumption))
  ((refine bk rfl (aX rfl aM) ?_))
  first|exact ag.aU.refl _|exact ag.aU.of_eq (by rw[h2];rfl)|exact ag.aU.of_eq (by rw[ar];rfl)|exact ag.aU.of_eq (by rw[aJ];rfl)
theorem aiA{a1 a2 b1 b2 c1 c2 d1 d2:Int}:aP ah 201 [bn a1 a2,bn b1 b2,bn c1 c2,bn d1 d2] (bl (I4 (sL a1 a2 b1 b2 c1 c2 d1 d2) a1 a2 b1 b2 c1 c2 d1 d2)) :=
 ZI LC GA GA rfl
end Go.Proofs.YtklpfooafbjnpaaGreat
namespace Go.Proofs.YtklpfooafbjnpaaGreat.bw
abbrev bP:=aq×aq
def lU(r:Nat)(p:aq):aq:=(ca p.1 r,ca p.2 r)
abbrev lq:bP:=((0,0),(0,0))
def ic(a b:bP):fW:=jt a.1.1 a.1.2 a.2.1 a.2.2 b.1.1 b.1.2 b.2.1 b.2.2
def u1(a b:bP):Bool:=I4 (ic a b) a.1.1 a.1.2 a.2.1 a.2.2 b.1.1 b.1.2 b.2.1 b.2.2
def jK(r:Nat)(M:fW):aq:=(fR (2^r) M.n M.d,fR (2^r) M.m M.e)
def AN(r:Nat)(p:aq):aq:=(2^r*p.1,2^r*p.2)
def gW(r:Nat)(l:aq×aq):bP:=(AN r l.1,AN r l.2)
def Qs(r:Nat)(p q x:aq):Bool:=sN (2^r*p.1) (2^r*p.2) (2^r*q.1) (2^r*q.2) r x
def gq(p q:aq)(l:List aq):List aq:=tb (decide (q.1<p.1)) (decide (q.2<p.2)) (fun _=>true) l
def tA(r:Nat)(l m:aq×aq):Option aq:=if (ic (gW r l) (gW r m)).k=1∧u1 (gW r l) (gW r m)=false then some (jK r (ic (gW r l) (gW r m))) else none
def xC(r:Nat)(a b:bP):Option aq:=if (ic a b).k=1 then some (jK r (ic a b)) else none
def rz(E:List bP)(r R:Nat):cT aq where
 Fx:=Qs r
 hD:=gq
 cut:=tA r
 n:=E.length
 P i:=lU r (E.getD i lq).1
 Q i:=lU r (E.getD i lq).2
 mY i j:=xC r (E.getD i lq) (E.getD j lq)
 R:=R
 gI x:=dZ r x.1 x.2=true
def gM(p:aq):Bool:=decide (-134217728≤p.1)&&decide (p.1<134217728)&&decide (-134217728≤p.2)&&decide (p.2<134217728)
def jG(E:List bP):Bool:=E.all fun e=>gM e.1&&gM e.2
theorem ox{p:aq}:gM p=true↔((-134217728≤p.1∧p.1<134217728) ∧ -134217728≤p.2∧p.2<134217728):=by
 unfold gM;simp only[ef,cU];omega
theorem qn{E:List bP}(h:jG E=true)(i:Nat):gM (E.getD i lq).1=true∧gM (E.getD i lq).2=true:=by
 rw[xG];cases he:E[i]? with
 | none=>exact⟨by decide,by decide⟩
 | some e =>
  have:=b6.1 h e (cN he);exact Bool.and_eq_true_iff.1 this
theorem E5(v:Int)(r:Nat):ca v r=fR (2^r) v 1:=by
 unfold ca fR;rw[Int.mul_one]
theorem zt{S X W X' W':Int}(hS:0<S)(gh:0<W)(Bt:0<W')(h:X*W'≤X'*W):fR S X W≤fR S X' W':=by
 obtain⟨a1,a2⟩:=GM hS gh X;obtain⟨b1,b2⟩:=GM hS Bt X';generalize fR S X W=g at *;generalize fR S X' W'=c3 at *;refine Int.not_lt.1 fun a7 => ?_;have h1:S*(c3+1)≤S*g:=s0 a7 (by omega);rw[Int.mul_add,Int.mul_one] at h1;generalize S*g=G at *;generalize S*c3=x8 at *;have c1:(2*x8+S)*W≤(2*G-S)*W:=qB (by omega) (by omega);have c2:(2*x8+S)*W≤2*X:=by omega
 have jg:(2*x8+S)*W*W'≤2*X*W':=qB c2 (by omega);have AK:2*X'*W<(2*x8+S)*W'*W:=Int.mul_lt_mul_of_pos_right b2 gh;have aH:(2*x8+S)*W*W'=(2*x8+S)*W'*W:=by rw[k7,k6 W,←k7]
 have aN:2*X*W'=2*(X*W'):=k7 ..;have ck:2*X'*W=2*(X'*W):=k7 ..;omega
theorem Dl{m lo hi x:Int}(h1:wi m lo=true)(h2:wi m hi=true)(ar:lo≤x)(aJ:x≤hi):wi m x=true:=by
 unfold wi at *;simp only[ef,cU] at *;omega
theorem aa8{r:Nat}(ao:r≤28):wi (134217728/2^r) (ca (-134217728) r)=true∧wi (134217728/2^r) (ca 134217727 r)=true:=by
 have:r=0∨r=1∨r=2∨r=3∨r=4∨r=5∨r=6∨r=7∨r=8∨r=9∨r=10∨r=11∨r=12∨r=13∨r=14∨r=15∨r=16∨r=17∨r=18∨r=19∨r=20∨r=21∨r=22∨r=23∨r=24∨r=25∨r=26∨r=27∨r=28:=by omega
 rcases this with rfl|rfl|rfl|rfl|rfl|rfl|rfl|rfl|rfl|rfl|rfl|rfl|rfl|rfl|rfl|rfl|rfl|rfl|rfl|rfl|rfl|rfl|rfl|rfl|rfl|rfl|rfl|rfl|rfl <;> exact⟨by decide,by decide⟩
theorem GN{r:Nat}(ao:r≤28){X W:Int}(gh:0<W)(h1 : -134217728*W≤X)(h2:X≤134217727*W):wi (134217728/2^r) (fR (2^r) X W)=true:=by
 have hS:(0:Int)<2^r:=ju (by decide);have g:=aa8 ao;rw[E5,E5] at g;exact Dl g.1 g.2 (zt hS (by decide) gh (by omega)) (zt hS gh (by decide) (by omega))
theorem Gm{r:Nat}(ao:r≤28){p:aq}(h:gM p=true):dZ r (lU r p).1 (lU r p).2=true:=by
 have h:=ox.1 h;unfold dZ lU;rw[E5,E5,GN ao (by decide) (by omega) (by omega),GN ao (by decide) (by omega) (by omega)];rfl
theorem F3{a b:bP}(h:(ic a b).k=1):∃X Y W W',ic a b=kf X W Y W':=by
 unfold ic jt at h ⊢
 split at h
 ·rename_i hw;rw[if_pos hw];unfold xk inl at h ⊢
  split at h
  ·rename_i Kj;rw[if_pos Kj];unfold xj at h ⊢
   split at h
   ·rename_i he;rw[if_pos he];exact⟨_,_,_,_,rfl⟩
   ·simp[uR] at h
  ·simp[iV] at h
 ·rename_i hw;rw[if_neg hw];unfold ow vw at h ⊢
  split at h
  ·rename_i au;rw[if_pos au];exact⟨_,_,_,_,rfl⟩
  ·simp[iV] at h
theorem aaS{a b:bP}(h:(ic a b).k=1):u1 a b=true↔(a.1=b.1∨a.1=b.2∨a.2=b.1∨a.2=b.2):=by
 have e:∀p q:aq,dK p.1 p.2 q.1 q.2=true↔p=q:=fun p q=>by rw[q6,Prod.ext_iff]
 unfold u1 I4;rw[if_pos h];simp only[pC,e,or_assoc]
theorem ZT{r:Nat}{p q:aq}:AN r p=AN r q↔p=q:=by
 have hS:(2:Int)^r≠0:=by have:(0:Int)<2^r:=ju (by decide);omega
 unfold AN;rw[Prod.ext_iff,Prod.ext_iff];exact⟨fun⟨h1,h2⟩=>⟨Int.eq_of_mul_eq_mul_left hS h1,Int.eq_of_mul_eq_mul_left hS h2⟩,fun⟨h1,h2⟩=>⟨by rw[h1],by rw[h2]⟩⟩
theorem Pj{r:Nat}{l m:aq×aq}(h:(ic (gW r l) (gW r m)).k=1):u1 (gW r l) (gW r m)=true↔At l m:=by
 rw[aaS h];unfold gW At;simp only[ZT]
theorem GK{r:Nat}{a b:bP}{X Y W W':Int}(e:ic a b=kf X W Y W'):W'=W∧0<W∧jK r (ic a b)=(fR (2^r) X W,fR (2^r) Y W)∧DL (2^r) X Y W (jK r (ic a b)):=by
 obtain⟨h1,h2,_⟩:=Cp e;have hS:(0:Int)<2^r:=ju (by decide);have aN:jK r (ic a b)=(fR (2^r) X W,fR (2^r) Y W):=by rw[e];unfold jK kf;rw[h1]
 exact⟨h1,h2,aN,by rw[aN];exact aeM hS h2⟩
theorem sr{r:Nat}{p:aq}(h:dZ r p.1 p.2=true):c6 (2^r*p.1) (2^r*p.2)=true:=by
 have h:=(FU r _ _).1 h;unfold c6;simp only[ef,cU];omega
theorem aky(E:List bP){r:Nat}(ao:r≤28)(R:Nat):Aq (2^r) (rz E r R) where
 pos:=ju (by decide)
 adx p q x h:=by
  have h:sN _ _ _ _ _ _=true:=h;unfold sN at h;rw[J1 ao,K9] at h;exact h.2.2
 Qr p q x hp aj ab h:=by
  show sN _ _ _ _ _ _=true;unfold sN;have ab:dZ r x.1 x.2=true:=ab;have kC:=(FU r _ _).1 ab;have aoM:=LO ao;rw[J1 ao,K9,agz];refine⟨ab,⟨sr hp,sr aj,?_,?_,rfl⟩,h⟩
  ·rw[Ey];omega
  ·rw[Ey];omega
 OP l m x h:=by
  have h:tA r l m=some x:=h;unfold tA at h
  split at h
  ·rename_i ae;cases h;obtain⟨X,Y,W,W',e⟩:=F3 ae.1;refine⟨fun hs => ?_,X,Y,W,W',e,(GK e).2.2.2⟩;have:=(Pj ae.1).2 hs;rw[ae.2] at this;cases this
  ·cases h
 aai l m _ _ _ _ h ae:=by
  have h:tA r l m=none:=h;unfold tA at h
  split at h
  ·cases h
  ·rename_i aA;refine(Pj ae).1 ?_;cases he:u1 (gW r l) (gW r m) with
   | true=>rfl
   | false=>exact absurd ⟨ae,he⟩ aA
def xM(r:Nat)(V:List aq)(D:List Int):Prop :=
 V≠[]∧V.length=D.length+1∧(∀v∈V,dZ r v.1 v.2=true)∧gr (· ≠ ·) V∧(gr (fun p q=>p.1≤q.1) V∨gr (fun p q=>q.1≤p.1) V)∧(gr (fun p q=>p.2≤q.2) V∨gr (fun p q=>q.2≤p.2) V)
theorem IB{R T:aq→aq→Prop}:∀ {l:List aq},gr R l→gr T l→gr (fun p q=>R p q∧T p q) l
 | [],_,_=>trivial
 | [_],_,_=>trivial
 | p::q::W,h,aK=>⟨⟨h.1,aK.1⟩,IB (l:=q::W) h.2 aK.2⟩
theorem OD{R:aq→aq→Prop}(aC:∀a b c,R a b→R b c→R a c):∀ {l:List aq},gr R l→l.Pairwise R
 | [],_ => .nil
 | [_],_=>by simp
 | p::q::W,h=>by
  have bY:=OD aC (l:=q::W) h.2;refine ki.2 ⟨fun x ab => ?_,bY⟩;rcases fi.1 ab with rfl|ab
  ·exact h.1
  ·exact aC _ _ _ h.1 ((ki.1 bY).1 x ab)
theorem Ev{R T:aq→aq→Prop}(h1:∀a b c,R a b→R b c→R a c)(h2:∀a b c,T a b→T b c→T a c)(aV:∀a b,R a b→R b a→T a b→T b a→a=b){l:List aq}(ao:gr R l)(aC:gr T l)(aA:gr (· ≠ ·) l):l.Nodup:=by
 have:=OD (R:=fun p q=>(R p q∧T p q)∧p≠q) (fun a b c x y=>⟨⟨h1 _ _ _ x.1.1 y.1.1,h2 _ _ _ x.1.2 y.1.2⟩,fun e=>by subst e;exact x.2 (aV _ _ x.1.1 y.1.1 x.1.2 y.1.2)⟩) (IB (IB ao aC) aA);exact this.imp fun h=>h.2
theorem xM.nodup{r:Nat}{V:List aq}{D:List Int}(h:xM r V D):V.Nodup:=by
 obtain⟨_,_,_,aA,ab,ai⟩:=h;rcases ab with ab|ab <;> rcases ai with ai|ai
 ·exact Ev (R:=fun p q:aq=>p.1≤q.1) (T:=fun p q:aq=>p.2≤q.2) (fun a b c=>Int.le_trans) (fun a b c=>Int.le_trans) (fun a b h1 h2 ar aJ=>Prod.ext (Int.le_antisymm h1 h2) (Int.le_antisymm ar aJ)) ab ai aA
 ·exact Ev (R:=fun p q:aq=>p.1≤q.1) (T:=fun p q:aq=>q.2≤p.2) (fun a b c=>Int.le_trans) (fun a b c h aK=>Int.le_trans aK h) (fun a b h1 h2 ar aJ=>Prod.ext (Int.le_antisymm h1 h2) (Int.le_antisymm aJ ar)) ab ai aA
 ·exact Ev (R:=fun p q:aq=>q.1≤p.1) (T:=fun p q:aq=>p.2≤q.2) (fun a b c h aK=>Int.le_trans aK h) (fun a b c=>Int.le_trans) (fun a b h1 h2 ar aJ=>Prod.ext (Int.le_antisymm h2 h1) (Int.le_antisymm ar aJ)) ab ai aA
 ·exact Ev (R:=fun p q:aq=>q.1≤p.1) (T:=fun p q:aq=>q.2≤p.2) (fun a b c h aK=>Int.le_trans aK h) (fun a b c h aK=>Int.le_trans aK h) (fun a b h1 h2 ar aJ=>Prod.ext (Int.le_antisymm h2 h1) (Int.le_antisymm aJ ar)) ab ai aA
theorem EU(r:Nat)(a b:Int):decide ((2:Int)^r*a<2^r*b)=decide (a<b):=by
 have hS:(0:Int)<2^r:=ju (by decide);rw[vI];exact⟨fun h=>Int.lt_of_mul_lt_mul_left h (by omega),fun h=>Int.mul_lt_mul_of_pos_left h hS⟩
theorem OX{fx fy:Bool}{p q:aq}:∀(l out:List aq),(∀x∈l,x≠p∧x≠q)→(out++l).Nodup→l.foldl (q0 p q) out=out++l
 | [],out,_,_=>by simp
 | x::l,out,h,hd=>by
  have ab:=h x (hA ..);have e:q0 p q out x=out++[x]:=if_pos ⟨ab.1,ab.2,fun he=>(List.nodup_append.1 hd).2.2 x (List.mem_of_getLast? he) x (hA ..) rfl⟩;rw[um,e,OX (fx:=fx) (fy:=fy) l (out++[x]) (fun y ai=>h y (k5 _ ai)) (by simpa using hd),hz];rfl
theorem alF{fx fy:Bool}{f g:aq→Bool}{l:List aq}(h:∀x∈l,f x=g x):tb fx fy f l=tb fx fy g l:=by
 unfold tb
 have key:∀(l out:List aq),(∀x∈l,f x=g x)→l.foldl (fun out q=>if f q then nG fx fy q out else out) out=l.foldl (fun out q=>if g q then nG fx fy q out else out) out:=by
  intro l
  induction l with
  | nil=>intro out _;rfl
  | cons x l bY =>
   intro out h;rw[um,um,h x (hA ..)];exact bY _ fun y ai=>h y (k5 _ ai)
 exact key l [] h
theorem Jm{E:List bP}{r R:Nat}{p q x:aq}:kv (rz E r R) p q x=true↔x≠p∧x≠q∧Qs r p q x=true:=by
 unfold kv;simp only[ef,cU,and_assoc];exact Iff.rfl
theorem Dd(p q:aq)(bq:List aq):(gq p q bq).Perm bq:=by
 have:=Hc (decide (q.1<p.1)) (decide (q.2<p.2)) (fun _=>true) bq;rwa [List.filter_eq_self.2 (fun _ _=>rfl)] at this
theorem Mz{E:List bP}{r R:Nat}{p q:aq}{bq:List aq}(aA:bq.Nodup)(h:∀x∈bq,kv (rz E r R) p q x=true):gq p q bq=tq r bq p q:=by
 unfold tq OW;rw[EU,EU,←alF (f:=fun _=>true) (g:=sN (2^r*p.1) (2^r*p.2) (2^r*q.1) (2^r*q.2) r) (fun x ab=>((Jm.1 (h x ab)).2.2).symm)];have hp:=Dd p q bq;show gq p q bq=(gq p q bq).foldl (q0 p q) [];rw[OX (fx:=false) (fy:=false) (gq p q bq) [] (fun x ab=>⟨(Jm.1 (h x (hp.mem_iff.1 ab))).1,(Jm.1 (h x (hp.mem_iff.1 ab))).2.1⟩) (by simpa using hp.nodup_iff.2 aA)];rfl
theorem OC{R:aq→aq→Prop}:∀ {A B:List aq} {q:aq},gr R (A++q::B)→gr R (A++[q])∧gr R (q::B)
 | [],_,_,h=>⟨trivial,h⟩
 | [a],_,_,h=>⟨⟨h.1,trivial⟩,h.2⟩
 | a::b::A,B,q,h=>by
  have bY:=OC (A:=b::A) h.2;exact⟨⟨h.1,bY.1⟩,bY.2⟩
theorem ame{V:List aq}{j:Nat}{p q:aq}(hp:V[j]?=some p)(aj:V[j+1]?=some q):∃A B,V=A++p::q::B∧A.length=j∧∀l,dD V j l=A++p::(l++q::B):=by
 obtain⟨h1,aH⟩:=bt.1 hp;obtain⟨h2,aN⟩:=bt.1 aj;have hd:=aaC hp aj;refine⟨V.take j,V.drop (j+2),by rw[←hd,kh],by rw[ea];omega,fun l => ?_⟩;unfold dD;rw[kJ h1,aH,jP h2,aN];simp
theorem AO{R:aq→aq→Prop}{V l:List aq}{j:Nat}{p q:aq}(hp:V[j]?=some p)(aj:V[j+1]?=some q)(h:gr R V)(al:R p q→gr R (p::(l++[q]))):gr R (dD V j l):=by
 obtain⟨A,B,e,_,IW⟩:=ame hp aj;rw[IW];rw[e] at h;obtain⟨h1,h2⟩:=OC h;refine IC h1 ?_;have ar:=al h2.1;have:=IC (A:=p::l) (q:=q) (W:=B) ar h2.2;exact this
theorem xM.cut{E:List bP}{r R:Nat}(ao:r≤28){V:List aq}{D:List Int}(h:xM r V D){j:Nat}{p q:aq}{bq:List aq}(hp:V[j]?=some p)(aj:V[j+1]?=some q)(aA:bq.Nodup)(aw:∀x∈bq,kv (rz E r R) p q x=true):xM r (dD V j (gq p q bq)) (eL D j bq.length):=by
 obtain⟨h1,h2,ar,aJ,fb,kU⟩:=h;have hS:(0:Int)<2^r:=ju (by decide);have af:=(bt.1 aj).1;rw[Mz aA aw];have nD:=Ed ao bq p q;have hlen:(tq r bq p q).length=bq.length:=by rw[←Mz aA aw];exact(Dd p q bq).length_eq
 refine⟨fun aF => ?_,?_,fun v hv => ?_,?_,?_,?_⟩
 ·have:=congrArg List.length aF;rw[AV,List.length_nil] at this;omega
 ·rw[AV,IH (by omega),hlen];omega
 ·rcases OT hv with hv|hv
  ·exact ar v hv
  ·exact(nD.2.1 v hv).2.1
 ·exact AO hp aj aJ fun jm=>Zp ao bq p q jm
 ·refine fb.imp (fun h=>AO hp aj h fun jm=>Ee ao bq p q jm (fun x ab => ?_) (fun x y u w hu hw tT => ?_)) (fun h=>AO hp aj h fun jm=>Ee ao bq p q jm (fun x ab => ?_) (fun x y u w hu hw tT => ?_))
  ·obtain⟨u,hu⟩:=ab;exact(Ge hS hu.1.1 hu.1.2 hu.2.1).1 jm
  ·exact Gg hS hu.2.1 hw.2.1 tT jm
  ·obtain⟨u,hu⟩:=ab;exact((Ge hS hu.1.1 hu.1.2 hu.2.1).2 jm).symm
  ·exact Gf hS hu.2.1 hw.2.1 tT jm
 ·refine kU.imp (fun h=>AO hp aj h fun jm=>Ee ao bq p q jm (fun x ab => ?_) (fun x y u w hu hw tT => ?_)) (fun h=>AO hp aj h fun jm=>Ee ao bq p q jm (fun x ab => ?_) (fun x y u w hu hw tT => ?_))
  ·obtain⟨u,hu⟩:=ab;exact(Ge hS hu.1.1 hu.1.2 hu.2.2).1 jm
  ·exact Gg hS hu.2.2 hw.2.2 tT jm
  ·obtain⟨u,hu⟩:=ab;exact((Ge hS hu.1.1 hu.1.2 hu.2.2).2 jm).symm
  ·exact Gf hS hu.2.2 hw.2.2 tT jm
def ug(r:Nat)(e:bP)(d:Int)(t:Rat)(x:aq):Prop:=zl e.1.1 e.1.2 e.2.1 e.2.2 (2^r) (bx d*bx (2^r)) t x
theorem ahj{r:Nat}{e:bP}{d d':Int}(h:d≤d'){t:Rat}{x:aq}(ab:ug r e d t x):ug r e d' t x:=by
 refine ahl ?_ ab;have hS:(0:Rat)<bx (2^r):=rF (ju (by decide));exact Rat.mul_le_mul_of_nonneg_right (s4.2 h) (Rat.le_of_lt hS)
theorem OI{r:Nat}{e:bP}{p q:aq}{d:Int}{t1 t2:Rat}(Jp:t1≤t2)(Jq:t2≤1)(hp:ug r e d t1 p)(aj:ug r e d t2 q):∀(l:List aq) (la:Rat),0≤la→la≤1→(∀x∈l,∀u,r3 (2^r) p q u x→la≤u)→(∀x∈l,∃u,r3 (2^r) p q u x)→lh (decide ((2:Int)^r*q.1<2^r*p.1)) (decide ((2:Int)^r*q.2<2^r*p.2)) l→Ew (ug r e) (d+1) t2 (t1+la*(t2-t1)) l
 | [],la,aF,h1,_,_,_=>by
  show t1+la*(t2-t1)≤t2;have:=lE (show 0≤1-la by grind) (show 0≤t2-t1 by grind);grind
 | x::l,la,aF,h1,hu,hm,aV=>by
  have hS:(0:Int)<2^r:=ju (by decide);obtain⟨u,y2⟩:=hm x (hA ..);have ak:=ki.1 aV;have h2:=hu x (hA ..) u y2;have bD:=lE (show 0≤u-la by grind) (show 0≤t2-t1 by grind);have cp:=lE (show 0≤1-u by have:=y2.1.2;grind) (show 0≤t2-t1 by grind)
  have ab:ug r e (d+1) (t1+u*(t2-t1)) x:=by
   have:=ahk hp aj y2;unfold ug;rw[show bx (d+1)=bx d+1 by simp[bx,uw]];exact this
  exact⟨t1+u*(t2-t1),by grind,by grind,ab,OI Jp Jq hp aj l u y2.1.1 y2.1.2 (fun y ai w hw=>Sr hS y2 hw (ak.1 y ai)) (fun y ai=>hm y (k5 _ ai)) ak.2⟩
def sR(E:List bP)(r:Nat)(i:Nat)(c:List aq×List Int):Prop:=xM r c.1 c.2∧tw (ug r (E.getD i lq)) 0 c.1 c.2
theorem Gr{r:Nat}(a b:Int):uf (bx a) (bx b) (2*(bx (2^r)*bx (ca a r))) (bx 1*bx (2^r)) 0∧uf (bx b) (bx a) (2*(bx (2^r)*bx (ca a r))) (bx 1*bx (2^r)) 1:=by
 have eV:(0:Int)<2^r:=ju (by decide);obtain⟨g0,g1⟩:2*(ca a r*2^r)≤2*a+2^r∧2*a+2^r<2*(ca a r*2^r)+2*2^r:=abU eV;have c5:=s4.2 g0;have q1:=LZ.2 g1;have z:bx 1=1:=by simp[bx]
 rw[z];simp only[bx,uw,Rat.intCast_mul] at c5 q1 ⊢;generalize ((2^r:Int):Rat)=S at *;generalize ((ca a r:Int):Rat)=g at *;generalize ((a:Int):Rat)=a' at *;generalize ((b:Int):Rat)=b0 at *;have aN:((2:Int):Rat)=2:=by simp
 rw[aN] at c5 q1;refine⟨⟨?_,?_⟩,?_,?_⟩ <;> grind
theorem aaa{r:Nat}(e:bP):tw (ug r e) 0 (hx (lU r e.1) (lU r e.2)).1 (hx (lU r e.1) (lU r e.2)).2 :=
 Z9 ⟨(Gr e.1.1 e.2.1).1,(Gr e.1.2 e.2.2).1⟩ ⟨(Gr e.2.1 e.1.1).2,(Gr e.2.2 e.1.2).2⟩
theorem ahe{r:Nat}{p q:aq}(hp:dZ r p.1 p.2=true)(aj:dZ r q.1 q.2=true):xM r (hx p q).1 (hx p q).2:=by
 unfold hx
 split
 ·exact⟨by simp,rfl,fun v hv=>by rw[jO.1 hv];exact hp,trivial,.inl trivial,.inl trivial⟩
 ·rename_i cA;refine⟨by simp,rfl,fun v hv => ?_,⟨cA,trivial⟩,?_,?_⟩
  ·simp only[fi,sZ,or_false] at hv;rcases hv with rfl|rfl
   ·exact hp
   ·exact aj
  ·rcases Int.le_total p.1 q.1 with h|h
   ·exact .inl ⟨h,trivial⟩
   ·exact .inr ⟨h,trivial⟩
  ·rcases Int.le_total p.2 q.2 with h|h
   ·exact .inl ⟨h,trivial⟩
   ·exact .inr ⟨h,trivial⟩
theorem Em{X W a b n d:Int}(gh:0<W)(hd:0<d)(aA:0≤n∧n≤d)(e:X*d=W*(a*(d-n)+b*n)){lo hi:Int}(aV:lo≤a∧a≤hi)(aa:lo≤b∧b≤hi):lo*W≤X∧X≤hi*W:=by
 have a1:=hR (show 0≤a-lo by omega) (show 0≤d-n by omega);have a2:=hR (show 0≤hi-a by omega) (show 0≤d-n by omega);have b1:=hR (show 0≤b-lo by omega) aA.1;have b2:=hR (show 0≤hi-b by omega) aA.1;have s1:lo*d≤a*(d-n)+b*n:=by grind
 have s2:a*(d-n)+b*n≤hi*d:=by grind
 have t1:=s0 s1 (pF gh);have t2:=s0 s2 (pF gh);rw[←e] at t1 t2;refine⟨Int.le_of_mul_le_mul_right ?_ hd,Int.le_of_mul_le_mul_right ?_ hd⟩
 ·rw[show lo*W*d=W*(lo*d) by grind];exact t1
 ·rw[show hi*W*d=W*(hi*d) by grind];exact t2
theorem LQ{r:Nat}(ao:r≤28){a b:bP}(h1:gM a.1=true)(h2:gM a.2=true){x:aq}(h:xC r a b=some x):dZ r x.1 x.2=true:=by
 unfold xC at h
 split at h
 ·rename_i ae;cases h;obtain⟨X,Y,W,W',e⟩:=F3 ae;obtain⟨q1,q2,q3,_⟩:=GK (r:=r) e;obtain⟨_,_,⟨n,d,g1,g2,g3,g4⟩,_⟩:=Cp e;have cO:=ox.1 h1;have cP:=ox.1 h2;obtain⟨c1,c2⟩:=Em q2 g1 g2 g3 (lo := -134217728) (hi:=134217727) (by omega) (by omega);obtain⟨jg,AK⟩:=Em q2 g1 g2 g4 (lo := -134217728) (hi:=134217727) (by omega) (by omega);rw[q3];unfold dZ;rw[GN ao q2 c1 c2,GN ao q2 jg AK];rfl
 ·cases h
theorem OV{r:Nat}{l m:aq×aq}(h1:dZ r l.1.1 l.1.2=true)(h2:dZ r l.2.1 l.2.2=true){x:aq}(h:tA r l m=some x):dZ r x.1 x.2=true:=by
 have hS:(0:Int)<2^r:=ju (by decide);unfold tA at h
 split at h
 ·rename_i ae;cases h;obtain⟨X,Y,W,W',e⟩:=F3 ae.1;obtain⟨q1,q2,q3,q4⟩:=GK (r:=r) e;obtain⟨_,_,⟨n,d,g1,g2,g3,g4⟩,_⟩:=Cp e;generalize jK r (ic (gW r l) (gW r m))=x at *;obtain⟨⟨i1,i2⟩,i3,i4⟩:=q4;have v1:=Ug hS q2 g1 g2 g3 i1 i2;have v2:=Ug hS q2 g1 g2 g4 i3 i4;unfold dZ at h1 h2 ⊢;rw[ef] at h1 h2 ⊢;refine⟨?_,?_⟩
  ·rcases Int.le_total l.1.1 l.2.1 with h|h
   ·exact Dl h1.1 h2.1 (v1.1 h).1 (v1.1 h).2
   ·exact Dl h2.1 h1.1 (v1.2 h).1 (v1.2 h).2
  ·rcases Int.le_total l.1.2 l.2.2 with h|h
   ·exact Dl h1.2 h2.2 (v2.1 h).1 (v2.1 h).2
   ·exact Dl h2.2 h1.2 (v2.2 h).1 (v2.2 h).2
 ·cases h
theorem akl{E:List bP}{r R:Nat}(ao:r≤28)(fA:jG E=true):lm (rz E r R) (sR E r) where
 nodup i c h:=h.1.nodup
 new i hi:=⟨ahe (Gm ao (qn fA i).1) (Gm ao (qn fA i).2),aaa _⟩
 split i c j p q bq h hlen hp aj aA _ aw:=by
  refine⟨h.1.cut ao hp aj aA aw,?_⟩;have ad2:=Dd p q bq;have e:bq.length=(gq p q bq).length:=ad2.length_eq.symm;show tw _ _ (dD c.1 j (gq p q bq)) (eL c.2 j bq.length);rw[e];refine OJ (fun d t x ab=>ahj (by omega) ab) (fun d t1 t2 Jp Jq h1 h2 => ?_) c.1 c.2 j 0 hlen hp aj h.2;have nD:=Ed ao bq p q;rw[Mz aA aw];have:=OI Jp Jq h1 h2 (tq r bq p q) 0 Rat.le_refl (by decide) (fun x ab u hu=>hu.1.1) (fun x ab=>(nD.2.1 x ab).2.2) nD.1;rwa [show t1+0*(t2-t1)=t1 by grind] at this
 hD:=Dd
 E2 i _:=⟨Gm ao (qn fA i).1,Gm ao (qn fA i).2⟩
 PO i j x _ _ h:=LQ ao (qn fA i).1 (qn fA i).2 h
 PM p q fH cH x h1 h2 _ _ h:=OV (l:=(p,q)) (m:=(fH,cH)) h1 h2 h
 cut hot p q fH cH x aw _ _ h1 h2 ar aJ bR fb h:=(aky E ao R).aam hot p q fH cH x aw h1 h2 ar aJ bR fb h
variable{α:Type} [DecidableEq α]
abbrev jc(α:Type):=List (List α×List Int)
end Go.Proofs.YtklpfooafbjnpaaGreat.bw
namespace Go.Proofs.YtklpfooafbjnpaaGreat.bw
variable{α:Type} [DecidableEq α]
def news(o:cT α):jc α:=(List.range o.n).map fun k=>hx (o.P k) (o.Q k)
theorem ada(o:cT α){s:bf α}(aa:iN o s)(q:α)(aj:o.gI q):(cS o s q=fo s 5 0 0∧s.hot.length=o.R∧q∉s.hot) ∨
  ∃eA,cS o s q={s with hot:=eA}∧iN o ({s with hot:=eA}:bf α)∧(∀x,x∈eA↔(x∈s.hot∨x=q)):=by
 have:=aa.room;unfold cS
 by_cases h:q∈s.hot
 ·rw[if_pos h];exact .inr ⟨s.hot,rfl,aa,fun x=>⟨.inl,fun aZ=>aZ.elim id fun e=>by rw[e];exact h⟩⟩
 ·rw[if_neg h]
  by_cases h2:s.hot.length<o.R
  ·rw[if_pos h2];refine .inr ⟨s.hot++[q],rfl,⟨?_,?_,fun x ab=>(kg.1 ab).elim (aa.hn x) fun h=>by rw[jO.1 h];exact aj⟩,fun x=>by simp⟩
   ·show (s.hot++[q]).Nodup;refine List.nodup_append.2 ⟨aa.nd,by simp,fun a aV b cQ => ?_⟩;rw[jO] at cQ;subst cQ;exact fun e=>h (by rw[←e];exact aV)
   ·show (s.hot++[q]).length≤o.R;rw[cZ,List.length_singleton];omega
  ·rw[if_neg h2];exact .inl ⟨rfl,by omega,h⟩
end Go.Proofs.YtklpfooafbjnpaaGreat.bw
namespace Go.Proofs.YtklpfooafbjnpaaGreat.bw
variable{α:Type} [DecidableEq α]
theorem KL(o:cT α):∀(m n:Nat) (s:bf α),hq o (m+n) s=hq o n (hq o m s)
 | 0,n,s=>by rw[iF];rfl
 | m+1,n,s=>by
  rw[show m+1+n=(m+n)+1 by omega];exact KL o m n (dn o s)
structure DR (o:cT α) (z:α):Prop where
 P:∀i,i<o.n→o.P i=z∧o.Q i=z
 mY:∀i j x,i<j→j<o.n→o.mY i j=some x→x=z
 room:0<o.R
structure One (o:cT α) (z:α) (m:Nat) (s:bf α):Prop where
 hot:∀x∈s.hot,x=z
 left:(s.ph=0∧(o.n-s.I)+o.n*o.n≤m)∨(s.ph=1∧(o.n-s.I)*o.n-s.J≤m)∨(s.ph=4∧s.hot=[z]∧s.ch=news o)
theorem Qm{o:cT α}{z:α}{s:bf α}(h1:DR o z)(FR:o.gI z)(aa:iN o s)(h:∀x∈s.hot,x=z):∃eA,cS o s z={s with hot:=eA}∧iN o ({s with hot:=eA}:bf α)∧eA=[z]:=by
 have mR:∀l:List α,l.Nodup→(∀x∈l,x=z)→z∈l→l=[z]:=fun l aA al aT=>by
  have:=Cy aA (m:=[z]) fun x ab=>by rw[al x ab];simp
  match l,aT,this with
  | [a],_,_=>rw[al a (by simp)]
  | a::b::l,_,aZ=>simp at aZ
 rcases ada o aa z FR with ⟨_,f,g⟩|⟨h2,e,b2,m2⟩
 ·exfalso;have:=h1.room;have hlen:0<s.hot.length:=by omega
  obtain⟨y,ai⟩:=List.exists_mem_of_length_pos hlen;exact g (by rw[←h y ai];exact ai)
 ·exact⟨h2,e,b2,mR h2 b2.nd (fun x ab=>((m2 x).1 ab).elim (h x) id) ((m2 z).2 (.inr rfl))⟩
theorem R2{o:cT α}{z:α}(h1:DR o z)(s:bf α):mq o s=fo {s with ch:=news o} 4 0 0:=by
 have hlen:∀c∈news o,c.1.length=1:=fun c ak=>by
  obtain⟨k,ae,rfl⟩:=fS.1 ak;obtain⟨aH,aN⟩:=h1.P k (nO.1 ae);rw[aH,aN];unfold hx;rw[if_pos rfl];rfl
 have BW:∀(cs:jc α) i,(∀c∈cs,c.1.length=1)→rM cs i 0=none:=by
  intro cs
  induction cs with
  | nil=>intro i _;rfl
  | cons c cs bY =>
   intro i h;unfold rM;rw[if_neg (by rw[h c (hA ..)];decide)];exact bY _ fun c ak=>h c (k5 _ ak)
 have al:bi (news o)=[]:=List.flatMap_eq_nil_iff.2 fun c ak=>List.length_eq_zero_iff.1 (by rw[sJ,hlen c ak]);show mx (fo {s with ch:=news o} 2 0 0)=_;unfold mx;show (match rM ((news o).drop 0) 0 0 with|some B8=>_|none=>if (bi (news o)).length<2 then _ else _)=_;rw[List.drop_zero,BW _ 0 hlen,al];rfl
theorem VK{o:cT α}{ok:Nat→List α×List Int→Prop}{z:α}{m:Nat}(ae:lm o ok)(h1:DR o z){s:bf α}(hi:iO o ok s)(h:One o z (m+1) s):One o z m (dn o s):=by
 rcases h.left with ⟨hp,al⟩|⟨hp,al⟩|⟨hp,al,ak⟩
 ·have aF:HP o s:=by
   obtain⟨_,aK|aK|aK|aK|aK|aK⟩:=hi
   ·exact aK
   all_goals · have:=aK.ph;omega
  have bh:=aF.I;have e:dn o s=q5 o s:=by simp only[dn,hp]
  rw[e];obtain⟨aH,aN⟩:=h1.P s.I bh;have FR:o.gI z:=by rw[←aH];exact(ae.E2 _ bh).1
  obtain⟨a1,f1,b1,g1⟩:=Qm h1 FR hi.1 h.hot;subst g1;obtain⟨a2,f2,b2,g2⟩:=Qm h1 FR b1 (fun x ab=>jO.1 ab);subst g2;unfold q5;rw[aH,aN,f1,f2,if_neg (show ¬s.ph=5 by omega),if_neg (show ¬s.ph=5 by omega),R2 h1]
  split
  ·exact⟨fun x ab=>jO.1 ab,.inl ⟨hp,show (o.n-(s.I+1))+o.n*o.n≤m by omega⟩⟩
  ·split
   ·exact⟨fun x ab=>jO.1 ab,.inr (.inr ⟨rfl,rfl,rfl⟩)⟩
   ·exact⟨fun x ab=>jO.1 ab,.inr (.inl ⟨rfl,show (o.n-0)*o.n-1≤m by rw[Nat.sub_zero];omega⟩)⟩
 ·have aF:Inv1 o s:=by
   obtain⟨_,aK|aK|aK|aK|aK|aK⟩:=hi
   ·have:=aK.ph;omega
   ·exact aK
   all_goals · have:=aK.ph;omega
  have Qq:s.hot=[z]:=by
   have aA:0<o.n:=by have:=aF.J;omega
   have aT:z∈s.hot:=by rw[←(h1.P 0 aA).1];exact(aF.zW 0 aA).1
   have:=Cy hi.1.nd (m:=[z]) fun x ab=>by rw[h.hot x ab];simp
   have dw:=h.hot;generalize s.hot=l at aT this dw
   match l,aT,this with
   | [a],_,_=>rw[dw a (by simp)]
   | a::b::l,_,aZ=>simp at aZ
  have e:dn o s=rA o s:=by simp only[dn,hp]
  have key:iS o s (o.mY s.I s.J)=s:=by
   cases ad5:o.mY s.I s.J with
   | none=>rfl
   | some x =>
    have:=h1.mY _ _ x aF.wq aF.J ad5;subst this;show cS o s x=s;unfold cS;rw[if_pos (by rw[Qq];simp)]
  obtain⟨fG,gC⟩:=Lu aF.wq aF.J;rw[e];unfold rA;rw[key,if_neg (show ¬s.ph=5 by omega),R2 h1]
  split
  ·rename_i a7;have:=(gC a7).2;exact⟨h.hot,.inr (.inl ⟨hp,show (o.n-(cy o.n s.I s.J).1)*o.n-(cy o.n s.I s.J).2≤m by omega⟩)⟩
  ·exact⟨h.hot,.inr (.inr ⟨rfl,Qq,rfl⟩)⟩
 ·have e:dn o s=s:=by simp only[dn,hp]
  rw[e];exact⟨h.hot,.inr (.inr ⟨hp,al,ak⟩)⟩
end Go.Proofs.YtklpfooafbjnpaaGreat.bw
namespace Go.Proofs.YtklpfooafbjnpaaGreat.bw
theorem E4{v:Int}(h : -134217728≤v∧v<134217728):ca v 28=0:=by
 unfold ca;have e:(2:Int)^28=268435456:=by decide
 rw[e];omega
theorem UO{E:List bP}{R:Nat}(fA:jG E=true)(an:0<R):DR (rz E 28 R) (0,0) where
 P i hi:=by
  have h:=qn fA i;have h1:=ox.1 h.1;have h2:=ox.1 h.2;exact⟨Prod.ext (E4 h1.1) (E4 h1.2),Prod.ext (E4 h2.1) (E4 h2.2)⟩
 mY i j x gA af hp:=by
  have hp:xC 28 (E.getD i lq) (E.getD j lq)=some x:=hp;have h:=qn fA i;have g:=LQ (by decide) h.1 h.2 hp;have h1:=ox.1 h.1;have h2:=ox.1 h.2;unfold xC at hp
  split at hp
  ·rename_i ae;cases hp;obtain⟨X,Y,W,W',e⟩:=F3 ae;obtain⟨q1,q2,q3,_⟩:=GK (r:=28) e;obtain⟨_,_,⟨n,d,g1,g2,g3,g4⟩,_⟩:=Cp e;obtain⟨c1,c2⟩:=Em q2 g1 g2 g3 (lo := -134217728) (hi:=134217727) (by omega) (by omega);obtain⟨jg,AK⟩:=Em q2 g1 g2 g4 (lo := -134217728) (hi:=134217727) (by omega) (by omega);have hS:(0:Int)<2^28:=by decide
   have jU:fR (2^28) (-134217728) 1=0:=by decide
   have z2:fR (2^28) 134217727 1=0:=by decide
   have m1:=zt hS (by decide) q2 (X := -134217728) (W:=1) (X':=X) (by omega);have m2:=zt hS q2 (by decide) (X:=X) (X':=134217727) (W':=1) (by omega);have m3:=zt hS (by decide) q2 (X := -134217728) (W:=1) (X':=Y) (by omega);have m4:=zt hS q2 (by decide) (X:=Y) (X':=134217727) (W':=1) (by omega);rw[jU] at m1 m3;rw[z2] at m2 m4;rw[q3];exact Prod.ext (by show fR _ _ _=0;omega) (by show fR _ _ _=0;omega)
  ·cases hp
 room:=an
end Go.Proofs.YtklpfooafbjnpaaGreat.bw
namespace Go.Proofs.YtklpfooafbjnpaaGreat
open Go.RowKit
abbrev oF(V:List aq)(D:List Int):ag := .w (.agg [.p (b4 2 V.length (bZ V)),.p (b4 1 D.length (cK D))])
abbrev xn(V:List aq)(D:List Int):List AC:=[.p (b4 2 V.length (bZ V)),.p (b4 1 D.length (cK D))]
abbrev Ep(b:Bool):AC := .p (pf [.c (.bool (!b))])
abbrev x0(l d:Bool):ag := .w (.one (.p (l4 (.func 199) [Ep l,Ep d])))
theorem ahU{a1 a2 b1 b2:Int}:aP ah 141 [bn a1 a2,bn b1 b2] (x0 (decide (b1<a1)) (decide (b2<a2))):=by
 have aH:decide (b1≥a1) = !decide (b1<a1):=by by_cases h:b1<a1 <;> simp[h] <;> omega
 have aN:decide (b2≥a2) = !decide (b2<a2):=by by_cases h:b2<a2 <;> simp[h] <;> omega
 refine LN (f:=141) Tryz.func141 rfl rfl rfl rfl ?_;refine Eh (wE ?_);(refine eI ?_);refine Eh (wE ?_);(refine eI ?_);refine Eg 5 _ rfl rfl ?_;refine Eg 6 _ rfl rfl ?_;refine wE ?_;(repeat first|refine dd ?_|refine Ea (xs:=[_,_]) (cs:=[_,_]) rfl rfl rfl rfl ?_)
 ((refine bk rfl (aX rfl aM) ?_))
 exact ag.aU.of_eq (by rw[aH,aN];rfl)
theorem ait{x y z w:Int}{l d r:Bool}(ao:AB x y z w l d=r):aP ah 199 [bn x y,bn z w,.w (.one (Ep l)),.w (.one (Ep d))] (bl r):=by
 have cs:(¬x=z∧z<x∧r=l)∨(¬x=z∧¬z<x∧r = !l)∨(x=z∧¬y=w∧w<y∧r=d)∨(x=z∧¬y=w∧¬w<y∧r = !d)∨(x=z∧y=w∧r=false):=by
  rw[←ao];unfold AB
  by_cases h1:x<z <;> by_cases h2:z<x <;> by_cases ar:y<w <;> by_cases aJ:w<y <;> simp[h1,h2,ar,aJ] <;> omega
 clear ao;rcases cs with ⟨h1,h2,rfl⟩|⟨h1,h2,rfl⟩|⟨h1,ar,h2,rfl⟩|⟨h1,ar,h2,rfl⟩|⟨h1,ar,rfl⟩
 all_goals
  refine bp (f:=199) Tryz.func199 rfl rfl rfl rfl ?_;(repeat first|refine dd ?_|(with_reducible apply YC);(iterate 4 rfl);kernel_rfl|(with_reducible apply bT (c:=true));rfl;rfl;((simp only[qW];(omega)))|(with_reducible apply bT (c:=false));rfl;rfl;((simp only[qW];(omega))))
  ((refine bk rfl (aX rfl aM) ?_))
  first
  | exact ag.aU.refl _
  | exact ag.aU.of_eq (by rw[b8 (show ¬x<z by omega),Bool.false_beq,Bool.not_not];rfl)
  | exact ag.aU.of_eq (by rw[b5 (show x<z by omega),Bool.true_beq];rfl)
  | exact ag.aU.of_eq (by rw[b8 (show ¬y<w by omega),Bool.false_beq,Bool.not_not];rfl)
  | exact ag.aU.of_eq (by rw[b5 (show y<w by omega),Bool.true_beq];rfl)
section
variable{P:Program}{s:aB}{ops:Array Oper}{K:aB→Prop}{rest:List Oper}{ty:Nat}{pos:String}{after:Array Edge}{guard:Option (Nat×Bool)}{d:Nat}
theorem Y7{dk dQ:Nat}{x y:Operand}{a b:Int}(hw:want ops ⟨some d,.binOp .quo dk x y dQ,ty,pos,after,guard⟩ s=some true)(ab:s.look x=some (aQ (.int .i64 a)))(ai:s.look y=some (aQ (.int .i64 b)))(aF:0≤a)(h1:0<b)(h2:a≤9223372036854775807)(hd:Nat.blt d s.n=true)(h:bm P ops K rest (s.put (some d) (aQ (.int .i64 (a/b))))):bm P ops K (⟨some d,.binOp .quo dk x y dQ,ty,pos,after,guard⟩::rest) s:=by
 refine qU hw ab ai (fun W => ?_) rfl hd h;have aa:b≠0:=by omega
 have e:a.tdiv b=a/b:=Int.tdiv_eq_ediv_of_nonneg aF
 have aN:IntKind.i64.wrap (a/b)=a/b:=jo (by
  have:=o8 aF (show 0≤b by omega);have:=Int.ediv_le_self b aF;omega)
 simp[binOp,Op.intDiv,aa,e,aN]
end
theorem Rx:bZ []=[]:=rfl
theorem Ry(p:Int×Int)(l:List (Int×Int)):((bZ (p::l)).drop ((1:Int).toNat*2)).take (l.length*2)=bZ l:=by
 show ((bZ (p::l)).drop 2).take (l.length*2)=bZ l;rw[←ot];simp[bZ]
theorem KK(p:Int×Int)(l:List (Int×Int)):bZ l++[.c (.int .i64 p.1),.c (.int .i64 p.2)]=bZ (l++[p]):=by rw[ua];rfl
theorem ae2(l:List (Int×Int))(k:Nat):((bZ l).drop (0*2)).take ((l.take k).length*2)=bZ (l.take k):=by
 have e:bZ l=bZ (l.take k)++bZ (l.drop k):=by rw[←ua,kh]
 rw[e,Nat.zero_mul,List.drop_zero,←ot];simp
theorem ae1(l:List (Int×Int))(k:Nat)(ae:k≤l.length):((bZ l).drop (k*2)).take ((l.drop k).length*2)=bZ (l.drop k):=by
 have e:bZ l=bZ (l.take k)++bZ (l.drop k):=by rw[←ua,kh]
 have aN:k*2=(bZ (l.take k)).length:=by rw[ot,ea,qA ae]
 rw[e,aN,List.drop_left,←ot,List.take_length]
abbrev jL(v:Value)(l:List (Int×Int)):bF:=⟨50,2,v,l.length,bZ l⟩
instance an8:nm ah 41 50 2 16:=⟨by kernel_rfl⟩
def XD(M:List (Int×Int))(lt:Int×Int→Int×Int→Bool)(sK:ag)(K:Nat)(m:Nat)(R:aE)(az:List (Nat×ag))(aS:List (Nat×List AC)):Prop :=
 ∃(a b out:List (Int×Int)) (v:Value),m=a.length+b.length∧out++e9 lt a b=M∧out.length+m=K∧R=br 0 (jL v out)∧az=[(0,fD a),(1,fD b),(2,sK),(7,aQ v)]∧aS=[]
theorem LH{fx fy:Bool}{a b:List (Int×Int)}(aV:a.length≤100000)(aa:b.length≤100000) :
  aP ah 198 [fD a,fD b,x0 fx fy] (fD (e9 (ec fx fy) a b)):=by
 refine bp (f:=198) Tryz.func198 rfl rfl rfl rfl ?_;refine sf ?_;(refine aR ?_);refine yY (l:=0) (c':=a.length+b.length) 0 rfl rfl rfl rfl (dq _) rfl rfl ?h2 (js (by omega)) rfl (fun v hv => ?_)
 case h2=>omega
 (refine aR ?_);refine jv 52 (XD (e9 (ec fx fy) a b) (ec fx fy) (x0 fx fy) (a.length+b.length)) (a.length+b.length) (br 0 (jL v [])) _ _ ⟨a,b,[],v,rfl,rfl,iF _,rfl,rfl,rfl⟩ (k8 _ _ _) rfl ⟨rfl,rfl,rfl,rfl,trivial⟩ trivial rfl ?_;rintro m R az aS ⟨a',b0,out,v,rfl,gd,fc,rfl,rfl,rfl⟩ bC;clear bC hv
 by_cases LW:0<a'.length
 ·by_cases LX:0<b0.length
  ·have Uj:(a'.length:Int)>0:=by omega
   have ajP:(b0.length:Int)>0:=by omega
   obtain⟨⟨x,n⟩,a2,rfl⟩:=List.exists_cons_of_length_pos LW;obtain⟨⟨y,m⟩,b2,rfl⟩:=List.exists_cons_of_length_pos LX;have hh:((bZ ((x,n)::a2)).drop ((0:Int).toNat*2)).take 2=[.c (.int .i64 x),.c (.int .i64 n)]:=oR (j:=0) (i:=0) rfl rfl;have we:((bZ ((y,m)::b2)).drop ((0:Int).toNat*2)).take 2=[.c (.int .i64 y),.c (.int .i64 m)]:=oR (j:=0) (i:=0) rfl rfl;have a8:=ait (x:=y) (y:=m) (z:=x) (w:=n) (l:=fx) (d:=fy) rfl;rw[show AB y m x n fx fy=ec fx fy (y,m) (x,n) from rfl] at a8;cases a7:ec fx fy (y,m) (x,n) with
   | true =>
    rw[a7] at a8;have aH:((y,m)::b2).length-(1:Int).toNat=b2.length:=rfl;have aN:=Ry (y,m) b2
    have Jz:(out++[(y,m)])++e9 (ec fx fy) ((x,n)::a2) b2=e9 (ec fx fy) a b:=by
     rw[←gd,e9,if_pos a7,hz];rfl
    have pt:(out++[(y,m)]).length=out.length+1:=cZ;have iy:((y,m)::b2).length=b2.length+1:=rfl;have adB:((x,n)::a2).length=a2.length+1:=rfl;(repeat first|(with_reducible apply dI (id:=3) [0,1,2,3,4,5,6,7]);kernel_rfl;kernel_rfl;rfl|(with_reducible apply dI (id:=4) [0,1,2,3,6,7,4,5,8,9]);kernel_rfl;kernel_rfl;rfl|refine cc ?_|(with_reducible apply eY);rfl;(repeat first|refine iI ?_|refine fs ?_|(with_reducible apply bT (c:=true));rfl;rfl;(exact b5 (by omega)));(with_reducible apply dR));refine mT 0 rfl rfl rfl rfl ?q1 ?q2 rfl rfl (fun ba bU => ?_)
    case q1=>exact js (by show out.length+1≤1000000;omega)
    case q2=>show (out.length+1)*16≤140737488355328;omega
    (refine aR ?_)
    have ck:jL ba (out++[(y,m)])=⟨50,2,ba,out.length+1,bZ out++[.c (.int .i64 y),.c (.int .i64 m)]⟩:=by
     unfold jL;rw[←KK,cZ];rfl
    refine⟨_,br 0 (jL ba (out++[(y,m)])),_,_,?_,⟨(x,n)::a2,b2,out++[(y,m)],ba,rfl,Jz,?_,rfl,rfl,rfl⟩,by rw[ck];exact k8 _ _ _,rfl,⟨rfl,rfl,rfl,rfl,trivial⟩,trivial,rfl⟩
    ·omega
    ·omega
   | false =>
    rw[a7] at a8;have aH:((x,n)::a2).length-(1:Int).toNat=a2.length:=rfl;have aN:=Ry (x,n) a2
    have Jz:(out++[(x,n)])++e9 (ec fx fy) a2 ((y,m)::b2)=e9 (ec fx fy) a b:=by
     rw[←gd,e9,if_neg (by rw[a7];decide),hz];rfl
    have pt:(out++[(x,n)]).length=out.length+1:=cZ;have iy:((y,m)::b2).length=b2.length+1:=rfl;have adB:((x,n)::a2).length=a2.length+1:=rfl;(repeat first|(with_reducible apply dI (id:=3) [0,1,2,3,4,5,6,7]);kernel_rfl;kernel_rfl;rfl|(with_reducible apply dI (id:=5) [0,1,2,3,6,7,4,5,8,9]);kernel_rfl;kernel_rfl;rfl|refine cc ?_|(with_reducible apply eY);rfl;(repeat first|refine iI ?_|refine fs ?_|(with_reducible apply bT (c:=true));rfl;rfl;(exact b5 (by omega)));(with_reducible apply dR));refine mT 0 rfl rfl rfl rfl ?q1 ?q2 rfl rfl (fun ba bU => ?_)
    case q1=>exact js (by show out.length+1≤1000000;omega)
    case q2=>show (out.length+1)*16≤140737488355328;omega
    (refine aR ?_)
    have ck:jL ba (out++[(x,n)])=⟨50,2,ba,out.length+1,bZ out++[.c (.int .i64 x),.c (.int .i64 n)]⟩:=by
     unfold jL;rw[←KK,cZ];rfl
    refine⟨_,br 0 (jL ba (out++[(x,n)])),_,_,?_,⟨a2,(y,m)::b2,out++[(x,n)],ba,rfl,Jz,?_,rfl,rfl,rfl⟩,by rw[ck];exact k8 _ _ _,rfl,⟨rfl,rfl,rfl,rfl,trivial⟩,trivial,rfl⟩
    ·omega
    ·omega
  ·have Uj:(a'.length:Int)>0:=by omega
   have ajP:¬(b0.length:Int)>0:=by omega
   have acG:b0=[]:=List.length_eq_zero_iff.1 (by omega);have aT:(a'.length:Int)=a'.length:=rfl;(repeat first|refine cc ?_|(with_reducible apply eY);rfl;(repeat first|refine iI ?_|(with_reducible apply bT (c:=true));rfl;rfl;(exact b5 (by omega)));(with_reducible apply dR));refine mT 0 rfl rfl rfl rfl ?q1 ?q2 (ub _) rfl (fun ba bU => ?_)
   case q1=>exact js (by show out.length+a'.length≤1000000;omega)
   case q2=>show (out.length+a'.length)*16≤140737488355328;omega
   (refine aR ?_);refine QS (k:=(e9 (ec fx fy) a b).length) (zs:=bZ (e9 (ec fx fy) a b)) 0 rfl rfl rfl rfl ?p1 ?p2 ?p3 ?p4 (ub _) rfl ?_
   case p1=>exact js (by show (out.length+a'.length)+b0.length≤1000000;omega)
   case p2=>show ((out.length+a'.length)+b0.length)*16≤140737488355328;omega
   case p3=>show (out.length+a'.length)+b0.length=(e9 (ec fx fy) a b).length;rw[Li];omega
   case p4=>show (bZ out++bZ a')++bZ b0=bZ (e9 (ec fx fy) a b);rw[←gd,acG,Lj,←ua,Rx,nb]
   (refine aR ?_)
   ((refine bk rfl (aX rfl aM) ?_))
   exact ag.aU.refl _
 ·have Uj:¬(a'.length:Int)>0:=by omega
  have acy:a'=[]:=List.length_eq_zero_iff.1 (by omega);(repeat first|refine cc ?_|(with_reducible apply eY);rfl;(repeat first|refine iI ?_|(with_reducible apply bT (c:=false));rfl;rfl;(exact b8 (by omega)));(with_reducible apply dR));refine mT 0 rfl rfl rfl rfl ?q1 ?q2 (ub _) rfl (fun ba bU => ?_)
  case q1=>exact js (by show out.length+a'.length≤1000000;omega)
  case q2=>show (out.length+a'.length)*16≤140737488355328;omega
  (refine aR ?_);refine QS (k:=(e9 (ec fx fy) a b).length) (zs:=bZ (e9 (ec fx fy) a b)) 0 rfl rfl rfl rfl ?p1 ?p2 ?p3 ?p4 (ub _) rfl ?_
  case p1=>exact js (by show (out.length+a'.length)+b0.length≤1000000;omega)
  case p2=>show ((out.length+a'.length)+b0.length)*16≤140737488355328;omega
  case p3=>show (out.length+a'.length)+b0.length=(e9 (ec fx fy) a b).length;rw[Li];omega
  case p4=>show (bZ out++bZ a')++bZ b0=bZ (e9 (ec fx fy) a b);rw[←gd,acy,agO,Rx,nb,←ua]
  (refine aR ?_)
  ((refine bk rfl (aX rfl aM) ?_))
  exact ag.aU.refl _
theorem aip{fx fy:Bool} :
  ∀(N:Nat) (l:List (Int×Int)),l.length≤N→N≤100000→aP ah 140 [fD l,x0 fx fy] (fD (jR (ec fx fy) l)):=by
 intro N
 induction N with
 | zero =>
  intro l h1 h2;have eU:=LH (fx:=fx) (fy:=fy) (a:=l) (b:=[]) (by omega) (by simp);rw[Lj] at eU
  have a8:aP ah 198 [fD l,MO,x0 fx fy] (fD l):=TU eU rfl rfl (by
   intro i x y ab ai
   match i with
   | 0=>cases ab;cases ai;exact .refl _
   | 1=>cases ab;cases ai;exact nil_le 2
   | 2=>cases ab;cases ai;exact .refl _
   | i+3=>simp at ab)
  have q1:(l.length:Int)<2:=by omega
  have e:jR (ec fx fy) l=l:=by rw[jR,dif_pos (by omega)]
  rw[e];clear eU;refine bp (f:=140) Tryz.func140 rfl rfl rfl rfl ?_;(refine cI ?_)
  ((refine bk rfl (aX rfl aM) ?_))
  exact ag.aU.refl _
 | succ N bY =>
  intro l h1 h2
  by_cases q:l.length<2
  ·have eU:=LH (fx:=fx) (fy:=fy) (a:=l) (b:=[]) (by omega) (by simp);rw[Lj] at eU
   have a8:aP ah 198 [fD l,MO,x0 fx fy] (fD l):=TU eU rfl rfl (by
    intro i x y ab ai
    match i with
    | 0=>cases ab;cases ai;exact .refl _
    | 1=>cases ab;cases ai;exact nil_le 2
    | 2=>cases ab;cases ai;exact .refl _
    | i+3=>simp at ab)
   have q1:(l.length:Int)<2:=by omega
   have e:jR (ec fx fy) l=l:=by rw[jR,dif_pos (by omega)]
   rw[e];clear eU bY;refine bp (f:=140) Tryz.func140 rfl rfl rfl rfl ?_;(refine cI ?_)
   ((refine bk rfl (aX rfl aM) ?_))
   exact ag.aU.refl _
  ·have q1:¬(l.length:Int)<2:=by omega
   have e:jR (ec fx fy) l=e9 (ec fx fy) (jR (ec fx fy) (l.take (l.length/2))) (jR (ec fx fy) (l.drop (l.length/2))):=by rw[jR,dif_neg q]
   have a8:=bY (l.take (l.length/2)) (by simp;omega) (by omega);have bL:=bY (l.drop (l.length/2)) (by simp;omega) (by omega);have l1:=Hf (ec fx fy) _ (l.take (l.length/2)) (cF _);have l2:=Hf (ec fx fy) _ (l.drop (l.length/2)) (cF _);have eb:=LH (fx:=fx) (fy:=fy) (a:=jR (ec fx fy) (l.take (l.length/2))) (b:=jR (ec fx fy) (l.drop (l.length/2))) (by rw[l1];simp;omega) (by rw[l2];simp;omega);have aZ:((l.length:Int)/2).toNat=l.length/2:=by omega
   have aH:((l.length:Int)/2).toNat-0=(l.take (l.length/2)).length:=by rw[aZ];simp;omega
   have aN:=ae2 l (l.length/2);have ck:((l.length:Int)).toNat-((l.length:Int)/2).toNat=(l.drop (l.length/2)).length:=by rw[aZ];simp
   have eg:=ae1 l (l.length/2) (by omega);have jh:((bZ l).drop (((l.length:Int)/2).toNat*2)).take ((l.drop (l.length/2)).length*2)=bZ (l.drop (l.length/2)):=by rw[aZ];exact eg
   rw[e];clear bY l1 l2 e eg aZ;refine bp (f:=140) Tryz.func140 rfl rfl rfl rfl ?_;(repeat first|(with_reducible apply fY);rfl|(with_reducible apply sb);(iterate 3 rfl)|(with_reducible apply Ik);(iterate 4 rfl);(omega);(omega);(omega);(assumption);(assumption);rfl|(with_reducible apply Il);(iterate 5 rfl);(omega);(omega);(omega);(omega);(assumption);(assumption);rfl|(with_reducible apply Y7);(iterate 3 rfl);omega;omega;omega;rfl|refine Ie rfl rfl rfl rfl (by(first|exact a8|exact bL)) rfl ?_|refine Ig rfl rfl rfl rfl rfl (by(exact eb)) rfl ?_|(with_reducible apply NW);kernel_rfl|(with_reducible apply Oe);kernel_rfl;kernel_rfl;rfl|(with_reducible first|apply Of|apply N6|apply Iq|apply dR|apply Ir|apply Is)|(with_reducible apply N8);rfl;(exact b8 (by omega)))
   ((refine bk rfl (aX rfl aM) ?_))
   exact ag.aU.refl _
section
variable{P:Program}{aG:cV}{s:aB}{ops:Array Oper}{dr:Option (List Nat)}{ty d:Nat}{pos:String}{after:Array Edge}{guard:Option (Nat×Bool)}{K:aB→Prop}{rest:List Oper}
theorem Ij{tt z n l lo hi:Nat}{v u:Value}{x y:Operand} [S:hH P tt z](hw:want ops ⟨some d,.slice tt x (some y) none none,ty,pos,after,guard⟩ s=some true)(ab:s.look x=some (aQ u))(ai:s.look y=some (aL (l:Int)))(hu:jX v z lo hi u)(hm:hi-lo=n)(h1:l≤n)(hd:Nat.blt d s.n=true)(h:bm P ops K rest (s.put (some d) (aQ (hT u z l n)))):bm P ops K (⟨some d,.slice tt x (some y) none none,ty,pos,after,guard⟩::rest) s:=by
 subst hm;obtain⟨⟨A,c,rfl⟩,_⟩:=hu;refine fZ (av:=aQ (hT (.slice A (hi-lo) c) z l (hi-lo))) hw ⟨fun _ _ h=>(by cases h),fun q aj => ?_,fun U ad W env he => ?_,fun j af=>absurd af (gP _ j)⟩ hd h
 ·simp[Op.operands] at aj;rcases aj with rfl|rfl
  ·exact⟨_,ab⟩
  ·exact⟨_,ai⟩
 ·have ex:env x = .slice A (hi-lo) c:=(he x (by simp[Op.operands]) _ ab).1;have jZ:env y = .int .i64 (l:Int):=(he y (by simp[Op.operands]) _ ai).1;obtain⟨e',fg,hu,b7,hs⟩:=nf S.h;have eZ:P.underlying tt=some (.slice (P.elem tt)):=by rw[jY hu];exact hu
  refine⟨hT (.slice A (hi-lo) c) z l (hi-lo),?_,rfl,rfl⟩;simp only[execOp,ex,gD,rC,jZ,Sem.run_bind,run_sliceAt_slice W tt _ _ _ _ eZ,run_slice_l W tt A (hi-lo) c eZ .i64 l (by omega) (by omega),jY hu,ij b7,Result.andThen_ok,hs,Sem.run_pure,kH,hT]
theorem Y8{tt z n l lo hi:Nat}{v u:Value}{x y:Operand} [S:hH P tt z](hw:want ops ⟨some d,.slice tt x none (some y) none,ty,pos,after,guard⟩ s=some true)(ab:s.look x=some (aQ u))(ai:s.look y=some (aL (l:Int)))(hu:jX v z lo hi u)(hm:hi-lo=n)(h1:l≤n)(hd:Nat.blt d s.n=true)(h:bm P ops K rest (s.put (some d) (aQ (hT u z 0 l)))):bm P ops K (⟨some d,.slice tt x none (some y) none,ty,pos,after,guard⟩::rest) s:=by
 subst hm;obtain⟨⟨A,c,rfl⟩,ak⟩:=hu
 have J7:l≤c:=by
  rcases xF l with e|e
  ·omega
  ·have aZ:=ak (show lo<hi by omega);obtain⟨g,n',c',g1,g2,g3⟩:=aZ;have eg:c=c'-lo:=by injection g3
   clear g1 g3 ak;omega
 refine fZ (av:=aQ (hT (.slice A (hi-lo) c) z 0 l)) hw ⟨fun _ _ h=>(by cases h),fun q aj => ?_,fun U ad W env he => ?_,fun j af=>absurd af (gP _ j)⟩ hd h
 ·simp[Op.operands] at aj;rcases aj with rfl|rfl
  ·exact⟨_,ab⟩
  ·exact⟨_,ai⟩
 ·have ex:env x = .slice A (hi-lo) c:=(he x (by simp[Op.operands]) _ ab).1;have jZ:env y = .int .i64 (l:Int):=(he y (by simp[Op.operands]) _ ai).1;obtain⟨e',fg,hu,b7,hs⟩:=nf S.h;have eZ:P.underlying tt=some (.slice (P.elem tt)):=by rw[jY hu];exact hu
  refine⟨hT (.slice A (hi-lo) c) z 0 l,?_,rfl,rfl⟩;simp only[execOp,ex,gD,rC,jZ,Sem.run_bind,run_sliceAt_slice W tt _ _ _ _ eZ,run_slice_h W tt A (hi-lo) c eZ .i64 l (by omega) (by omega),jY hu,ij b7,Result.andThen_ok,hs,Sem.run_pure,kH,hT]
end
theorem Mu{A C NE:List AC}{n:Nat}(h:A.length=n):eP (A++NE) n C=(A++C)++NE.drop C.length:=by
 subst h;unfold eP;rw[List.take_left,List.drop_append,rE (by omega),ur,Nat.add_sub_cancel_left]
theorem Rz{l:List aq}{n:Nat}(h:l.length=n):(bZ l).take (n*2)=bZ l:=gp (by rw[ot];omega)
theorem Rl{l:List Int}{n:Nat}(h:l.length=n):(cK l).take (n*1)=cK l:=gp (by simp[cK];omega)
theorem Rk(l:List Int):(cK l).all AC.aY=true:=b6.2 fun y ai=>by
 obtain⟨x,_,rfl⟩:=fS.1 ai;rfl
theorem FV(l:List Int):(cK l).length=l.length*1:=by simp[cK]
abbrev G1(LL:List (List aq)):List AC:=LL.map fun l=>AC.p (b4 2 l.length (bZ l))
abbrev Hp(LL:List (List aq)):ag:=cE 1 LL.length (G1 LL)
theorem U0{LL:List (List aq)}{j:Int}{i:Nat}{l:List aq}(af:j=i)(h:LL[i]?=some l):((G1 LL).drop (j.toNat*1)).take 1=[.p (b4 2 l.length (bZ l))]:=by
 subst af;have hi:=(bt.1 h).1;rw[kH,Nat.mul_one,jP (by simpa [G1] using hi)];have:LL[i]=l:=(bt.1 h).2;simp[G1,this]
def iY(LL:List (List aq))(i:Nat):List aq:=(LL.take i).flatten
theorem T8{LL:List (List aq)}{i:Nat}{l:List aq}(h:LL[i]?=some l):iY LL (i+1)=iY LL i++l:=by
 unfold iY;rw[kJ (bt.1 h).1,(bt.1 h).2];simp
theorem T6{LL:List (List aq)}{i:Nat}(h:LL.length≤i):iY LL i=LL.flatten:=by unfold iY;rw[gp h]
theorem T7(LL:List (List aq))(i:Nat):(iY LL i).length≤LL.flatten.length:=by
 have:LL.flatten=iY LL i++(LL.drop i).flatten:=by unfold iY;rw[←List.flatten_append,kh]
 rw[this,cZ];omega
def Xx(LL:List (List aq))(n:Nat)(R:aE)(az:List (Nat×ag))(aS:List (Nat×List AC)):Prop :=
 ∃(i:Nat) (ii qo:Int),i≤LL.length∧n=LL.length-i∧ii=i∧qo=((iY LL i).length:Nat)∧R=dW∧aS=[]∧az=[(0,Hp LL),(3,aL qo),(10,Hp LL),(11,aL LL.length),(12,aL ii)]
def Xy(LL:List (List aq))(N:Nat)(v:Value)(fM:List AC)(n:Nat)(R:aE)(az:List (Nat×ag))(aS:List (Nat×List AC)):Prop :=
 ∃(i:Nat) (ii:Int) (u:Value),i≤LL.length∧n=LL.length-i∧ii=i∧jX v 2 (iY LL i).length N u∧R=br 0 ⟨50,2,v,N,bZ (iY LL i)++fM.drop ((iY LL i).length*2)⟩∧aS=[]∧az=[(6,aQ v),(7,aQ u),(24,Hp LL),(25,aL LL.length),(26,aL ii)]
theorem TD{LL:List (List aq)}(dm:LL.length≤1100)(gg:LL.flatten.length≤100000):aP ah 217 [Hp LL] (fD LL.flatten):=by
 refine bp (f:=217) Tryz.func217 rfl rfl rfl rfl ?_;refine sf ?_;(refine aR ?_);refine jv 37 (Xx LL) LL.length dW _ [] ⟨0,0,0,dq _,rfl,rfl,rfl,rfl,rfl,rfl⟩ (bd.refl _) rfl ⟨rfl,rfl,rfl,rfl,rfl,trivial⟩ trivial rfl ?_;rintro n R az aS ⟨i,ii,qo,hi,rfl,eu,BJ,rfl,rfl,rfl⟩ bC;clear bC
 by_cases aj:i<LL.length
 ·have q2:ii<(LL.length:Int):=by omega
  have q3:0≤ii:=by omega
  obtain⟨l,g1⟩:∃l,LL[i]?=some l:=⟨_,bE aj⟩;have hh:=U0 eu g1;have h1:=T8 g1;have h2:=T7 LL (i+1);have ar:(iY LL (i+1)).length=(iY LL i).length+l.length:=by rw[h1,cZ]
  (refine aR ?_);exact⟨LL.length-(i+1),dW,_,[],by omega,⟨i+1,ii+1,_,by omega,rfl,by omega,by omega,rfl,rfl,rfl⟩,bd.refl _,rfl,⟨rfl,rfl,rfl,rfl,rfl,trivial⟩,trivial,rfl⟩
 ·have q2:¬ii<(LL.length:Int):=by omega
  rw[T6 (by omega)] at BJ;subst BJ;generalize Bk:LL.flatten.length=N at *;(refine aR ?_);refine yY (l:=N) (c':=N) 0 rfl rfl rfl rfl (cF _) rfl rfl ?h2 (js (by omega)) rfl (fun v hv => ?_)
  case h2=>show 16*N≤281474976710656;omega
  generalize ed:ja N 2 _=fM;have Ff:fM.length=N*2:=by rw[←ed];simp[ja]
  clear ed;(refine aR ?_);refine Mf 0 (r:=⟨50,2,v,N,fM⟩) rfl (fun ff c jD eN j4 cr hlen => ?_);have mV:v = .slice ff N c:=jD;have tS:jX v 2 0 N v:=by rw[mV];exact jX.all 2 eN cr
  clear jD eN j4 cr hlen;refine jv 37 (Xy LL N v fM) LL.length (br 0 ⟨50,2,v,N,fM⟩) _ [] ⟨0,0,v,dq _,rfl,rfl,tS,rfl,rfl,rfl⟩ (k8 _ _ _) rfl ⟨rfl,rfl,rfl,rfl,rfl,trivial⟩ trivial rfl ?_;clear aj q2 tS eu mV;rintro n R az aS ⟨i,ii,u,hi,rfl,eu,hu,rfl,rfl,rfl⟩ bC;clear bC
  by_cases aj:i<LL.length
  ·have q2:ii<(LL.length:Int):=by omega
   have q3:0≤ii:=by omega
   obtain⟨l,g1⟩:∃l,LL[i]?=some l:=⟨_,bE aj⟩;have hh:=U0 eu g1;have h1:=T8 g1;have h2:=T7 LL (i+1);have ar:(iY LL (i+1)).length=(iY LL i).length+l.length:=by rw[h1,cZ]
   rw[Bk] at h2;have c1:=ub l;have bD:Nat.min l.length (N-(iY LL i).length)=l.length:=qA (by omega);obtain⟨m,hm⟩:∃m,N-(iY LL i).length=m:=⟨_,rfl⟩;have b1:(iY LL i).length≤N:=by omega
   have b2:l.length≤m:=by omega
   have s1:eP (bZ (iY LL i)++fM.drop ((iY LL i).length*2)) ((iY LL i).length*2) ((bZ l).take (l.length*2))=bZ (iY LL (i+1))++fM.drop ((iY LL (i+1)).length*2):=by
    rw[Rz rfl,Mu (ot _),←ua,←h1,List.drop_drop,ot];congr 2;omega
   have eZ:=hu.sl hm b2 b1;rw[←ar] at eZ;(repeat first|refine cc ?_|(with_reducible apply eY);rfl;(repeat first|refine iI ?_|(with_reducible apply Ij);(iterate 3 rfl);assumption;(assumption);(assumption);rfl);(with_reducible apply dR)|(with_reducible apply QT 0);(iterate 3 rfl);assumption;rfl;rfl;rfl;(assumption);(exact cF _);(assumption);rfl;assumption;assumption;rfl);exact⟨LL.length-(i+1),_,_,[],by omega,⟨i+1,ii+1,_,by omega,rfl,by omega,eZ,rfl,rfl,rfl⟩,k8 _ _ _,rfl,⟨rfl,rfl,rfl,rfl,rfl,trivial⟩,trivial,rfl⟩
  ·have q2:¬ii<(LL.length:Int):=by omega
   have cz:bZ (iY LL i)++fM.drop ((iY LL i).length*2)=bZ LL.flatten:=by
    rw[T6 (by omega),rE (by omega),nb]
   rw[cz];refine zH 0 6 ⟨50,2,v,N,bZ LL.flatten⟩ rfl rfl ?_;rw[←Bk];(refine aR ?_)
   ((refine bk rfl (aX rfl aM) ?_))
   exact ag.aU.refl _
abbrev G2(LL:List (List Int)):List AC:=LL.map fun l=>AC.p (b4 1 l.length (cK l))
abbrev Ho(LL:List (List Int)):ag:=cE 1 LL.length (G2 LL)
theorem U1{LL:List (List Int)}{j:Int}{i:Nat}{l:List Int}(af:j=i)(h:LL[i]?=some l):((G2 LL).drop (j.toNat*1)).take 1=[.p (b4 1 l.length (cK l))]:=by
 subst af;have hi:=(bt.1 h).1;rw[kH,Nat.mul_one,jP (by simpa [G2] using hi)];have:LL[i]=l:=(bt.1 h).2;simp[G2,this]
def iX(LL:List (List Int))(i:Nat):List Int:=(LL.take i).flatten
theorem T5{LL:List (List Int)}{i:Nat}{l:List Int}(h:LL[i]?=some l):iX LL (i+1)=iX LL i++l:=by
 unfold iX;rw[kJ (bt.1 h).1,(bt.1 h).2];simp
theorem T3{LL:List (List Int)}{i:Nat}(h:LL.length≤i):iX LL i=LL.flatten:=by unfold iX;rw[gp h]
theorem T4(LL:List (List Int))(i:Nat):(iX LL i).length≤LL.flatten.length:=by
 have:LL.flatten=iX LL i++(LL.drop i).flatten:=by unfold iX;rw[←List.flatten_append,kh]
 rw[this,cZ];omega
def Xv(LL:List (List Int))(n:Nat)(R:aE)(az:List (Nat×ag))(aS:List (Nat×List AC)):Prop :=
 ∃(i:Nat) (ii qo:Int),i≤LL.length∧n=LL.length-i∧ii=i∧qo=((iX LL i).length:Nat)∧R=dW∧aS=[]∧az=[(0,Ho LL),(3,aL qo),(10,Ho LL),(11,aL LL.length),(12,aL ii)]
def Xw(LL:List (List Int))(N:Nat)(v:Value)(fM:List AC)(n:Nat)(R:aE)(az:List (Nat×ag))(aS:List (Nat×List AC)):Prop :=
 ∃(i:Nat) (ii:Int) (u:Value),i≤LL.length∧n=LL.length-i∧ii=i∧jX v 1 (iX LL i).length N u∧R=br 0 ⟨3,1,v,N,cK (iX LL i)++fM.drop ((iX LL i).length*1)⟩∧aS=[]∧az=[(6,aQ v),(7,aQ u),(24,Ho LL),(25,aL LL.length),(26,aL ii)]
theorem TC{LL:List (List Int)}(dm:LL.length≤1100)(gg:LL.flatten.length≤100000):aP ah 218 [Ho LL] (lH LL.flatten):=by
 refine bp (f:=218) Tryz.func218 rfl rfl rfl rfl ?_;refine sf ?_;(refine aR ?_);refine jv 37 (Xv LL) LL.length dW _ [] ⟨0,0,0,dq _,rfl,rfl,rfl,rfl,rfl,rfl⟩ (bd.refl _) rfl ⟨rfl,rfl,rfl,rfl,rfl,trivial⟩ trivial rfl ?_;rintro n R az aS ⟨i,ii,qo,hi,rfl,eu,BJ,rfl,rfl,rfl⟩ bC;clear bC
 by_cases aj:i<LL.length
 ·have q2:ii<(LL.length:Int):=by omega
  have q3:0≤ii:=by omega
  obtain⟨l,g1⟩:∃l,LL[i]?=some l:=⟨_,bE aj⟩;have hh:=U1 eu g1;have h1:=T5 g1;have h2:=T4 LL (i+1);have ar:(iX LL (i+1)).length=(iX LL i).length+l.length:=by rw[h1,cZ]
  (refine aR ?_);exact⟨LL.length-(i+1),dW,_,[],by omega,⟨i+1,ii+1,_,by omega,rfl,by omega,by omega,rfl,rfl,rfl⟩,bd.refl _,rfl,⟨rfl,rfl,rfl,rfl,rfl,trivial⟩,trivial,rfl⟩
 ·have q2:¬ii<(LL.length:Int):=by omega
  rw[T3 (by omega)] at BJ;subst BJ;generalize Bk:LL.flatten.length=N at *;(refine aR ?_);refine yY (l:=N) (c':=N) 0 rfl rfl rfl rfl (cF _) rfl rfl ?h2 (js (by omega)) rfl (fun v hv => ?_)
  case h2=>show 8*N≤281474976710656;omega
  generalize ed:ja N 1 _=fM;have Ff:fM.length=N*1:=by rw[←ed];simp[ja]
  clear ed;(refine aR ?_);refine Mf 0 (r:=⟨3,1,v,N,fM⟩) rfl (fun ff c jD eN j4 cr hlen => ?_);have mV:v = .slice ff N c:=jD;have tS:jX v 1 0 N v:=by rw[mV];exact jX.all 1 eN cr
  clear jD eN j4 cr hlen;refine jv 37 (Xw LL N v fM) LL.length (br 0 ⟨3,1,v,N,fM⟩) _ [] ⟨0,0,v,dq _,rfl,rfl,tS,rfl,rfl,rfl⟩ (k8 _ _ _) rfl ⟨rfl,rfl,rfl,rfl,rfl,trivial⟩ trivial rfl ?_;clear aj q2 tS eu mV;rintro n R az aS ⟨i,ii,u,hi,rfl,eu,hu,rfl,rfl,rfl⟩ bC;clear bC
  by_cases aj:i<LL.length
  ·have q2:ii<(LL.length:Int):=by omega
   have q3:0≤ii:=by omega
   obtain⟨l,g1⟩:∃l,LL[i]?=some l:=⟨_,bE aj⟩;have hh:=U1 eu g1;have h1:=T5 g1;have h2:=T4 LL (i+1);have ar:(iX LL (i+1)).length=(iX LL i).length+l.length:=by rw[h1,cZ]
   rw[Bk] at h2;have c1:=Rk l;have bD:Nat.min l.length (N-(iX LL i).length)=l.length:=qA (by omega);obtain⟨m,hm⟩:∃m,N-(iX LL i).length=m:=⟨_,rfl⟩;have b1:(iX LL i).length≤N:=by omega
   have b2:l.length≤m:=by omega
   have s1:eP (cK (iX LL i)++fM.drop ((iX LL i).length*1)) ((iX LL i).length*1) ((cK l).take (l.length*1))=cK (iX LL (i+1))++fM.drop ((iX LL (i+1)).length*1):=by
    rw[Rl rfl,Mu (FV _),←B9,←h1,List.drop_drop,FV];congr 2;omega
   have eZ:=hu.sl hm b2 b1;rw[←ar] at eZ;(repeat first|refine cc ?_|(with_reducible apply eY);rfl;(repeat first|refine iI ?_|(with_reducible apply Ij);(iterate 3 rfl);assumption;(assumption);(assumption);rfl);(with_reducible apply dR)|(with_reducible apply QT 0);(iterate 3 rfl);assumption;rfl;rfl;rfl;(assumption);(exact cF _);(assumption);rfl;assumption;assumption;rfl);exact⟨LL.length-(i+1),_,_,[],by omega,⟨i+1,ii+1,_,by omega,rfl,by omega,eZ,rfl,rfl,rfl⟩,k8 _ _ _,rfl,⟨rfl,rfl,rfl,rfl,rfl,trivial⟩,trivial,rfl⟩
  ·have q2:¬ii<(LL.length:Int):=by omega
   have cz:cK (iX LL i)++fM.drop ((iX LL i).length*1)=cK LL.flatten:=by
    rw[T3 (by omega),rE (by omega),nb]
   rw[cz];refine zH 0 6 ⟨3,1,v,N,cK LL.flatten⟩ rfl rfl ?_;rw[←Bk];(refine aR ?_)
   ((refine bk rfl (aX rfl aM) ?_))
   exact ag.aU.refl _
theorem aij{x y:Nat}(ab:x<9223372036854775808)(ai:y<9223372036854775808)(h:x*y<9223372036854775808):aP ah 292 [aQ (.int .u64 (x:Nat)),aQ (.int .u64 (y:Nat))] (.cl [.one (.c (.int .u64 0)),.one (.c (.int .u64 ((x*y:Nat):Int)))]):=by
 refine iC [.int .u64 (x:Nat),.int .u64 (y:Nat)] (.tuple #[.int .u64 0,.int .u64 ((x*y:Nat):Int)]) rfl rfl rfl rfl rfl fun W => ?_;refine(Tryz.bits_Mul64 x y (by omega) (by omega) W).mono ?_;rintro e w' ⟨rfl,rfl⟩;have aH:x*y/18446744073709551616=0:=Nat.div_eq_of_lt (by omega);have aN:x*y % 18446744073709551616=x*y:=Nat.mod_eq_of_lt (by omega);rw[aH,aN];exact⟨rfl,Below.refl _ _⟩
theorem aih{y:Nat}(ai:y<9223372036854775808):aP ah 251 [aQ (.int .u64 1),aQ (.int .u64 (y:Nat))] (.cl [.one (.c (.int .u64 0)),.one (.c (.int .u64 (y:Nat)))]):=by
 have a8:=aij (x:=1) (y:=y) (by decide) ai (by omega);rw[Nat.one_mul] at a8
 replace a8:aP ah 292 [aQ (.int .u64 1),aQ (.int .u64 (y:Nat))] (.cl [.one (.c (.int .u64 0)),.one (.c (.int .u64 (y:Nat)))]):=a8
 refine bp (f:=251) Tryz.func251 rfl rfl rfl rfl ?_;(refine cI ?_)
 ((refine bk rfl (aX rfl (aX rfl aM)) ?_))
 exact ag.aU.refl _
def XW(d:Int)(m:Nat)(v:Value)(fM:List AC)(n:Nat)(R:aE)(az:List (Nat×ag))(aS:List (Nat×List AC)):Prop :=
 ∃(k:Nat) (dc:Int),1≤k∧k≤m∧n=m-k∧dc=k∧R=br 0 ⟨3,1,v,m,cK (List.replicate k d)++fM.drop k⟩∧aS=[]∧az=[(7,aQ v),(8,aL dc)]
theorem ail{d:Int}{m:Nat}(yS:1≤m)(hm:m≤100000):aP ah 195 [lH [d],aL m] (lH (List.replicate m d)):=by
 have Ak:=aih (y:=m) (by omega);have w1:IntKind.u64.wrap (m:Int)=m:=by rw[IntKind.wrap_u64];omega
 have w2:IntKind.i64.wrap (m:Int)=m:=jo (by omega);have c5:¬(m:Int)<0:=by omega
 have q1:¬(m:Int)>9223372036854775807:=by omega
 have bD:Nat.min 1 m=1:=qA yS;refine bp (f:=195) Tryz.func195 rfl rfl rfl rfl ?_;refine sf ?_;(refine nU ?_);refine yY (l:=m) (c':=m) 0 rfl rfl rfl rfl (cF _) rfl rfl ?h2 (js (by omega)) rfl (fun v hv => ?_)
 case h2=>show 8*m≤281474976710656;omega
 generalize ed:ja m 1 _=fM;have Ff:fM.length=m:=by rw[←ed];simp[ja]
 have acx:fM.all AC.aY=true:=by
  rw[←ed];refine b6.2 fun y ai => ?_;simp only[ja,fS] at ai;obtain⟨j,_,rfl⟩:=ai;rfl
 clear ed
 have s1:eP fM (0*1) ((cK [d]).take (1*1))=cK (List.replicate 1 d)++fM.drop 1:=by
  unfold eP;simp[cK]
 (repeat first|refine cc ?_|(with_reducible apply aed 0);(iterate 6 rfl);(rfl);rfl;(assumption);(assumption);rfl);refine Mf 0 (r:=⟨3,1,v,m,cK (List.replicate 1 d)++fM.drop 1⟩) rfl (fun ff c jD eN j4 cr hlen => ?_);have mV:v = .slice ff m c:=jD;have hu:jX v 1 0 m v:=by rw[mV];exact jX.all 1 eN cr
 clear jD eN j4 cr hlen mV;refine jv 48 (XW d m v fM) (m-1) (br 0 ⟨3,1,v,m,cK (List.replicate 1 d)++fM.drop 1⟩) _ [] ⟨1,1,cF _,yS,rfl,rfl,rfl,rfl,rfl⟩ (k8 _ _ _) rfl ⟨rfl,rfl,trivial⟩ trivial rfl ?_;clear Ak w1 w2 c5 q1 bD s1;rintro n R az aS ⟨k,dc,od,ae,rfl,rfl,rfl,rfl,rfl⟩ bC;clear bC
 by_cases aj:k<m
 ·have q2:(k:Int)<(m:Int):=by omega
  obtain⟨x,ab⟩:∃x,Nat.min k (m-k)=x:=⟨_,rfl⟩;have an0:1≤x:=by rw[←ab];exact Nat.le_min.2 ⟨od,by omega⟩
  have aez:x≤k:=by rw[←ab];exact Nat.min_le_left _ _
  have an1:x≤m-k:=by rw[←ab];exact Nat.min_le_right _ _
  have m0:m-0=m:=Nat.sub_zero m;have cO:=hu.sl m0 ae (dq _);have cP:=hu.aly (k:=k) (by omega);rw[iF] at cO cP;have cz:0+k=k:=iF k
  have gX:(cK (List.replicate k d)++fM.drop k).all AC.aY=true:=by
   rw[List.all_append,Rk,pH];exact b6.2 fun y ai=>b6.1 acx y (oA ai)
  have s1:eP (cK (List.replicate k d)++fM.drop k) (k*1) ((((cK (List.replicate k d)++fM.drop k).drop (0*1)).take (k*1)).take (x*1))=cK (List.replicate (k+x) d)++fM.drop (k+x):=by
   have lk:(cK (List.replicate k d)).length=k*1:=by simp[cK]
   rw[Nat.zero_mul,List.drop_zero,←lk,List.take_left,Mu rfl]
   have ck:(cK (List.replicate k d)).take (x*1)=cK (List.replicate x d):=by
    simp only[cK,List.map_replicate,Nat.mul_one,List.take_replicate];rw[qA aez]
   rw[ck,List.drop_drop,←B9,List.replicate_append_replicate,show (cK (List.replicate x d)).length=x by simp[cK]]
  have w1:IntKind.i64.wrap ((k:Int)+(x:Int))=(k:Int)+(x:Int):=jo (by omega);(repeat first|(with_reducible apply dI (id:=9) [0,1,2,3,4,5,6,7,8,9]);kernel_rfl;kernel_rfl;rfl|refine cc ?_|(with_reducible apply eY);rfl;(repeat first|refine iI ?_|(with_reducible apply Ij);(iterate 3 rfl);assumption;(assumption);(assumption);rfl|(with_reducible apply Y8);(iterate 3 rfl);assumption;(assumption);(assumption);rfl);(with_reducible apply dR)|(with_reducible apply oO 0);(iterate 4 rfl);kernel_rfl;rfl|(with_reducible apply aee 0);(iterate 3 rfl);assumption;rfl;assumption;assumption;assumption;rfl;rfl;(assumption);(exact cF _);(assumption);rfl;assumption;assumption;rfl);exact⟨m-(k+x),_,_,[],by omega,⟨k+x,(k:Int)+(x:Int),by omega,by omega,rfl,by omega,rfl,rfl,rfl⟩,k8 _ _ _,rfl,⟨rfl,rfl,trivial⟩,trivial,rfl⟩
 ·have q2:¬(k:Int)<(m:Int):=by omega
  have cz:cK (List.replicate k d)++fM.drop k=cK (List.replicate m d):=by
   rw[show k=m by omega,rE (by omega),nb]
  rw[cz];refine zH 0 7 ⟨3,1,v,m,cK (List.replicate m d)⟩ rfl rfl ?_
  have el:cE 1 m (cK (List.replicate m d))=lH (List.replicate m d):=by
   show cE 1 m _=cE 1 (List.replicate m d).length _;rw[List.length_replicate]
  rw[←el];(refine aR ?_)
  ((refine bk rfl (aX rfl aM) ?_))
  exact ag.aU.refl _
end Go.Proofs.YtklpfooafbjnpaaGreat
namespace Go.Proofs.YtklpfooafbjnpaaGreat
def xv(p q:aq):List aq:=if p=q then [p] else [p,q]
def xu(p q:aq):List Int:=if p=q then [] else [1]
end Go.Proofs.YtklpfooafbjnpaaGreat
namespace Go.Proofs.YtklpfooafbjnpaaGreat
open Go.RowKit
open Classical in
noncomputable def xK(r:Nat)(V:List aq)(D:List Int):Bool:=decide (xL r V D)
theorem U3{r:Nat}{V:List aq}{D:List Int}(h:xL r V D):xK r V D=true:=by unfold xK;exact @decide_eq_true _ (Classical.propDecidable _) h
theorem akG{r:Nat}{V:List aq}{D:List Int}(h:¬xL r V D):xK r V D=false:=by unfold xK;exact @decide_eq_false _ (Classical.propDecidable _) h
def mI(D:List Int):Int:=D.foldl max 0
theorem aaz{D:List Int}{m:Int}(aF:0≤m)(h:∀d∈D,d≤m):0≤mI D∧mI D≤m:=by
 have key:∀(D:List Int) (n:Int),0≤n→n≤m→(∀d∈D,d≤m)→0≤D.foldl max n∧D.foldl max n≤m:=by
  intro D
  induction D with
  | nil=>intro n g1 g2 _;exact⟨g1,g2⟩
  | cons d D bY =>
   intro n g1 g2 g3;rw[um];have:=g3 d (hA ..);exact bY _ (by omega) (by omega) fun e he=>g3 e (k5 _ he)
 exact key D 0 (o5 _) aF h
def WT:Prop:=∀x y z w:Int,aP ah 191 [bn x y,bn z w] (oF (xv (x,y) (z,w)) (xu (x,y) (z,w)))
def WZ:Prop:=∀(V:List aq) (D:List Int) (j:Nat) (l:List aq),V.length=D.length+1→V.length≤1100→l.length≤1100→j<D.length→(∀d∈D,1≤d∧d≤1048576) →
 aP ah 139 [oF V D,aL j,fD l] (.cl [.agg (xn (if l.isEmpty then [] else Hd V j l) (if l.isEmpty then [] else Db D j l.length)),.one (.c (.bool (!l.isEmpty)))])
def M7:Prop:=∀(V:List aq) (D:List Int) (r:Nat),r≤28→V.length≤1100→D.length≤1100→(∀v∈V,DK v)→(∀d∈D,0≤d∧d≤9223372036854775807)→aP ah 258 [oF V D,aL r] (bl (xK r V D))
def M6:Prop:=∀(V:List aq) (D:List Int),V.length≤1100→D.length≤1100→aP ah 76 [oF V D] (aL (mI D))
def WY:Prop:=∀(V W:List aq) (D E:List Int),V.length≤1100→D.length≤1100→W.length≤1100→E.length≤1100→aP ah 95 [oF V D,oF W E] (bl (decide (V=W)&&decide (D=E)))
def WQ:Prop:=∀(V:List aq) (D:List Int),V.length≤1100→D.length≤1100→aP ah 155 [oF V D] (oF V D)
theorem ZU:ag.aU (.w (.agg [.c (.slice none 0 0),.c (.slice none 0 0)])) (oF [] []):=D8 rfl fun j x y ab ai=>by
 match j with
 | 0=>cases ab;cases ai;exact .inr ⟨rfl,2,rfl⟩
 | 1=>cases ab;cases ai;exact .inr ⟨rfl,1,rfl⟩
 | j+2=>simp at ab
end Go.Proofs.YtklpfooafbjnpaaGreat
