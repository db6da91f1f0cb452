/-
  My own texts,without what this claim does not need. My own text.
-/
import Derived.Test.YtklpfooafbjnpaaGreatSLClimbsK18
set_option maxRecDepth 100000
set_option maxHeartbeats 64000000
set_option linter.unusedVariables false
set_option linter.unusedSimpArgs false
set_option linter.unusedSectionVars false
open Go.Proofs.Tryz renaming prog → ah
namespace Go.Proofs.YtklpfooafbjnpaaGreat
open Go.RowKit
open bB
theorem Gz{P:Program}{f:FuncId}{args:List ag}(gE:args.all ag.aV=true)(h:b3 P f args bu dq fun v aG ao=>v=bl true∧aG=bu∧ao=dq):aP P f args (bl true) :=
 ⟨fun x ab=>ag.cU (b4.1 gE x ab),ag.cU rfl,fun U W vs cJ=>(h.call U id W vs ⟨fun k cs ae=>(by cases ae),fun k cs x j ae=>(by cases ae),fun k k' cs au ae=>(by cases ae),fun i q hi=>(by cases hi),fun i j q cI hi=>(by cases hi)⟩ (fun x ab j af=>absurd af (ag.cU (b4.1 gE x ab) j)) cJ).mono (by
  rintro e W' ⟨v,r,aG,ao,aU,ck,rfl,⟨rfl,rfl,rfl⟩,_,mZ,_,_,_,_,_,aa⟩;refine⟨v,rfl,mZ,⟨aa.os,aa.tape,aa.output,aa.size,fun b cL=>aa.block b ⟨cL,?_⟩⟩⟩;rintro (⟨k,cs,ae,_⟩|⟨i,q,hi,_⟩)
  ·cases ae
  ·cases hi)⟩
section
variable{P:Program}{s:aB}{ops:Array Oper}{K:aB→Prop}{rest:List Oper}{ty:Nat}{pos:String}{after:Array Edge}{guard:Option (Nat×Bool)}{d:Nat}
theorem YP{x:Operand}{xs:List AC}(hw:want ops ⟨some d,.nilCheck x,ty,pos,after,guard⟩ s=some true)(ab:s.look x=some (xR xs))(hd:Nat.blt d s.n=true)(h:bk P ops K rest (s.put (some d) (xR xs))):bk P ops K (⟨some d,.nilCheck x,ty,pos,after,guard⟩::rest) s:=by
 refine fJ hw ⟨fun _ _ h=>(by cases h),fun y ai => ?_,fun U ad W env he => ?_,fun j af=>absurd af (kH _ j)⟩ hd h
 ·simp[Op.operands] at ai;subst ai;exact⟨_,ab⟩
 ·have aF:=he x (by simp[Op.operands]) _ ab;obtain⟨⟨a,vs,aI,dp⟩,cQ⟩:=id aF;exact⟨env x,by simp only[execOp,aI];rfl,aF⟩
end
section
variable{E:List (Int×bK)}{rm k st:Int}{p:Value}
theorem Tg:aP ah 51 [.w (.one (.p (n5 (kF E rm k st p))))] (aL k):=by
 refine bq (f:=51) Tryz.func51 rfl rfl rfl rfl ?_;(refine fi ?_);refine YP rfl rfl rfl ?_;refine NJ rfl rfl rfl ?_;refine ye rfl rfl rfl rfl rfl ?_;(refine fi ?_)
 ((refine bn rfl (bb rfl aM) ?_))
 exact ag.aW.refl _
end
section
variable{A B:List (List cc)}{op fill rung cap:Int}
theorem ZX(ak:jn A B op fill rung cap=0)(ae:((h7 A B rung cap).k:Int)>rung):gL (cu A B) ((h7 A B rung cap).k-1) cap.toNat∧(h4 (bh (cu A B) ((h7 A B rung cap).k-1) cap.toNat) (ir (cu A B).length cap).toNat (fe (bh (cu A B) ((h7 A B rung cap).k-1) cap.toNat))).2.ph=5:=by
 obtain⟨i1,aJ,f1,f2,f3,f4,b1,b2⟩:=MG ak;obtain⟨⟨a0,a1⟩,⟨c0,c1⟩,d0,d1,_,_⟩:=uL ak;have ba:=al7 (A:=A) (B:=B) (rung:=rung) (cap:=cap);have hm:=Ol (cu A B).length cap.toNat
 rw[show ((cap.toNat:Nat):Int)=cap by omega] at hm;have ky:gL (cu A B) ((h7 A B rung cap).k-1) cap.toNat:=⟨by omega,i1.fit.near,i1.fit.len,i1.fit.pos,i1.fit.room⟩;obtain⟨m,adq⟩:=ba.over ((h7 A B rung cap).k-1) (by omega) (by omega);exact⟨ky,aht ky adq (by omega)⟩
def MV(E:List (Int×bK))(afU:List AC)(x y:Int)(R0:aC)(n:Nat)(R:aC)(az:List (Nat×ag))(aS:List (Nat×List AC)):Prop :=
 ∃(i:Nat) (ii:Int),i≤E.length∧n=E.length-i∧ii=i∧R=R0∧az=[(3,.w (.one (.p (n5 afU)))),(5,.w (.one (.own 5 0))),(60,pP E),(61,aL E.length),(62,aL ii)]∧aS=[(5,[.c (.int .i64 x),.c (.int .i64 y)])]
theorem afN(aa:A.length+B.length+bN A+bN B≤1048576):aP ah 12 [.w (.agg (im A B op fill rung cap))] (bl true):=by
 have eV:=ah3;have aZ:=ahH (op:=op) (fill:=fill) (rung:=rung) (cap:=cap) aa
 by_cases ay:sa A B>0
 case pos =>
  generalize sa A B=Ps at *;refine bq (f:=12) Tryz.func12 rfl rfl rfl rfl ?_;(repeat first|refine dd ?_|refine fX ?_|refine lM aZ ?_|(with_reducible apply bU (c:=true));rfl;rfl;(exact cd (by omega)))
  ((refine bn rfl (bb rfl aM) ?_))
  exact ag.aW.refl _
 obtain⟨hs,oh⟩:=aaR ay;have bM:=aiS (op:=op) (fill:=fill) (rung:=rung) (cap:=cap) (A:=A) (B:=B) (by omega) (fun r q=>by have:=G3 hs r (rA _ q);omega) (by omega) (fun r q=>by have:=G3 hs r (vD _ q);omega)
 by_cases ak:jn A B op fill rung cap=0
 case neg =>
  generalize sa A B=Ps at *;generalize jn A B op fill rung cap=cv at *;refine bq (f:=12) Tryz.func12 rfl rfl rfl rfl ?_;(repeat first|refine dd ?_|refine fX ?_|refine lM aZ ?_|refine lM bM ?_|(with_reducible apply bU (c:=false));rfl;rfl;(exact cb (by omega)))
  ((refine bn rfl (bb rfl aM) ?_))
  exact ag.aW.refl _
 obtain⟨i1,aJ,f1,f2,f3,f4,b1,b2⟩:=MG ak;obtain⟨⟨a0,a1⟩,⟨c0,c1⟩,d0,d1,_,_⟩:=uL ak;have ct:=aeX (op:=op) (fill:=fill) (rung:=rung) (cap:=cap) hs ak 18 pA;have qR:=(Ry (E:=cu A B) (rm:=cap.toNat) (l:=h7 A B rung cap)).oN 18 (bD:=cM) pA rfl rfl;have Km:∀r∈A++B,r.length≤900000:=G3 hs;have hL:=Lw (A:=A) (B:=B) (op:=op) (fill:=fill) (rung:=rung) (cap:=cap) (by omega);have uB:=Gq (A:=A) (B:=B) (op:=op) (fill:=fill) (rung:=rung) (cap:=cap) (by omega) (by omega) (fun r q=>Km r (rA _ q)) (fun r q=>Km r (vD _ q)) (by rw[oL];omega);have wh:=TB (n:=((cu A B).length:Int)) (rm:=cap) (by omega) (by rw[oL];omega) c0 c1;obtain⟨_,_,m0,m1⟩:=Ch (n:=((cu A B).length:Int)) (rm:=cap) (by omega) (by rw[oL];omega) c0 c1
 have lC:cap=1→∀i j,i<(cu A B).length→j<(cu A B).length→(bh (cu A B) (h7 A B rung cap).k 1).P i=(bh (cu A B) (h7 A B rung cap).k 1).P j:=fun h1 i j hi af=>by
  subst h1;exact aho i1 aJ hi af
 have sg:=ZX (A:=A) (B:=B) (op:=op) (fill:=fill) (rung:=rung) (cap:=cap) ak;have fA:(cu A B).length≤8∧1≤(cu A B).length:=by rw[oL];omega
 have Ka:=i1.fit.near;have adf:=i1.fit.r;rw[ak] at bM;generalize h7 A B rung cap=fu at *;generalize cu A B=E at *;generalize ir E.length cap=e3 at *;generalize sa A B=Ps at *;clear i1 aJ f1 f4 b1 b2 oh hs Km ak;have an:gY ((fu.k:Nat):Int) fu.k:=⟨adf,.inr (.inr rfl)⟩;have z0:(0:Int)<(E.length:Int):=by omega
 obtain⟨vu,Nt,N6,amC,amO,g0⟩:∃o a b c d,E[0]?=some (o,(a,b),(c,d)):=⟨_,_,_,_,_,bF (by omega)⟩;have Hz:=uU (ii:=0) rfl g0
 have fB:∀(j:Nat) o a b c d,E[j]?=some (o,(a,b),(c,d))→aP ah 58 [bm a b,aL fu.k] (bm (bV a fu.k) (bV b fu.k))∧(bh E fu.k 1).P j=(bV a fu.k,bV b fu.k):=fun j o a b c d h=>by
  have cr:=pD Ka j;have AO:(E.map Prod.snd).getD j ku=((a,b),(c,d)):=by rw[vF,dD,h];rfl
  rw[AO] at cr;have fq:=nR.1 cr.1;simp only at fq;refine⟨Cy an (by omega) (by omega) (by omega) (by omega),?_⟩;show lG fu.k ((E.map Prod.snd).getD j ku).1=_;rw[AO];rfl
 have MY:=(fB 0 _ _ _ _ _ g0).1
 have yN:cap=1→∀(j:Nat) o a b c d,E[j]?=some (o,(a,b),(c,d))→aP ah 58 [bm a b,aL fu.k] (bm (bV Nt fu.k) (bV N6 fu.k)):=fun h1 j o a b c d h=>by
  obtain⟨h2,ar⟩:=fB j o a b c d h;have aJ:=(fB 0 _ _ _ _ _ g0).2;have bO:=lC h1 j 0 (bt.1 h).1 (by omega);rw[ar,aJ] at bO;rw[(Prod.mk.inj bO).1,(Prod.mk.inj bO).2] at h2;exact h2
 clear fB lC g0;generalize bV Nt fu.k=li at *;generalize bV N6 fu.k=hK at *;have fq:(!dG li hK li hK)=false:=by simp[dG]
 by_cases ae:((fu.k:Nat):Int)>rung
 case neg =>
  clear sg
  by_cases h1:cap>1
  case pos =>
   refine Gz rfl ?_;refine va (f:=12) Tryz.func12 rfl (b8 rfl) (by exact ib) (xH ?_);refine fz (hc ?_);(refine aQ ?_);refine fk ?_;refine fz (hc ?_);(repeat first|refine bQ ?_|(with_reducible apply eH);rfl;(repeat first|refine gW ?_|refine lM aZ ?_|refine lM bM ?_|(with_reducible apply bU (c:=false));rfl;rfl;(exact cb (by omega)));(with_reducible apply dC));refine fk ?_;refine fz (hc ?_);(refine aQ ?_);refine w7 18 cM rfl rfl rfl rfl ct rfl rfl rfl rfl (fun cs qT aN => ?_);rw[xt];(refine aQ ?_);refine fk ?_;refine fz (hc ?_);(refine aQ ?_);refine fk ?_;refine fz (hc ?_);(repeat first|(with_reducible apply fW (id:=6) [0,2,3,1,4] [22,2000018,2000033]);kernel_rfl;kernel_rfl;rfl|refine bQ ?_);refine nb 18 cM rfl rfl rfl rfl rfl rfl rfl rfl qR aN (a8.refl _) (fun AK kS dj => ?_);rw[show bG (aC.aY cM kS) (aC.aY cM qT)=aC.aY cM kS from aN.bG dj];(refine aQ ?_);refine fk ?_;refine fz (hc ?_);(refine mD ?_)
   ((refine nH (R1:=dq) rfl (bb rfl aM) (fun i r h=>by cases h) rfl (fun i r h=>by cases h) ?_))
   exact⟨rfl,rfl,rfl⟩
  have yN:=yN (by omega);refine Gz rfl ?_;refine va (f:=12) Tryz.func12 rfl (b8 rfl) (by exact ib) (xH ?_);refine fz (hc ?_);(refine aQ ?_);refine fk ?_;refine fz (hc ?_);(repeat first|refine bQ ?_|(with_reducible apply eH);rfl;(repeat first|refine gW ?_|refine lM aZ ?_|refine lM bM ?_|(with_reducible apply bU (c:=false));rfl;rfl;(exact cb (by omega)));(with_reducible apply dC));refine fk ?_;refine fz (hc ?_);(refine aQ ?_);refine w7 18 cM rfl rfl rfl rfl ct rfl rfl rfl rfl (fun cs qT aN => ?_);rw[xt];(refine aQ ?_);refine fk ?_;refine fz (hc ?_);(refine aQ ?_);refine fk ?_;refine fz (hc ?_);(repeat first|(with_reducible apply fW (id:=6) [0,2,3,1,4] [22,2000018,2000033]);kernel_rfl;kernel_rfl;rfl|refine bQ ?_);refine nb 18 cM rfl rfl rfl rfl rfl rfl rfl rfl qR aN (a8.refl _) (fun AK kS dj => ?_);rw[show bG (aC.aY cM kS) (aC.aY cM qT)=aC.aY cM kS from aN.bG dj];(refine aQ ?_);refine fk ?_;refine fz (hc ?_);(refine aQ ?_);refine fk ?_;obtain⟨g,e,fG,R1,a7,rfl,rfl⟩:=id dj;refine Jb 18 _ rfl rfl ?_;refine hc ?_;have Ab:=Tg (E:=E) (rm:=(cap.toNat:Int)) (k:=(fu.k:Int)) (st:=(fu.st:Int)) (p:=bJ g);(repeat first|(with_reducible apply dv (id:=15) [8,0,1,2,3,4,5,6,7,9]);kernel_rfl;kernel_rfl;rfl|refine bQ ?_|refine fO ?_|refine n2 Ab ?_|refine n2 MY ?_);refine iy 75 (MV E (kF E cap.toNat fu.k fu.st (bJ g)) li hK _) E.length _ _ [(5,[.c (.int .i64 li),.c (.int .i64 hK)])] ⟨0,0,du _,rfl,rfl,rfl,rfl,rfl⟩ (a8.refl _) rfl ⟨rfl,rfl,rfl,rfl,rfl,trivial⟩ ⟨rfl,trivial⟩ rfl ?_;rintro n R az aS ⟨j,dl,af,rfl,kz,rfl,rfl,rfl⟩ bC;clear bC
  by_cases hp:j<E.length
  case neg =>
   have p2:¬dl<(E.length:Int):=by omega
   (refine mD ?_)
   ((refine nH (R1:=dq) rfl (bb rfl aM) (fun i r h=>by cases h) rfl (fun i r h=>by cases h) ?_))
   exact⟨rfl,rfl,rfl⟩
  have p2:dl<(E.length:Int):=by omega
  have p3:0≤dl:=by omega
  obtain⟨o,a,b,c,d,g1⟩:∃o a b c d,E[j]?=some (o,(a,b),(c,d)):=⟨_,_,_,_,_,bF hp⟩;have ko:=uU kz g1;have qK:=yN j o a b c d g1;(repeat first|(with_reducible apply dv (id:=19) [0,1,2,3,4,5,6]);kernel_rfl;kernel_rfl;rfl|refine bQ ?_|refine n2 Ab ?_|refine n2 qK ?_);exact⟨E.length-(j+1),_,_,[(5,[.c (.int .i64 li),.c (.int .i64 hK)])],by omega,⟨j+1,dl+1,hp,rfl,by omega,rfl,rfl,rfl⟩,a8.refl _,rfl,⟨rfl,rfl,rfl,rfl,rfl,trivial⟩,⟨rfl,trivial⟩,rfl⟩
 obtain⟨ky,bO⟩:=sg ae;have wj:=ae2 33 (bD:=gC) CY (E:=E) (K:=(fu.k:Int)-1) (n:=cap) (by omega) Ka;rw[show pa ((fu.k:Int)-1)=fu.k-1 by rw[show (fu.k:Int)-1=((fu.k-1:Nat):Int) by omega];exact LU (by omega),show oI cap=cap.toNat by unfold oI qH;(repeat split) <;> omega] at wj;have R1:=ae6 ky (Ge _ _) (n:=e3) (by omega);have fw:=FU (E:=E) (r:=fu.k-1) (rm:=cap.toNat) (s:=(h4 (bh E (fu.k-1) cap.toNat) e3.toNat (fe (bh E (fu.k-1) cap.toNat))).2);rw[show (((h4 (bh E (fu.k-1) cap.toNat) e3.toNat (fe (bh E (fu.k-1) cap.toNat))).2.ph:Nat):Int)=5 by omega] at fw;have R1:=R1.oN 33 (bD:=gC) CY rfl rfl;have fw:=fw.oN 33 (bD:=gC) CY rfl rfl;generalize (h4 (bh E (fu.k-1) cap.toNat) e3.toNat (fe (bh E (fu.k-1) cap.toNat))).2=amo at *;generalize (h4 (bh E (fu.k-1) cap.toNat) e3.toNat (fe (bh E (fu.k-1) cap.toNat))).1=db at *;generalize fe (bh E (fu.k-1) cap.toNat)=amn at *;clear ky bO Ka
 by_cases h1:cap>1
 case pos =>
  refine Gz rfl ?_;refine va (f:=12) Tryz.func12 rfl (b8 rfl) (by exact ib) (xH ?_);refine fz (hc ?_);(refine aQ ?_);refine fk ?_;refine fz (hc ?_);(repeat first|refine bQ ?_|(with_reducible apply eH);rfl;(repeat first|refine gW ?_|refine lM aZ ?_|refine lM bM ?_|(with_reducible apply bU (c:=false));rfl;rfl;(exact cb (by omega)));(with_reducible apply dC));refine fk ?_;refine fz (hc ?_);(refine aQ ?_);refine w7 18 cM rfl rfl rfl rfl ct rfl rfl rfl rfl (fun cs qT aN => ?_);rw[xt];(refine aQ ?_);refine fk ?_;refine fz (hc ?_);(refine aQ ?_);refine fk ?_;refine fz (hc ?_);(repeat first|(with_reducible apply fW (id:=6) [0,2,3,1,4] [22,2000018,2000033]);kernel_rfl;kernel_rfl;rfl|refine bQ ?_);refine nb 18 cM rfl rfl rfl rfl rfl rfl rfl rfl qR aN (a8.refl _) (fun AK kS dj => ?_);rw[show bG (aC.aY cM kS) (aC.aY cM qT)=aC.aY cM kS from aN.bG dj];(repeat first|(with_reducible apply fW (id:=7) [0,1,2,5,6,3,4,7,8] [29,33,2000018,2000033]);kernel_rfl;kernel_rfl;rfl|refine bQ ?_|refine n2 aZ ?_|refine n2 uB ?_);refine nb 18 cM rfl rfl rfl rfl rfl rfl rfl rfl qR dj (a8.refl _) (fun Ex mI fI => ?_);rw[show bG (aC.aY cM mI) (aC.aY cM kS)=aC.aY cM mI from dj.bG fI];(refine aQ ?_);refine QO 33 gC rfl rfl rfl rfl wj rfl rfl rfl rfl (fun ds mc aH => ?_);rw[show bG (aC.aY gC mc) (aC.aY cM mI)=two mI mc from Mv fI.up aH.up (by decide) (by decide)];(repeat first|(with_reducible apply fW (id:=10) [0,1,2,3,4,5,6,7] [43,2000018,2000033]);kernel_rfl;kernel_rfl;rfl|refine bQ ?_|refine fO ?_|refine n2 aZ ?_|refine n2 wh ?_);refine FD 33 gC rfl rfl rfl rfl rfl rfl rfl rfl R1 aH (C9 fI.up aH.up (by decide) (by decide)) (fun IE Nf dy => ?_);rw[Db fI.up aH.up dy.up (by decide) (by decide)];(refine aQ ?_);refine FD 33 gC rfl rfl rfl rfl rfl rfl rfl rfl fw dy (C9 fI.up dy.up (by decide) (by decide)) (fun aap XA mG => ?_);rw[Db fI.up dy.up mG.up (by decide) (by decide)];(refine aQ ?_);refine fk ?_;refine fz (hc ?_);(refine mD ?_)
  ((refine nH (R1:=dq) rfl (bb rfl aM) (fun i r h=>by cases h) rfl (fun i r h=>by cases h) ?_))
  exact⟨rfl,rfl,rfl⟩
 have yN:=yN (by omega);refine Gz rfl ?_;refine va (f:=12) Tryz.func12 rfl (b8 rfl) (by exact ib) (xH ?_);refine fz (hc ?_);(refine aQ ?_);refine fk ?_;refine fz (hc ?_);(repeat first|refine bQ ?_|(with_reducible apply eH);rfl;(repeat first|refine gW ?_|refine lM aZ ?_|refine lM bM ?_|(with_reducible apply bU (c:=false));rfl;rfl;(exact cb (by omega)));(with_reducible apply dC));refine fk ?_;refine fz (hc ?_);(refine aQ ?_);refine w7 18 cM rfl rfl rfl rfl ct rfl rfl rfl rfl (fun cs qT aN => ?_);rw[xt];(refine aQ ?_);refine fk ?_;refine fz (hc ?_);(refine aQ ?_);refine fk ?_;refine fz (hc ?_);(repeat first|(with_reducible apply fW (id:=6) [0,2,3,1,4] [22,2000018,2000033]);kernel_rfl;kernel_rfl;rfl|refine bQ ?_);refine nb 18 cM rfl rfl rfl rfl rfl rfl rfl rfl qR aN (a8.refl _) (fun AK kS dj => ?_);rw[show bG (aC.aY cM kS) (aC.aY cM qT)=aC.aY cM kS from aN.bG dj];(repeat first|(with_reducible apply fW (id:=7) [0,1,2,5,6,3,4,7,8] [29,33,2000018,2000033]);kernel_rfl;kernel_rfl;rfl|refine bQ ?_|refine n2 aZ ?_|refine n2 uB ?_);refine nb 18 cM rfl rfl rfl rfl rfl rfl rfl rfl qR dj (a8.refl _) (fun Ex mI fI => ?_);rw[show bG (aC.aY cM mI) (aC.aY cM kS)=aC.aY cM mI from dj.bG fI];(refine aQ ?_);refine QO 33 gC rfl rfl rfl rfl wj rfl rfl rfl rfl (fun ds mc aH => ?_);rw[show bG (aC.aY gC mc) (aC.aY cM mI)=two mI mc from Mv fI.up aH.up (by decide) (by decide)];(repeat first|(with_reducible apply fW (id:=10) [0,1,2,3,4,5,6,7] [43,2000018,2000033]);kernel_rfl;kernel_rfl;rfl|refine bQ ?_|refine fO ?_|refine n2 aZ ?_|refine n2 wh ?_);refine FD 33 gC rfl rfl rfl rfl rfl rfl rfl rfl R1 aH (C9 fI.up aH.up (by decide) (by decide)) (fun IE Nf dy => ?_);rw[Db fI.up aH.up dy.up (by decide) (by decide)];(refine aQ ?_);refine FD 33 gC rfl rfl rfl rfl rfl rfl rfl rfl fw dy (C9 fI.up dy.up (by decide) (by decide)) (fun aap XA mG => ?_);rw[Db fI.up dy.up mG.up (by decide) (by decide)];(refine aQ ?_);refine fk ?_;refine fz (hc ?_);(refine aQ ?_);refine fk ?_;obtain⟨g,e,fG,R1,a7,rfl,rfl⟩:=id fI;refine Jb 18 _ rfl rfl ?_;refine hc ?_;have Ab:=Tg (E:=E) (rm:=(cap.toNat:Int)) (k:=(fu.k:Int)) (st:=(fu.st:Int)) (p:=bJ g);(repeat first|(with_reducible apply dv (id:=15) [8,0,1,2,3,4,5,6,7,9]);kernel_rfl;kernel_rfl;rfl|refine bQ ?_|refine fO ?_|refine n2 Ab ?_|refine n2 MY ?_);refine iy 75 (MV E (kF E cap.toNat fu.k fu.st (bJ g)) li hK _) E.length _ _ [(5,[.c (.int .i64 li),.c (.int .i64 hK)])] ⟨0,0,du _,rfl,rfl,rfl,rfl,rfl⟩ (a8.refl _) rfl ⟨rfl,rfl,rfl,rfl,rfl,trivial⟩ ⟨rfl,trivial⟩ rfl ?_;rintro n R az aS ⟨j,dl,af,rfl,kz,rfl,rfl,rfl⟩ bC;clear bC
 by_cases hp:j<E.length
 case neg =>
  have p2:¬dl<(E.length:Int):=by omega
  (refine mD ?_)
  ((refine nH (R1:=dq) rfl (bb rfl aM) (fun i r h=>by cases h) rfl (fun i r h=>by cases h) ?_))
  exact⟨rfl,rfl,rfl⟩
 have p2:dl<(E.length:Int):=by omega
 have p3:0≤dl:=by omega
 obtain⟨o,a,b,c,d,g1⟩:∃o a b c d,E[j]?=some (o,(a,b),(c,d)):=⟨_,_,_,_,_,bF hp⟩;have ko:=uU kz g1;have qK:=yN j o a b c d g1;(repeat first|(with_reducible apply dv (id:=19) [0,1,2,3,4,5,6]);kernel_rfl;kernel_rfl;rfl|refine bQ ?_|refine n2 Ab ?_|refine n2 qK ?_);exact⟨E.length-(j+1),_,_,[(5,[.c (.int .i64 li),.c (.int .i64 hK)])],by omega,⟨j+1,dl+1,hp,rfl,by omega,rfl,rfl,rfl⟩,a8.refl _,rfl,⟨rfl,rfl,rfl,rfl,rfl,trivial⟩,⟨rfl,trivial⟩,rfl⟩
end
theorem ZY(A B:List (List cc))(op fill rung cap:Int)(h:A.length+B.length+bN A+bN B≤1048576):aP ah 12 [.w (.agg (im A B op fill rung cap))] (bl true):=afN h
end Go.Proofs.YtklpfooafbjnpaaGreat
