/-
  My own texts,without what this claim does not need. My own text.
-/
import Derived.Test.YtklpfooafbjnpaaGreatSLEndsK15
set_option maxRecDepth 100000
set_option maxHeartbeats 64000000
set_option linter.unusedVariables false
set_option linter.unusedSimpArgs false
set_option linter.unusedSectionVars false
open Go.Proofs.Tryz renaming prog → ah
namespace Go.Proofs.YtklpfooafbjnpaaGreat
open Go.RowKit
open bH
section
variable{E:List (Int×bR)}{r rm:Nat}
theorem TU{b:Nat}{S:dS}{hv fv cv v:Value}{hot fnd:List aq}{ch l:List (List aq×List Int)}:upd (ek b S hv fv cv hot fnd ch) 3 (wa v l)=ek b S hv fv v hot fnd l:=by
  funext i
  match i with
  | 0=>rfl
  | 1=>rfl
  | 2=>rfl
  | 3=>rfl
  | i+4=>rfl
theorem NZ{ch:List (List aq×List Int)}{i:Nat}{ii:Int}{V:List aq}{D:List Int}(hi:ii=i)(h:i<ch.length):eM (ez ch) (ii.toNat*2) [.p (b0 2 V.length (bY V)),.p (b0 1 D.length (cJ D))]=ez (ch.set i (V,D)):=by
  subst hi;rw[kz];have e:ch=ch.take i++ch[i]::ch.drop (i+1):=by rw[←jE h,j8]
  have al:(ez (ch.take i)).length=i*2:=by
    have:=Et (f:=qM) (z:=2) (fun _=>rfl) (ch.take i);unfold ez;rw[this,dV,qn (by omega)]
  have aI:ez ch=ez (ch.take i)++(qM ch[i]++ez (ch.drop (i+1))):=(congrArg ez e).trans (by unfold ez;rw[sy,List.flatMap_cons]);rw[aI,LS al,List.set_eq_take_append_cons_drop,if_pos h];simp[ez,qM]
theorem aap{p q:aq}{bp:List aq}(aA:bp.Nodup):jG (dX (decide ((2:Int)^r*q.1<2^r*p.1)) (decide ((2:Int)^r*q.2<2^r*p.2))) bp=gi p q bp:=by
  rw[Er,Er];exact akM aA (by rw[List.filter_eq_self.2 (fun _ _=>rfl)])
theorem ae0{s:bH.bh aq}{V:List aq}{D:List Int}{p q x:aq}(ao:r≤28)(ak:k7 s.ch)(g1:s.ch[s.I]?=some (V,D))(g2:V[s.J]?=some p)(g3:V[s.J+1]?=some q)(g4:s.hot[s.T]?=some x)(e4:∀d∈D,1≤d∧d≤1048576)
    (hp:dU r p.1 p.2=true) (aj:dU r q.1 q.2=true) (hd:s.dirty=false) (aY:s.hot.length≤1024) (EZ:s.fnd.length≤1024) (uW:(mC (bt E r rm) p q x s.fnd).Nodup) (hZ:s.ph=2):gL E r rm 74 [] s lT (tH (bt E r rm) s (V,D) p q (mC (bt E r rm) p q x s.fnd)):=by
  obtain⟨p1,p2⟩:=p;obtain⟨q1,q2⟩:=q;obtain⟨da,de⟩:=x;obtain⟨ko,hA⟩:=ak.2 _ (cP g1);simp only at ko hA;have bg:=(br.1 g1).1;have kN:=(br.1 g3).1;have eP:=(br.1 g4).1;have an:gY (r:Int) r:=⟨ao,.inr (.inr rfl)⟩;have bc:=K4 (D:=D) g2 g3 (by omega);have bP:=ah9 (E:=E.map Prod.snd) (R:=rm) ao (p:=(p1,p2)) (q:=(q1,q2)) (x:=(da,de)) hp aj;have ec:=F8 (tM an hp) (tM an aj);simp only at bP ec;have jN:=agX (a1:=2^r*p1) (a2:=2^r*p2) (b1:=2^r*q1) (b2:=2^r*q2);obtain⟨k8,pB⟩:=Ao (ii:=(s.I:Int)) rfl g1;have Wp:=adR (ii:=(s.T:Int)) rfl g4;have i0:(0:Int)≤(s.I:Int):=by omega
  have i1:(s.I:Int)<(s.ch.length:Int):=by omega
  have i2:0<s.ch.length:=by omega
  have t0:(0:Int)≤(s.T:Int):=by omega
  have t1:(s.T:Int)<(s.hot.length:Int):=by omega
  have t2:0<s.hot.length:=by omega
  have abq:(s.J:Int)≤1100:=by omega
  have cq:=ak.1
 
  have split:∀bp:List aq,bp=mC (bt E r rm) (p1,p2) (q1,q2) (da,de) s.fnd→bp≠[]→bp.length≤1100→aO ah 140 [gr bp,xA (decide ((2:Int)^r*q1<2^r*p1)) (decide ((2:Int)^r*q2<2^r*p2))] (gr (gi (p1,p2) (q1,q2) bp)) ∧
      aO ah 139 [pw V D,aL s.J,gr (gi (p1,p2) (q1,q2) bp)] (.cd [.agg [.p (b0 2 (bH.du V s.J (gi (p1,p2) (q1,q2) bp)).length (bY (bH.du V s.J (gi (p1,p2) (q1,q2) bp)))),.p (b0 1 (eI D s.J bp.length).length (cJ (eI D s.J bp.length)))],.one (.c (.bool true))]):=by
    intro bp uX cz acr;have aA:bp.Nodup:=by rw[uX];exact uW
    have hlen:(gi (p1,p2) (q1,q2) bp).length=bp.length:=(CL _ _ bp).length_eq;refine⟨?_,?_⟩
    · have:=ahn (fx:=decide ((2:Int)^r*q1<2^r*p1)) (fy:=decide ((2:Int)^r*q2<2^r*p2)) 1100 bp acr (by omega)
      rw[aap (p:=(p1,p2)) (q:=(q1,q2)) aA] at this;exact this
    · have:=aew V D s.J (gi (p1,p2) (q1,q2) bp) ko hA (by omega) (by omega) e4
      have JK:(gi (p1,p2) (q1,q2) bp).isEmpty=false:=by
        cases h:gi (p1,p2) (q1,q2) bp with
        | nil=>rw[h] at hlen;exact absurd (mR hlen.symm) cz
        | cons a l=>rfl
      rw[JK,hlen] at this;exact this
  rintro cs R kL;obtain⟨hv,fv,cv,b,S,lk,hS,dt,gQ,rfl,rfl⟩:=id kL;have dH:∀(I J T:Int) (fv:Value),(e1 E r rm s.ph I J T s.dirty hv fv cv b lk).all AC.aW=true:=fun I J T fv=>by simp only[kA,nG,dt];rfl
  unfold tH;simp only[show (bt E r rm).hq=gi from rfl];cases wF:kn (bt E r rm) (p1,p2) (q1,q2) (da,de) with
  | true =>
    rw[wF] at bP;have Iq:mC (bt E r rm) (p1,p2) (q1,q2) (da,de) s.fnd=s.fnd++[(da,de)]:=by unfold mC;rw[wF];rfl
    rw[Iq] at split ⊢;have acs:(s.fnd++[(da,de)]).length≤1100:=by rw[cY,List.length_singleton];omega
    have cz:s.fnd++[(da,de)]≠[]:=by simp
    obtain⟨oV,zE⟩:=split _ rfl cz acs;clear split uW wF;refine cC (f:=74) Tryz.func74 rfl (cg rfl) (by exact di rfl) ?_;(repeat first|(with_reducible apply dz (id:=1) [10,0,1,2,3,4,5,6,7,8,9,11]);kernel_rfl;kernel_rfl;rfl|(with_reducible apply dz (id:=2) [6,0,1,2,3,4,5,7]);kernel_rfl;kernel_rfl;rfl|(with_reducible apply dz (id:=3) [10,0,1,2,3,4,5,6,7,8,9,11]);kernel_rfl;kernel_rfl;rfl|(with_reducible apply dz (id:=4) [0,1,2,3,4,5,6]);kernel_rfl;kernel_rfl;rfl|(with_reducible apply hN (id:=5) [0,1,2,3,4,5,6,7,8,9,10] [3000048]);kernel_rfl;kernel_rfl;rfl|refine b3 ?_|refine gu ?_|(with_reducible apply kr 1);(iterate 4 rfl);(omega);(assumption);rfl;kernel_rfl;rfl|(with_reducible apply kr 3);(iterate 4 rfl);(omega);(assumption);rfl;kernel_rfl;rfl|(with_reducible apply oz 1);(iterate 3 rfl);(assumption);assumption;rfl;kernel_rfl;rfl|(with_reducible apply oz 3);(iterate 3 rfl);(assumption);assumption;rfl;kernel_rfl;rfl);refine mL 2 rfl rfl rfl rfl ?q1 ?q2 rfl rfl (fun v1 jt => ?_)
    case q1=>exact jg (by show s.fnd.length+1≤1000000;omega)
    case q2=>show (s.fnd.length+1)*16≤140737488355328;omega
    (repeat first|(with_reducible apply dz (id:=7) [0,1,2,3,4,5,6,7,8,9]);kernel_rfl;kernel_rfl;rfl|refine b3 ?_|(with_reducible apply oy 1);(iterate 4 rfl);kernel_rfl;rfl);refine GB (ek b S hv v1 cv s.hot (s.fnd++[(da,de)]) s.ch) (ba.of_eq ajb.symm) ?_
    by_cases uP:s.T+1<s.hot.length
    · rw[if_pos uP]
      have A2:(s.T:Int)+1<(s.hot.length:Int):=by omega
      have fX:ei E r rm {s with fnd:=s.fnd++[(da,de)],T:=s.T+1} (e1 E r rm s.ph s.I s.J ((s.T:Int)+1) s.dirty hv v1 cv b lk) (ek b S hv v1 cv s.hot (s.fnd++[(da,de)]) s.ch):=⟨hv,v1,cv,b,S,lk,hS,dt,gQ,rfl,rfl⟩;(refine aS ?_)
      ((refine dw rfl aM rfl (ba.refl _) fX.closed rfl fF ?_))
      exact⟨_,rfl,rfl,fX⟩
    · rw[if_neg uP,if_neg cz]
      have A2:¬(s.T:Int)+1<(s.hot.length:Int):=by omega
      have JK:¬((s.fnd++[(da,de)]).length:Int)=0:=fun h=>cz (mR (by omega));refine UB 2 1000 9 (jB v1 (s.fnd++[(da,de)])) rfl rfl rfl ?_;refine oo 2 50 2 rfl ?_
      refine GB (ek b S hv (.slice none 0 0) cv s.hot [] s.ch) (fun k q ae=>by
        match k with
        | 0=>exact ae
        | 1=>exact ae
        | 2=>exact ae
        | 3=>exact ae
        | k+4=>cases ae) ?_
      have fX:ei E r rm {s with T:=0,fnd:=[],ch:=s.ch.set s.I (bH.du V s.J (gi (p1,p2) (q1,q2) (s.fnd++[(da,de)])),eI D s.J (s.fnd++[(da,de)]).length)} (e1 E r rm s.ph s.I s.J 0 s.dirty hv (.slice none 0 0) cv b lk) (ek b S hv (.slice none 0 0) cv s.hot [] (s.ch.set s.I (bH.du V s.J (gi (p1,p2) (q1,q2) (s.fnd++[(da,de)])),eI D s.J (s.fnd++[(da,de)]).length))):=⟨hv,_,cv,b,S,lk,hS,dt,(fun h=>absurd (hZ.symm.trans (show s.ph=3 from h)) (by decide)),rfl,rfl⟩
      have lm:upd (ek b S hv (.slice none 0 0) cv s.hot [] s.ch) 3 ⟨53,2,cv,s.ch.length,eM (ez s.ch) ((s.I:Int).toNat*2) [.p (b0 2 (bH.du V s.J (gi (p1,p2) (q1,q2) (s.fnd++[(da,de)]))).length (bY (bH.du V s.J (gi (p1,p2) (q1,q2) (s.fnd++[(da,de)]))))),.p (b0 1 (eI D s.J (s.fnd++[(da,de)]).length).length (cJ (eI D s.J (s.fnd++[(da,de)]).length)))]⟩=ek b S hv (.slice none 0 0) cv s.hot [] (s.ch.set s.I (bH.du V s.J (gi (p1,p2) (q1,q2) (s.fnd++[(da,de)])),eI D s.J (s.fnd++[(da,de)]).length)):=by
        rw[NZ rfl bg,show s.ch.length=(s.ch.set s.I (bH.du V s.J (gi (p1,p2) (q1,q2) (s.fnd++[(da,de)])),eI D s.J (s.fnd++[(da,de)]).length)).length from(List.length_set ..).symm];exact TU
      generalize yC:bH.du V s.J (gi (p1,p2) (q1,q2) (s.fnd++[(da,de)]))=MW at *;generalize Bz:eI D s.J (s.fnd++[(da,de)]).length=xF at *;generalize QA:gi (p1,p2) (q1,q2) (s.fnd++[(da,de)])=L' at *;(repeat first|(with_reducible apply hN (id:=12) [0,1,2,3,4,5,6,7,8,9,10,11,12,13,14,15,16,17,18,19,20,21,22,23,24,25,26,27,28,29,30,31,32] [4000000]);kernel_rfl;kernel_rfl;rfl|refine b3 ?_|refine gu ?_|(with_reducible apply kr 3);(iterate 4 rfl);(omega);(assumption);rfl;kernel_rfl;rfl);refine yy 3 rfl rfl rfl rfl i2 rfl rfl k8.1 rfl ?_;(refine aS ?_)
      ((refine dw rfl aM rfl (ba.of_eq lm.symm) fX.closed rfl fF ?_))
      exact⟨_,rfl,rfl,fX⟩
  | false =>
    rw[wF] at bP;have Iq:mC (bt E r rm) (p1,p2) (q1,q2) (da,de) s.fnd=s.fnd:=by unfold mC;rw[wF];rfl
    rw[Iq] at split ⊢;have amy:=eP
    by_cases cz:s.fnd=[]
    · clear split uW wF
      have cy:({s with fnd:=s.fnd}:bH.bh aq)=s:=rfl;have aF:(s.fnd.length:Int)=0:=by rw[cz];rfl
      have eT:=Re (E:=E) (r:=r) (rm:=rm) (s:={s with T:=0,fnd:=[],J:=s.J+1}) hd rfl ak bg (by show s.J+1≤1100;omega) hZ;have kM:ei E r rm {s with T:=0,fnd:=[],J:=s.J+1} (e1 E r rm s.ph s.I ((s.J:Int)+1) 0 s.dirty hv fv cv b lk) (ek b S hv fv cv s.hot s.fnd s.ch):=⟨hv,fv,cv,b,S,lk,hS,dt,gQ,rfl,by rw[cz]⟩
      by_cases uP:s.T+1<s.hot.length
      · rw[if_pos uP]
        have A2:(s.T:Int)+1<(s.hot.length:Int):=by omega
        have fX:ei E r rm {s with fnd:=s.fnd,T:=s.T+1} (e1 E r rm s.ph s.I s.J ((s.T:Int)+1) s.dirty hv fv cv b lk) (ek b S hv fv cv s.hot s.fnd s.ch):=⟨hv,fv,cv,b,S,lk,hS,dt,gQ,rfl,rfl⟩;refine cC (f:=74) Tryz.func74 rfl (cg rfl) (by exact di rfl) ?_;(repeat first|(with_reducible apply dz (id:=1) [10,0,1,2,3,4,5,6,7,8,9,11]);kernel_rfl;kernel_rfl;rfl|(with_reducible apply dz (id:=2) [6,0,1,2,3,4,5,7]);kernel_rfl;kernel_rfl;rfl|(with_reducible apply dz (id:=3) [10,0,1,2,3,4,5,6,7,8,9,11]);kernel_rfl;kernel_rfl;rfl|(with_reducible apply dz (id:=4) [0,1,2,3,4,5,6]);kernel_rfl;kernel_rfl;rfl|(with_reducible apply dz (id:=7) [0,1,2,3,4,5,6,7,8,9]);kernel_rfl;kernel_rfl;rfl|refine b3 ?_|refine gu ?_|(with_reducible apply oy 1);(iterate 4 rfl);kernel_rfl;rfl|(with_reducible apply kr 1);(iterate 4 rfl);(omega);(assumption);rfl;kernel_rfl;rfl|(with_reducible apply kr 3);(iterate 4 rfl);(omega);(assumption);rfl;kernel_rfl;rfl|(with_reducible apply oz 1);(iterate 3 rfl);(assumption);assumption;rfl;kernel_rfl;rfl|(with_reducible apply oz 3);(iterate 3 rfl);(assumption);assumption;rfl;kernel_rfl;rfl)
        ((refine dw rfl aM rfl (ba.refl _) fX.closed rfl fF ?_))
        exact⟨_,rfl,rfl,fX⟩
      · rw[if_neg uP,if_pos cz]
        have A2:¬(s.T:Int)+1<(s.hot.length:Int):=by omega
        refine cC (f:=74) Tryz.func74 rfl (cg rfl) (by exact di rfl) ?_;(repeat first|(with_reducible apply dz (id:=1) [10,0,1,2,3,4,5,6,7,8,9,11]);kernel_rfl;kernel_rfl;rfl|(with_reducible apply dz (id:=2) [6,0,1,2,3,4,5,7]);kernel_rfl;kernel_rfl;rfl|(with_reducible apply dz (id:=3) [10,0,1,2,3,4,5,6,7,8,9,11]);kernel_rfl;kernel_rfl;rfl|(with_reducible apply dz (id:=4) [0,1,2,3,4,5,6]);kernel_rfl;kernel_rfl;rfl|(with_reducible apply dz (id:=7) [0,1,2,3,4,5,6,7,8,9]);kernel_rfl;kernel_rfl;rfl|refine b3 ?_|refine gu ?_|(with_reducible apply oy 1);(iterate 4 rfl);kernel_rfl;rfl|(with_reducible apply oy 2);(iterate 4 rfl);kernel_rfl;rfl|(with_reducible apply kr 1);(iterate 4 rfl);(omega);(assumption);rfl;kernel_rfl;rfl|(with_reducible apply kr 3);(iterate 4 rfl);(omega);(assumption);rfl;kernel_rfl;rfl|(with_reducible apply oz 1);(iterate 3 rfl);(assumption);assumption;rfl;kernel_rfl;rfl|(with_reducible apply oz 3);(iterate 3 rfl);(assumption);assumption;rfl;kernel_rfl;rfl);refine j2 rfl rfl rfl rfl rfl rfl rfl rfl eT kM (fun aw ap I1 => ?_);(refine aS ?_);obtain⟨Fk,Ex,Ec,dc,zW,FH,EJ,E5,E4,rfl,rfl⟩:=id I1
        ((refine dw rfl aM rfl (ba.refl _) I1.closed rfl fF ?_))
        exact⟨_,rfl,rfl,I1⟩
    obtain⟨oV,zE⟩:=split _ rfl cz (by omega);clear split uW wF;refine cC (f:=74) Tryz.func74 rfl (cg rfl) (by exact di rfl) ?_;(repeat first|(with_reducible apply dz (id:=1) [10,0,1,2,3,4,5,6,7,8,9,11]);kernel_rfl;kernel_rfl;rfl|(with_reducible apply dz (id:=2) [6,0,1,2,3,4,5,7]);kernel_rfl;kernel_rfl;rfl|(with_reducible apply dz (id:=3) [10,0,1,2,3,4,5,6,7,8,9,11]);kernel_rfl;kernel_rfl;rfl|(with_reducible apply dz (id:=4) [0,1,2,3,4,5,6]);kernel_rfl;kernel_rfl;rfl|(with_reducible apply dz (id:=7) [0,1,2,3,4,5,6,7,8,9]);kernel_rfl;kernel_rfl;rfl|refine b3 ?_|refine gu ?_|(with_reducible apply oy 1);(iterate 4 rfl);kernel_rfl;rfl|(with_reducible apply kr 1);(iterate 4 rfl);(omega);(assumption);rfl;kernel_rfl;rfl|(with_reducible apply kr 3);(iterate 4 rfl);(omega);(assumption);rfl;kernel_rfl;rfl|(with_reducible apply oz 1);(iterate 3 rfl);(assumption);assumption;rfl;kernel_rfl;rfl|(with_reducible apply oz 3);(iterate 3 rfl);(assumption);assumption;rfl;kernel_rfl;rfl)
    by_cases uP:s.T+1<s.hot.length
    · rw[if_pos uP]
      have A2:(s.T:Int)+1<(s.hot.length:Int):=by omega
      have fX:ei E r rm {s with fnd:=s.fnd,T:=s.T+1} (e1 E r rm s.ph s.I s.J ((s.T:Int)+1) s.dirty hv fv cv b lk) (ek b S hv fv cv s.hot (s.fnd) s.ch):=⟨hv,fv,cv,b,S,lk,hS,dt,gQ,rfl,rfl⟩;(refine aS ?_)
      ((refine dw rfl aM rfl (ba.refl _) fX.closed rfl fF ?_))
      exact⟨_,rfl,rfl,fX⟩
    · rw[if_neg uP,if_neg cz]
      have A2:¬(s.T:Int)+1<(s.hot.length:Int):=by omega
      have JK:¬((s.fnd).length:Int)=0:=fun h=>cz (mR (by omega));refine UB 2 1000 9 (jB fv (s.fnd)) rfl rfl rfl ?_;refine oo 2 50 2 rfl ?_
      refine GB (ek b S hv (.slice none 0 0) cv s.hot [] s.ch) (fun k q ae=>by
        match k with
        | 0=>exact ae
        | 1=>exact ae
        | 2=>exact ae
        | 3=>exact ae
        | k+4=>cases ae) ?_
      have fX:ei E r rm {s with T:=0,fnd:=[],ch:=s.ch.set s.I (bH.du V s.J (gi (p1,p2) (q1,q2) (s.fnd)),eI D s.J (s.fnd).length)} (e1 E r rm s.ph s.I s.J 0 s.dirty hv (.slice none 0 0) cv b lk) (ek b S hv (.slice none 0 0) cv s.hot [] (s.ch.set s.I (bH.du V s.J (gi (p1,p2) (q1,q2) (s.fnd)),eI D s.J (s.fnd).length))):=⟨hv,_,cv,b,S,lk,hS,dt,(fun h=>absurd (hZ.symm.trans (show s.ph=3 from h)) (by decide)),rfl,rfl⟩
      have lm:upd (ek b S hv (.slice none 0 0) cv s.hot [] s.ch) 3 ⟨53,2,cv,s.ch.length,eM (ez s.ch) ((s.I:Int).toNat*2) [.p (b0 2 (bH.du V s.J (gi (p1,p2) (q1,q2) (s.fnd))).length (bY (bH.du V s.J (gi (p1,p2) (q1,q2) (s.fnd))))),.p (b0 1 (eI D s.J (s.fnd).length).length (cJ (eI D s.J (s.fnd).length)))]⟩=ek b S hv (.slice none 0 0) cv s.hot [] (s.ch.set s.I (bH.du V s.J (gi (p1,p2) (q1,q2) (s.fnd)),eI D s.J (s.fnd).length)):=by
        rw[NZ rfl bg,show s.ch.length=(s.ch.set s.I (bH.du V s.J (gi (p1,p2) (q1,q2) s.fnd),eI D s.J s.fnd.length)).length from(List.length_set ..).symm];exact TU
      generalize yC:bH.du V s.J (gi (p1,p2) (q1,q2) (s.fnd))=MW at *;generalize Bz:eI D s.J (s.fnd).length=xF at *;generalize QA:gi (p1,p2) (q1,q2) (s.fnd)=L' at *;(repeat first|(with_reducible apply hN (id:=12) [0,1,2,3,4,5,6,7,8,9,10,11,12,13,14,15,16,17,18,19,20,21,22,23,24,25,26,27,28,29,30,31,32] [4000000]);kernel_rfl;kernel_rfl;rfl|refine b3 ?_|refine gu ?_|(with_reducible apply kr 3);(iterate 4 rfl);(omega);(assumption);rfl;kernel_rfl;rfl);refine yy 3 rfl rfl rfl rfl i2 rfl rfl k8.1 rfl ?_;(refine aS ?_)
      ((refine dw rfl aM rfl (ba.of_eq lm.symm) fX.closed rfl fF ?_))
      exact⟨_,rfl,rfl,fX⟩
end
section
variable{P:Program}{R:aE}{s:aB}{ops:Array Oper}{dr:Option (List Nat)}{ty:Nat}{pos:String}{after:Array Edge}{guard:Option (Nat×Bool)}{K:aE→aB→Prop}{rest:List Oper}
theorem Br{bs:List Value}{dst:Option Nat}{f:FuncId}{g:Operand}{az:Array TypeId}{l:List Operand}{args:List ag}{m0:Mem}{R0:aE}{Post:ag→Mem→aE→Prop} [E:Enters P f](hw:want ops ⟨dst,.call ⟨.value g,l.toArray,az⟩,ty,pos,after,guard⟩ s=some true)(hm:dT dr ⟨dst,.call ⟨.value g,l.toArray,az⟩,ty,pos,after,guard⟩=true)
  (au:s.look g=some (aQ (.func (.func f) bs.toArray #[]))) (aa:bs.all DU=true) (aX:bs.map (fun b=>some (yU b))++l.map s.look=args.map some) (hp:cb P f args m0 R0 Post) (aC:∀x∈args,∀j,x.owns j→∃cs,m0 j=some cs) (lj:∀k cs,m0 k=some cs→s.mem k=some cs∧(pv dr k=true∨∀r aG ap,Post r aG ap→aG k=some cs)) (ao:ba R0 R) (fk:∀k cs x j,m0 k=some cs→x∈cs→x.owns j→∃aw,m0 j=some aw) (hd:kk dst s.n=true)
  (h:∀r aG ap,Post r aG ap→(∀k aw,aG k=some aw→(∃cs,m0 k=some cs)∨(s.mem k=none∧k<s.n))∧cI P ops dr K rest (bK ap R) ((s.over aG).put dst r)):cI P ops dr K (⟨dst,.call ⟨.value g,l.toArray,az⟩,ty,pos,after,guard⟩::rest) R s:=by
 refine⟨true,hw,Ig hd,.inr (.inr (.inr (.inr (.inl ⟨rfl,hm,f,args,m0,R0,Post,⟨⟨_,g,rfl,rfl,.inl ⟨bs,au,?_,aa⟩⟩,E.h⟩,hp,aC,lj,ao,fk,fun r aG ap h1 _ _ _=>h r aG ap h1⟩))))⟩;simpa using aX
theorem YQ(g e off:Nat)(cs:List AC):og g off=kB (eu g e cs).v off:=by
 show og g off = .pointer (some ((⟨g,0,none⟩:Addr).add off));rw[DG,iR]
theorem pf{x:Operand}{d lt off g e:Nat}{cs:List AC}{c1:AC}(i:Nat) [T:e8 P lt false 1](hi:R i=some (eu g e cs))(hw:want ops ⟨some d,.load lt x,ty,pos,after,guard⟩ s=some true)(ab:s.look x=some (aQ (og g off)))(aR:cs[off]?=some c1)(ak:(ag.w (.one c1)).aW=true)(ao:vq ops dr (some d)=true)(hd:Nat.blt d s.n=true)(h:cI P ops dr K rest R (s.put (some d) (.w (.one c1)))):cI P ops dr K (⟨some d,.load lt x,ty,pos,after,guard⟩::rest) R s :=
 Bs i hi hw (by rw[ab,YQ g e off cs]) Nat.one_pos aR ak ao hd h
end
theorem pV{P:Program}{fn:Func}{l:List ResultVar}{xs:List bD}{R R0 bf:aE}{s:aB}{Post:ag→Mem→aE→Prop}(ao:fn.results=l.toArray)(h:l.map (gJ P s)=xs.map some)(an:ba bf R)(ab:(packed xs).aW=true)(aF:∀i r,R0 i=some r→∃bd,bf i=some bd)(hp:Post (packed xs) bA bf):tr P fn bA R0 Post R s :=
 ⟨xs,packed xs,bA,bf,by rw[ao];exact h,.refl _,hp,fun k c h=>(by cases h),an,fun j af=>absurd af (ag.c6 ab j),fun k c x j h=>(by cases h),fun k c h=>(by cases h),aF⟩
theorem ei.pI{E:List (Int×bR)}{r rm:Nat}{s:bH.bh aq}{cs:List AC}{R:aE}(h:ei E r rm s cs R):R 9=none∧cs.all AC.aW=true∧0<cs.length:=by
 refine⟨?_,h.closed,?_⟩
 ·obtain⟨_,_,_,_,_,_,_,_,_,_,rfl⟩:=h;rfl
 ·obtain⟨_,_,_,_,_,_,_,_,_,rfl,_⟩:=h;exact gz _
section
variable{E:List (Int×bR)}{r rm:Nat}
theorem Gw{f:FuncId}{s s1:bH.bh aq}{v:ag}{cs:List AC}{R:aE}(tz:v.aW=true)(hp:gL E r rm f [] s v s1)(bg:ei E r rm s cs R)(g e:Nat):cb ah f [aQ (bJ g)] bA (upd R 9 (eu g e cs)) fun bx aG ap=>∃aw bf e',(bx=v∧ei E r rm s1 aw bf)∧aG=bA∧ap=upd bf 9 (eu g e' aw):=by
 have h:=(hp cs R bg).GR 9 g e rfl bg.pI.2.1 bg.pI.2.2 bg.pI.1 (fun bx aG ap aj=>by
  obtain⟨aw,rfl,rfl,aj⟩:=aj;exact⟨tz,aj.pI.1,aw,rfl,aj.pI.2.1,aj.pI.2.2⟩)
 refine⟨fun U ad W vs b8 c7 cL=>(h.call U ad W vs b8 c7 cL).mono ?_⟩;rintro cy W' ⟨v1,cr,aG,ap,aT,cj,dl,⟨aw,bf,e',⟨fV,he,aj⟩,rfl,rfl⟩,iP⟩
 have:fV=aw:=by
  have h1:cF 1000 aw 1000=some aw:=by unfold cF;exact bW _ _ _
  rw[he] at h1;exact(h5 h1).2.symm
 subst this;exact⟨v1,cr,bA,_,aT,cj,dl,⟨fV,bf,e',aj,rfl,rfl⟩,iP⟩
theorem Gv{f:FuncId}{args:List ag}{s s1:bH.bh aq}{v:ag}(tz:v.aW=true)(dq:args.all ag.aW=true)(h:∀cs R,ei E r rm s cs R→∀g e,cb ah f (aQ (bJ g)::args) bA (upd R 9 (eu g e cs)) fun bx aG ap=>∃aw bf e',(bx=v∧ei E r rm s1 aw bf)∧aG=bA∧ap=upd bf 9 (eu g e' aw)):gL E r rm f args s v s1:=by
 intro cs R bg;refine cb.Vi 9 (fun g e => ?_) dq bg.pI.2.1 bg.pI.2.2 bg.pI.1 (fun bx aw ap aj => ?_)
 ·refine⟨fun U ad W vs b8 c7 cL=>((h cs R bg g e).call U ad W vs b8 c7 cL).mono ?_⟩;rintro cy W' ⟨v1,cr,aG,ap,aT,cj,dl,⟨aw,bf,e',aj,rfl,rfl⟩,iP⟩;exact⟨v1,cr,bA,_,aT,cj,dl,⟨aw,bf,e',⟨aw,rfl,aj⟩,rfl,rfl⟩,iP⟩
 ·obtain⟨fV,he,rfl,aj⟩:=aj
  have:fV=aw:=by
   have h1:cF 1000 aw 1000=some aw:=by unfold cF;exact bW _ _ _
   rw[he] at h1;exact(h5 h1).2.symm
  subst this;exact⟨tz,aj.pI.1,aj.pI.2.1,aj.pI.2.2⟩
theorem Gt{s s1:bH.bh aq}{cs aw:List AC}{R ap:aE}{g e e':Nat}(h:ei E r rm s cs R)(aJ:ei E r rm s1 aw ap):∀i q,upd R 9 (eu g e cs) i=some q→∃cG,upd ap 9 (eu g e' aw) i=some cG:=by
 obtain⟨_,_,_,_,_,_,_,_,_,_,rfl⟩:=h;obtain⟨_,_,_,_,_,_,_,_,_,_,rfl⟩:=aJ;intro i q aj
 by_cases ld:i=9
 ·subst ld;exact⟨_,bW _ _ _⟩
 ·rw[bM _ _ ld] at aj;obtain⟨cG,lK⟩:=fF i q aj;exact⟨cG,by rw[bM _ _ ld];exact lK⟩
theorem Gu{s s1:bH.bh aq}{cs aw:List AC}{R ap:aE}{g e e':Nat}(h:ei E r rm s cs R)(aJ:ei E r rm s1 aw ap):bK (upd ap 9 (eu g e' aw)) (upd R 9 (eu g e cs))=upd ap 9 (eu g e' aw):=by
 have aC:=h.bK aJ;funext i
 by_cases ld:i=9
 ·subst ld;exact(fz (bW _ _ _)).trans (bW _ _ _).symm
 ·have:bK ap R i=ap i:=congrFun aC i;unfold bK at this ⊢;rw[bM _ _ ld,bM _ _ ld];exact this
theorem aeB{s s1:bH.bh aq}(hZ:s.ph=0)(hp:gL E r rm 72 [] s lT s1):gL E r rm 22 [] s (bl true) s1:=by
 refine Gv rfl rfl fun cs R bg g e => ?_;have bc:=Gw rfl hp bg g e;obtain⟨ph,I,J,T,dirty,hot,fnd,ch⟩:=s;obtain rfl:ph=0:=hZ;obtain⟨hv,fv,cv,b,S,lk,hS,dt,gQ,rfl,rfl⟩:=id bg;refine cC (f:=22) Tryz.func22 rfl (cg rfl) (by exact jm) ?_;(refine aS ?_);refine pf 9 rfl rfl rfl rfl rfl rfl rfl ?_;(refine aS ?_);refine pf 9 rfl rfl rfl rfl rfl rfl rfl ?_;(refine aS ?_);refine Br (bs:=[bJ g]) (args:=[aQ (bJ g)]) (l:=[]) rfl rfl rfl rfl rfl bc (fun x ab j af=>by simp at ab;subst ab;exact absurd af (gG _ j)) (fun k c h=>by cases h) (ba.refl _) (fun k c x j h=>by cases h) rfl (fun bx aG ap aj => ?_);obtain⟨aw,bf,e',⟨rfl,b9⟩,rfl,rfl⟩:=aj;refine⟨fun k c h=>(by cases h),?_⟩;rw[Gu bg b9,ss];(refine aS ?_)
 ((refine pV rfl (aZ rfl aM) (ba.refl _) rfl (Gt bg b9) ?_))
 exact⟨aw,bf,e',⟨rfl,b9⟩,rfl,rfl⟩
theorem aeC{s s1:bH.bh aq}(hZ:s.ph=1)(hp:gL E r rm 73 [] s lT s1):gL E r rm 22 [] s (bl true) s1:=by
 refine Gv rfl rfl fun cs R bg g e => ?_;have bc:=Gw rfl hp bg g e;obtain⟨ph,I,J,T,dirty,hot,fnd,ch⟩:=s;obtain rfl:ph=1:=hZ;obtain⟨hv,fv,cv,b,S,lk,hS,dt,gQ,rfl,rfl⟩:=id bg;refine cC (f:=22) Tryz.func22 rfl (cg rfl) (by exact jm) ?_;(refine aS ?_);refine pf 9 rfl rfl rfl rfl rfl rfl rfl ?_;(refine aS ?_);refine pf 9 rfl rfl rfl rfl rfl rfl rfl ?_;(refine aS ?_);refine Br (bs:=[bJ g]) (args:=[aQ (bJ g)]) (l:=[]) rfl rfl rfl rfl rfl bc (fun x ab j af=>by simp at ab;subst ab;exact absurd af (gG _ j)) (fun k c h=>by cases h) (ba.refl _) (fun k c x j h=>by cases h) rfl (fun bx aG ap aj => ?_);obtain⟨aw,bf,e',⟨rfl,b9⟩,rfl,rfl⟩:=aj;refine⟨fun k c h=>(by cases h),?_⟩;rw[Gu bg b9,ss];(refine aS ?_)
 ((refine pV rfl (aZ rfl aM) (ba.refl _) rfl (Gt bg b9) ?_))
 exact⟨aw,bf,e',⟨rfl,b9⟩,rfl,rfl⟩
theorem aeD{s s1:bH.bh aq}(hZ:s.ph=2)(hp:gL E r rm 74 [] s lT s1):gL E r rm 22 [] s (bl true) s1:=by
 refine Gv rfl rfl fun cs R bg g e => ?_;have bc:=Gw rfl hp bg g e;obtain⟨ph,I,J,T,dirty,hot,fnd,ch⟩:=s;obtain rfl:ph=2:=hZ;obtain⟨hv,fv,cv,b,S,lk,hS,dt,gQ,rfl,rfl⟩:=id bg;refine cC (f:=22) Tryz.func22 rfl (cg rfl) (by exact jm) ?_;(refine aS ?_);refine pf 9 rfl rfl rfl rfl rfl rfl rfl ?_;(refine aS ?_);refine pf 9 rfl rfl rfl rfl rfl rfl rfl ?_;(refine aS ?_);refine Br (bs:=[bJ g]) (args:=[aQ (bJ g)]) (l:=[]) rfl rfl rfl rfl rfl bc (fun x ab j af=>by simp at ab;subst ab;exact absurd af (gG _ j)) (fun k c h=>by cases h) (ba.refl _) (fun k c x j h=>by cases h) rfl (fun bx aG ap aj => ?_);obtain⟨aw,bf,e',⟨rfl,b9⟩,rfl,rfl⟩:=aj;refine⟨fun k c h=>(by cases h),?_⟩;rw[Gu bg b9,ss];(refine aS ?_)
 ((refine pV rfl (aZ rfl aM) (ba.refl _) rfl (Gt bg b9) ?_))
 exact⟨aw,bf,e',⟨rfl,b9⟩,rfl,rfl⟩
theorem aeE{s s1:bH.bh aq}(hZ:s.ph=3)(hp:gL E r rm 75 [] s lT s1):gL E r rm 22 [] s (bl true) s1:=by
 refine Gv rfl rfl fun cs R bg g e => ?_;have bc:=Gw rfl hp bg g e;obtain⟨ph,I,J,T,dirty,hot,fnd,ch⟩:=s;obtain rfl:ph=3:=hZ;obtain⟨hv,fv,cv,b,S,lk,hS,dt,gQ,rfl,rfl⟩:=id bg;refine cC (f:=22) Tryz.func22 rfl (cg rfl) (by exact jm) ?_;(refine aS ?_);refine pf 9 rfl rfl rfl rfl rfl rfl rfl ?_;(refine aS ?_);refine pf 9 rfl rfl rfl rfl rfl rfl rfl ?_;(refine aS ?_);refine Br (bs:=[bJ g]) (args:=[aQ (bJ g)]) (l:=[]) rfl rfl rfl rfl rfl bc (fun x ab j af=>by simp at ab;subst ab;exact absurd af (gG _ j)) (fun k c h=>by cases h) (ba.refl _) (fun k c x j h=>by cases h) rfl (fun bx aG ap aj => ?_);obtain⟨aw,bf,e',⟨rfl,b9⟩,rfl,rfl⟩:=aj;refine⟨fun k c h=>(by cases h),?_⟩;rw[Gu bg b9,ss];(refine aS ?_)
 ((refine pV rfl (aZ rfl aM) (ba.refl _) rfl (Gt bg b9) ?_))
 exact⟨aw,bf,e',⟨rfl,b9⟩,rfl,rfl⟩
theorem Q9{s:bH.bh aq}(hZ:4≤s.ph)(amM:s.ph≤5):gL E r rm 22 [] s (bl false) s:=by
 intro cs R bg;obtain⟨hv,fv,cv,b,S,lk,hS,dt,gQ,rfl,rfl⟩:=id bg;have aK:(s.ph:Int)≥4:=by omega
 refine cC (f:=22) Tryz.func22 rfl (cg rfl) (by exact di rfl) ?_;(refine aS ?_)
 ((refine dw rfl (aZ rfl aM) rfl (ba.refl _) bg.closed rfl fF ?_))
 exact⟨_,rfl,rfl,bg⟩
end
section
variable{E:List (Int×bR)}{r rm:Nat}
abbrev Ds(E:List (Int×bR))(r rm:Nat)(s:bH.bh aq):Prop:=kG (bt E r rm) (yV (E.map Prod.snd) r) s
structure ie (E:List (Int×bR)) (r rm:Nat):Prop where
 r:r≤28
 near:jw (E.map Prod.snd)=true
 len:E.length≤300
 pos:1≤rm
 room:rm≤1024
theorem ie.ok(h:ie E r rm):na (bt E r rm) (yV (E.map Prod.snd) r):=aji h.r h.near
theorem ie.n(E:List (Int×bR))(r rm:Nat):(bt E r rm).n=E.length:=jC ..
theorem ie.we(h:ie E r rm){s:bH.bh aq}(aa:iH (bt E r rm) s)(al:lC (bt E r rm) (yV (E.map Prod.snd) r) s):k7 s.ch:=by
 have hlen:=al.len;rw[ie.n] at hlen;refine⟨by have:=h.len;omega,fun c ak => ?_⟩;obtain⟨i,hi⟩:=kx ak;have h1:=(Ib h.ok aa al ak).1;have h2:(bt E r rm).R=rm:=rfl;have:=h.room;exact⟨(al.iW i c hi).len,by omega⟩
theorem ie.hot(h:ie E r rm){s:bH.bh aq}(aa:iH (bt E r rm) s):s.hot.length≤1024:=by
 have h1:=aa.room;have h2:(bt E r rm).R=rm:=rfl;have:=h.room;omega
theorem aeA{s:bH.bh aq}(h:ie E r rm)(bg:Ds E r rm s):gL E r rm 22 [] s (bl (decide (s.ph<4))) (eG (bt E r rm) s):=by
 obtain⟨aa,aF|h1|h2|ar|aK|bX⟩:=bg
 ·have e:eG (bt E r rm) s=rV (bt E r rm) s:=by simp only[eG,aF.ph]
  rw[e,aF.ph];have hi:=aF.I;rw[ie.n] at hi;exact aeB aF.ph (aeX h.r h.near h.len hi aF.dirty aF.fnd (h.hot aa) aF.ph)
 ·have e:eG (bt E r rm) s=su (bt E r rm) s:=by simp only[eG,h1.ph]
  rw[e,h1.ph];have hi:=h1.J;rw[ie.n] at hi;exact aeC h1.ph (aeZ h.r h.near h.len h1.vN hi h1.dirty h1.fnd (h.hot aa) h1.ph)
 ·obtain⟨c,p,q,g1,g2,g3,ay⟩:=h2.link;have g4:=bG h2.T;generalize s.hot[s.T]'h2.T=x at g4
  have e:eG (bt E r rm) s=tH (bt E r rm) s c p q (mC (bt E r rm) p q x s.fnd):=by
   simp only[eG,h2.ph,za,g1,g2,g3,g4]
  rw[e,h2.ph];have ak:=h2.laid.iW _ _ g1;have hd:=Ib h.ok aa h2.laid (cP g1);have an:(bt E r rm).R=rm:=rfl;have amP:=h.room;obtain⟨V,D⟩:=c;have hp:=aa.hb _ (ak.hot p (cP g2));have aj:=aa.hb _ (ak.hot q (cP g3));have aY:=h.hot aa
  have uW:(mC (bt E r rm) p q x s.fnd)=(s.hot.take (s.T+1)).filter (kn (bt E r rm) p q):=by
   rw[ON g4,ay];unfold mC
   split <;> simp[*]
  refine aeD h2.ph (ae0 h.r (h.we aa h2.laid) g1 g2 g3 g4 (fun d tn => ?_) hp aj h2.dirty aY ?_ ?_ h2.ph)
  ·have:=hd.2 d tn;omega
  ·rw[ay];refine eL (List.length_filter_le ..) ?_;rw[dV];omega
  ·rw[uW];exact(aa.nd.sublist (List.take_sublist ..)).filter _
 ·have e:eG (bt E r rm) s=tI (bt E r rm) s:=by simp only[eG,ar.ph]
  rw[e,ar.ph];have ak:=h.we aa ar.laid;refine aeE ar.ph (aeY h.r ak ?_ ar.vN ar.J (fun l al => ?_) ar.fnd (h.hot aa) ar.ph)
  ·have:=ar.J;cases yh:s.ch with
   | nil=>rw[yh] at this;simp[bi] at this
   | cons=>exact gz _
  ·obtain⟨_,a1,a2⟩:=FG h.ok ar.laid al;exact⟨aa.hb _ a1,aa.hb _ a2⟩
 ·have e:eG (bt E r rm) s=s:=by simp only[eG,aK.ph]
  rw[e,aK.ph];exact Q9 (by rw[aK.ph];decide) (by rw[aK.ph];decide)
 ·have e:eG (bt E r rm) s=s:=by simp only[eG,bX.ph]
  rw[e,bX.ph];exact Q9 (by rw[bX.ph];decide) (by rw[bX.ph];decide)
end
structure dR where
 k:Nat
 st:Nat
 s:bH.bh aq
section
variable{E:List (Int×bR)}{rm:Nat}
def gT(E:List (Int×bR))(rm k:Nat):dR:=⟨k,0,iy (bt E k rm)⟩
def fL(E:List (Int×bR))(rm:Nat)(l:dR):dR :=
 if 4≤l.s.ph then l else if (eG (bt E l.k rm) l.s).ph=5 then ⟨l.k+1,l.st+1,iy (bt E (l.k+1) rm)⟩ else ⟨l.k,l.st+1,eG (bt E l.k rm) l.s⟩
def e6(E:List (Int×bR))(rm:Nat):Nat→dR→Nat×dR
 | 0,l=>(0,l)
 | n+1,l=>if 4≤l.s.ph then(0,l) else((e6 E rm n (fL E rm l)).1+1,(e6 E rm n (fL E rm l)).2)
theorem ajF{l:dR}(h:4≤l.s.ph):∀n,e6 E rm n l=(0,l)
 | 0=>rfl
 | n+1=>if_pos h
structure jl (E:List (Int×bR)) (rm:Nat) (l:dR):Prop where
 fit:ie E l.k rm
 inv:Ds E l.k rm l.s
 KS:l.s.ph≠5
 last:l.k=28→l.s.ph=4∨∃m,One (bt E 28 rm) (0,0) m l.s
theorem jl.up{l:dR}(h:jl E rm l)(aK:¬ 4≤l.s.ph)(bX:(eG (bt E l.k rm) l.s).ph=5):l.k<28:=by
 have ae:=h.fit.r;rcases h7 l.k 28 with q|q
 ·exact q
 ·have e:l.k=28:=by omega
  rcases h.last e with q4|⟨m,AV⟩
  ·omega
  ·have nm:=h.fit;have hinv:=h.inv;rw[e] at nm hinv bX;have AW:One (bt E 28 rm) (0,0) (m+1) l.s:=⟨AV.hot,AV.left.imp (fun x=>⟨x.1,Nat.le_succ_of_le x.2⟩) fun y=>y.imp (fun x=>⟨x.1,Nat.le_succ_of_le x.2⟩) id⟩;have:=(U3 nm.ok (T6 nm.near nm.pos) hinv AW).left;omega
theorem agL(aA:0<E.length):∃m,One (bt E 28 rm) (0,0) m (iy (bt E 28 rm)):=by
 refine⟨(bt E 28 rm).n+(bt E 28 rm).n*(bt E 28 rm).n,fun x ab=>(by cases ab),.inl ⟨if_neg (by rw[ie.n];omega),?_⟩⟩;show (bt E 28 rm).n-0+(bt E 28 rm).n*(bt E 28 rm).n≤(bt E 28 rm).n+(bt E 28 rm).n*(bt E 28 rm).n;omega
theorem yP{k:Nat}(ay:ie E k rm):jl E rm (gT E rm k):=by
 have cy:(iy (bt E k rm)).ph=if E.length=0 then 4 else 0:=by
  show (if (bt E k rm).n=0 then 4 else 0)=_;rw[ie.n]
 refine⟨ay,R3 _ _,?_,fun ae => ?_⟩
 ·show (iy (bt E k rm)).ph≠5;rw[cy];split <;> omega
 ·have ae:k=28:=ae;subst ae
  by_cases aF:E.length=0
  ·left;show (iy (bt E 28 rm)).ph=4;rw[cy,if_pos aF]
  ·exact .inr (agL (by omega))
theorem jl.step{l:dR}(h:jl E rm l):jl E rm (fL E rm l):=by
 unfold fL
 by_cases aK:4≤l.s.ph
 ·rw[if_pos aK];exact h
 ·rw[if_neg aK]
  by_cases bX:(eG (bt E l.k rm) l.s).ph=5
  ·rw[if_pos bX];have ae:=h.up aK bX;exact⟨⟨ae,h.fit.near,h.fit.len,h.fit.pos,h.fit.room⟩,R3 _ _,(yP (E:=E) (rm:=rm) (k:=l.k+1) ⟨ae,h.fit.near,h.fit.len,h.fit.pos,h.fit.room⟩).KS,(yP (E:=E) (rm:=rm) (k:=l.k+1) ⟨ae,h.fit.near,h.fit.len,h.fit.pos,h.fit.room⟩).last⟩
  ·rw[if_neg bX];refine⟨h.fit,(L0 h.fit.ok h.inv).1,bX,fun ae => ?_⟩;have ae:l.k=28:=ae;rcases h.last ae with q4|⟨m,AV⟩
   ·omega
   ·have nm:=h.fit;have hinv:=h.inv;rw[ae] at nm hinv;show (eG (bt E l.k rm) l.s).ph=4∨∃m,One (bt E 28 rm) (0,0) m (eG (bt E l.k rm) l.s);rw[ae];exact .inr ⟨m,U3 nm.ok (T6 nm.near nm.pos) hinv ⟨AV.hot,AV.left.imp (fun x=>⟨x.1,Nat.le_succ_of_le x.2⟩) fun y=>y.imp (fun x=>⟨x.1,Nat.le_succ_of_le x.2⟩) id⟩⟩
def qK(n rm:Nat):Nat:=8*(rm+2)*((n*rm+1)*(n*rm+1))
def pi(E:List (Int×bR))(rm:Nat)(l:dR):Nat:=(28-l.k)*qK E.length rm+eS (bt E l.k rm) l.s
theorem R4(k:Nat)(ao:1≤rm):eS (bt E k rm) (iy (bt E k rm))≤qK E.length rm:=by
 have:=agi (bt E k rm) (show 0<rm by omega);rw[ie.n] at this;exact this
theorem jl.less{l:dR}(h:jl E rm l)(aK:¬ 4≤l.s.ph):pi E rm (fL E rm l)<pi E rm l:=by
 have u2:=(L0 h.fit.ok h.inv).2.1 (by omega);unfold fL;rw[if_neg aK]
 by_cases bX:(eG (bt E l.k rm) l.s).ph=5
 ·rw[if_pos bX];have ae:=h.up aK bX;have aA:=R4 (E:=E) (l.k+1) h.fit.pos;unfold pi;show (28-(l.k+1))*qK E.length rm+eS (bt E (l.k+1) rm) (iy (bt E (l.k+1) rm))<_;rw[show 28-l.k=(28-(l.k+1))+1 by omega,lP,Nat.one_mul];omega
 ·rw[if_neg bX];unfold pi;show (28-l.k)*qK E.length rm+eS (bt E l.k rm) (eG (bt E l.k rm) l.s)<_;omega
theorem Lu:∀(n:Nat) {l:dR},jl E rm l→jl E rm (e6 E rm n l).2
 | 0,l,h=>h
 | n+1,l,h=>by
  unfold e6
  split
  ·exact h
  ·exact Lu n h.step
theorem Uq:∀(n:Nat) (l:dR),(e6 E rm n l).1≤n
 | 0,l=>cH 0
 | n+1,l=>by
  unfold e6
  split
  ·exact dy _
  ·exact Nat.succ_le_succ (Uq n _)
theorem U4{l:dR}(aK:¬ 4≤l.s.ph):(fL E rm l).st=l.st+1:=by
 unfold fL;rw[if_neg aK];split <;> rfl
theorem akN{l:dR}:l.k≤(fL E rm l).k:=by
 unfold fL
 split
 ·exact cH _
 ·split
  ·exact Nat.le_succ _
  ·exact cH _
theorem Lv:∀(n:Nat) (l:dR),(e6 E rm n l).2.st=l.st+(e6 E rm n l).1∧l.k≤(e6 E rm n l).2.k
 | 0,l=>⟨rfl,cH _⟩
 | n+1,l=>by
  unfold e6
  split
  ·exact⟨rfl,cH _⟩
  ·rename_i aK;obtain⟨h1,h2⟩:=Lv n (fL E rm l);rw[U4 aK] at h1;exact⟨by show (e6 E rm n (fL E rm l)).2.st=l.st+((e6 E rm n (fL E rm l)).1+1);omega,eL akN h2⟩
theorem Ur:∀(n:Nat) {l:dR},jl E rm l→(e6 E rm n l).1+pi E rm (e6 E rm n l).2≤pi E rm l
 | 0,l,_=>by show 0+_≤_;rw[iR];exact cH _
 | n+1,l,h=>by
  unfold e6
  split
  ·show 0+_≤_;rw[iR];exact cH _
  ·rename_i aK;have h1:=Ur n h.step;have h2:=h.less aK;show (e6 E rm n (fL E rm l)).1+1+pi E rm (e6 E rm n (fL E rm l)).2≤pi E rm l;omega
theorem Up:∀(n:Nat) {l:dR},jl E rm l→pi E rm l≤n→(e6 E rm n l).2.s.ph=4
 | 0,l,h,aA=>by
  have bX:=h.KS
  have hle:l.s.ph≤5:=by
   obtain⟨_,q|q|q|q|q|q⟩:=h.inv <;> (have:=q.ph;omega)
  by_cases aK:4≤l.s.ph
  ·show l.s.ph=4;omega
  ·have:=h.less aK;omega
 | n+1,l,h,aA=>by
  unfold e6
  split
  ·rename_i aK;have bX:=h.KS
   have hle:l.s.ph≤5:=by
    obtain⟨_,q|q|q|q|q|q⟩:=h.inv <;> (have:=q.ph;omega)
   show l.s.ph=4;omega
  ·rename_i aK;have:=h.less aK;exact Up n h.step (by omega)
theorem R2{k:Nat}(ay:ie E k rm):pi E rm (gT E rm k)≤29*qK E.length rm:=by
 have:=R4 (E:=E) k ay.pos;have h2:(28-k)*qK E.length rm≤28*qK E.length rm:=h8 _ (by omega);unfold pi gT;show (28-k)*qK E.length rm+eS (bt E k rm) (iy (bt E k rm))≤_;omega
end
section
variable{E:List (Int×bR)}{r rm:Nat}
theorem Kl{s:bH.bh aq}:gL E r rm 23 [] s (aL s.ph) s:=by
 intro cs R bg;obtain⟨hv,fv,cv,b,S,lk,hS,dt,gQ,rfl,rfl⟩:=id bg;refine cC (f:=23) Tryz.func23 rfl (cg rfl) (by exact di rfl) ?_;(refine aS ?_)
 ((refine dw rfl (aZ rfl aM) rfl (ba.refl _) bg.closed rfl fF ?_))
 exact⟨_,rfl,rfl,bg⟩
def x4(ch:List (List aq×List Int)):Int:=ch.foldl (fun a c=>max a (mB c.2)) 0
theorem ZE{ch:List (List aq×List Int)}{k:Nat}{c:List aq×List Int}(h:ch[k]?=some c):x4 (ch.take (k+1))=max (x4 (ch.take k)) (mB c.2):=by
 have ae:=(br.1 h).1
 have e:ch.take (k+1)=ch.take k++[c]:=by
  rw[ls ae,(br.1 h).2]
 unfold x4;rw[e,List.foldl_append];rfl
def Wk(E:List (Int×bR))(r rm:Nat)(s:bH.bh aq)(hv fv cv:Value)(b:Nat)(S:dS)(lk:AC)(n:Nat)(R:aE)(az:List (Nat×ag))(aU:List (Nat×List AC)):Prop :=
 ∃(k:Nat) (ef d:Int),k≤s.ch.length∧n=s.ch.length-k∧ef=k∧d=x4 (s.ch.take k)∧R=ek b S hv fv cv s.hot s.fnd s.ch∧az=[(3,aL d),(10,aQ cv),(11,aL s.ch.length),(12,aL ef)]∧aU=[(1000,e1 E r rm s.ph s.I s.J s.T s.dirty hv fv cv b lk)]
theorem aeg{s:bH.bh aq}(ak:k7 s.ch):gL E r rm 24 [] s (aL (x4 s.ch)) s:=by
 intro cs R bg;obtain⟨hv,fv,cv,b,S,lk,hS,dt,gQ,rfl,rfl⟩:=id bg;refine cC (f:=24) Tryz.func24 rfl (cg rfl) (by exact di rfl) ?_;(repeat first|refine b3 ?_|(with_reducible apply oy 3);(iterate 4 rfl);kernel_rfl;rfl);refine jk 22 (Wk E r rm s hv fv cv b S lk) s.ch.length (ek b S hv fv cv s.hot s.fnd s.ch) _ [(1000,e1 E r rm s.ph s.I s.J s.T s.dirty hv fv cv b lk)] ⟨0,0,0,dy _,rfl,rfl,rfl,rfl,rfl,rfl⟩ (ba.refl _) rfl ⟨rfl,rfl,rfl,rfl,trivial⟩ ⟨rfl,trivial⟩ ?_ ?_
 ·cases lk <;> first|rfl|cases dt
 rintro n R az aU ⟨k,ef,d,ae,rfl,lJ,uT,rfl,rfl,rfl⟩ bE;clear bE;have hlen:=ak.1
 by_cases aj:k<s.ch.length
 ·obtain⟨V,D,g1⟩:∃V D,s.ch[k]?=some (V,D):=⟨_,_,bG aj⟩;obtain⟨ko,hA⟩:=ak.2 _ (cP g1);simp only at ko hA;obtain⟨k8,pB⟩:=Ao (ii:=ef) lJ g1;have q2:ef<(s.ch.length:Int):=by omega
  have q3:0≤ef:=by omega
  have q4:0<s.ch.length:=by omega
  have aD:=ZE g1;rw[←uT,show max d (mB (V,D).2)=if mB D>d then mB D else d by show max d (mB D)=_;split <;> omega] at aD;have bc:=Q0 V D hA (by omega);(repeat first|refine b3 ?_|refine gu ?_|(with_reducible apply kr 3);(iterate 4 rfl);(omega);(assumption);rfl;kernel_rfl;rfl|(with_reducible apply oz 3);(iterate 3 rfl);(assumption);assumption;rfl;kernel_rfl;rfl);refine⟨s.ch.length-(k+1),ek b S hv fv cv s.hot s.fnd s.ch,_,[(1000,e1 E r rm s.ph s.I s.J s.T s.dirty hv fv cv b lk)],by omega,⟨k+1,ef+1,_,by omega,rfl,by omega,aD.symm,rfl,rfl,rfl⟩,ba.refl _,rfl,⟨rfl,rfl,rfl,rfl,trivial⟩,⟨rfl,trivial⟩,?_⟩;cases lk <;> first|rfl|cases dt
 ·have q2:¬ef<(s.ch.length:Int):=by omega
  have cy:s.ch.take k=s.ch:=gV (by omega);rw[cy] at uT;(refine aS ?_)
  ((refine dw rfl (aZ rfl aM) rfl (ba.refl _) bg.closed rfl fF ?_))
  exact⟨_,rfl,by rw[←uT];rfl,bg⟩
end
theorem Dz{n:Nat}{xs:List AC}(aA:n≤900000)(ak:xs.all AC.aW=true)(ab:xs.length=2*n):oT ah 153 [cD 2 n xs] fun v q=>∃a8,v=aQ a8∧q=⟨50,2,a8,n,xs⟩:=by
 refine DD rfl (fun v q h=>by obtain⟨a8,rfl,_⟩:=h;rfl) ?_;refine cC (f:=153) Tryz.func153 rfl (cg rfl) (by exact jm) ?_;(refine aS ?_);refine UE 4 rfl ?_;intro b aa;cases b with
 | true =>
  have aF:=aa rfl;subst aF;have h1:=mR ab;subst h1;clear aa;refine oo 0 50 2 rfl ?_;(refine aS ?_)
  ((refine yl rfl (aZ rfl aM) rfl rfl (gz _) ?_))
  exact⟨.slice none 0 0,rfl,rfl⟩
 | false =>
  clear aa;(refine aS ?_);refine Qj 0 rfl rfl rfl rfl rfl (fun v0 pZ => ?_);(refine aS ?_);refine mL 0 rfl rfl rfl rfl ?q1 ?q2 ak rfl (fun v1 jt => ?_)
  case q1=>exact jg (by show 0+n≤1000000;omega)
  case q2=>show (0+n)*16≤140737488355328;omega
  (refine aS ?_)
  ((refine yl rfl (aZ rfl aM) rfl rfl (gz _) ?_))
  exact⟨v1,rfl,by rw[tU,iR]⟩
theorem M2{n:Nat}{xs:List AC}(aA:n≤900000)(ak:xs.all AC.aW=true)(ab:xs.length=2*n):oT ah 154 [cD 2 n xs] fun v q=>∃a8,v=aQ a8∧q=⟨53,2,a8,n,xs⟩:=by
 refine DD rfl (fun v q h=>by obtain⟨a8,rfl,_⟩:=h;rfl) ?_;refine cC (f:=154) Tryz.func154 rfl (cg rfl) (by exact jm) ?_;(refine aS ?_);refine UE 4 rfl ?_;intro b aa;cases b with
 | true =>
  have aF:=aa rfl;subst aF;have h1:=mR ab;subst h1;clear aa;refine oo 0 53 2 rfl ?_;(refine aS ?_)
  ((refine yl rfl (aZ rfl aM) rfl rfl (gz _) ?_))
  exact⟨.slice none 0 0,rfl,rfl⟩
 | false =>
  clear aa;(refine aS ?_);refine Qj 0 rfl rfl rfl rfl rfl (fun v0 pZ => ?_);(refine aS ?_);refine mL 0 rfl rfl rfl rfl ?q1 ?q2 ak rfl (fun v1 jt => ?_)
  case q1=>exact jg (by show 0+n≤1000000;omega)
  case q2=>show (0+n)*48≤140737488355328;omega
  (refine aS ?_)
  ((refine yl rfl (aZ rfl aM) rfl rfl (gz _) ?_))
  exact⟨v1,rfl,by rw[tU,iR]⟩
abbrev lQ(k rm ph I J T:Int)(dirty:Bool)(hv fv cv:Value):List AC:=[.c (.int .i64 k),.c (.int .i64 rm),.c (.int .i64 ph),.c (.int .i64 I),.c (.int .i64 J),.c (.int .i64 T),.c (.bool dirty),.c hv,.c fv,.c cv]
abbrev mm(hv fv cv:Value)(hot fnd:List aq)(ch:List (List aq×List Int)):aE:=upd (upd (bo 1 (jB hv hot)) 2 (jB fv fnd)) 3 (wa cv ch)
abbrev mT(hv fv cv:Value)(hot fnd:List aq)(ch:List (List aq×List Int))(R:aE):aE:=upd (upd (upd R 4 (jB hv hot)) 5 (jB fv fnd)) 6 (wa cv ch)
theorem aje{hv fv cv:Value}{hot fnd:List aq}{ch:List (List aq×List Int)}{R:aE}:upd (mT hv fv cv hot fnd ch R) 6 (wa cv ch)=mT hv fv cv hot fnd ch R:=by
 funext k
 by_cases hU:k=6
 ·subst hU;rfl
 ·rw[bM _ _ hU]
theorem Ap(ch:List (List aq×List Int)):(ez ch).length=2*ch.length:=by
 unfold ez;induction ch with
 | nil=>rfl
 | cons c l ck=>rw[List.flatMap_cons,cY,ck,hJ];show 2+_=_;omega
theorem NY(ch:List (List aq×List Int)):∀y∈ez ch,y.aW=true:=fun y ai=>by
 obtain⟨c,_,h⟩:=List.mem_flatMap.1 ai;simp only[qM,fe,sA,or_false] at h;rcases h with rfl|rfl <;> rfl
theorem QS(l:List aq):∀y∈bY l,y.aW=true:=b5.1 (tF l)
theorem N0{ch:List (List aq×List Int)}{i:Nat}{V:List aq}{D:List Int}(h:ch[i]?=some (V,D)):eM (ez ch) (2*i) [.p (b0 2 V.length (bY V)),.p (b0 1 D.length (cJ D))]=ez ch:=by
 have hi:=(br.1 h).1
 have e:ch=ch.take i++(V,D)::ch.drop (i+1):=by
  conv=>lhs;rw[←j8 i ch,jE hi,(br.1 h).2]
 have aN:ez ch=ez (ch.take i)++([.p (b0 2 V.length (bY V)),.p (b0 1 D.length (cJ D))]++ez (ch.drop (i+1))):=by
  conv=>lhs;rw[e]
  simp[ez,qM]
 have al:(ez (ch.take i)).length=2*i:=by rw[Ap,dV];congr 1;omega
 rw[aN,LS al];simp
def Wf(hv fv cv bS dd c9:Value)(k rm ph I J T:Int)(dirty:Bool)(hot fnd:List aq)(ch:List (List aq×List Int))(n:Nat)(R:aE)(az:List (Nat×ag))(aU:List (Nat×List AC)):Prop :=
 ∃(i:Nat) (ii:Int),i≤ch.length∧n=ch.length-i∧ii=i∧R=mT bS dd c9 hot fnd ch (mm hv fv cv hot fnd ch)∧az=[(1,.w (.one (.own 1 0))),(2,.w (.one (.own 2 0))),(18,aQ c9),(19,aL ch.length),(20,aL ii)]∧aU=[(1,lQ k rm ph I J T dirty bS dd c9),(2,lQ 0 0 0 0 0 0 false (.slice none 0 0) (.slice none 0 0) (.slice none 0 0))]
theorem aeK{k rm ph I J T:Int}{dirty:Bool}{hv fv cv:Value}{hot fnd:List aq}{ch:List (List aq×List Int)}(aY:hot.length≤900000)(ay:fnd.length≤900000)(ak:k7 ch) :
  cb ah 83 [.w (.agg (lQ k rm ph I J T dirty hv fv cv))] bA (mm hv fv cv hot fnd ch) fun bx aG ap=>∃bS dd c9,bx = .w (.agg (lQ k rm ph I J T dirty bS dd c9))∧aG=bA∧ap=mT bS dd c9 hot fnd ch (mm hv fv cv hot fnd ch):=by
 have hlen:=ak.1;have dJ:∀ys:List AC,ys.length=(jB hv hot).ys.length→ys.all AC.aW=true→oT ah 153 [cD 2 hot.length ys] fun v q=>∃a8,v=aQ a8∧q=⟨50,2,a8,hot.length,ys⟩:=fun ys al ai=>Dz aY ai (by rw[al,oa,Nat.mul_comm]);have iD:∀ys:List AC,ys.length=(jB fv fnd).ys.length→ys.all AC.aW=true→oT ah 153 [cD 2 fnd.length ys] fun v q=>∃a8,v=aQ a8∧q=⟨50,2,a8,fnd.length,ys⟩:=fun ys al ai=>Dz ay ai (by rw[al,oa,Nat.mul_comm]);have jM:∀ys:List AC,ys.length=(wa cv ch).ys.length→ys.all AC.aW=true→oT ah 154 [cD 2 ch.length ys] fun v q=>∃a8,v=aQ a8∧q=⟨53,2,a8,ch.length,ys⟩:=fun ys al ai=>M2 (by omega) ai (by rw[al,Ap]);refine cC (f:=83) Tryz.func83 rfl (cg rfl) (by exact jm) ?_;(repeat first|(with_reducible apply hN (id:=1) [0,1,3,4,6,7,2,9,5,8,10,11,12,13,14] [7,10,13]);kernel_rfl;kernel_rfl;rfl|refine b3 ?_);refine J0 1 4 (by decide) rfl rfl rfl rfl dJ rfl (gz _) (QS _) rfl (fun bS => ?_);(refine aS ?_);refine J0 2 5 (by decide) rfl rfl rfl rfl iD rfl (gz _) (QS _) rfl (fun dd => ?_)
 skip
 refine J0 3 6 (by decide) rfl rfl rfl rfl jM rfl (gz _) (NY _) rfl (fun c9 => ?_);(repeat first|refine b3 ?_|(with_reducible apply oy 6);(iterate 4 rfl);kernel_rfl;rfl);refine jk 33 (Wf hv fv cv bS dd c9 k rm ph I J T dirty hot fnd ch) ch.length (mT bS dd c9 hot fnd ch (mm hv fv cv hot fnd ch)) _ [(1,lQ k rm ph I J T dirty bS dd c9),(2,lQ 0 0 0 0 0 0 false (.slice none 0 0) (.slice none 0 0) (.slice none 0 0))] ⟨0,0,dy _,rfl,rfl,rfl,rfl,rfl⟩ (ba.refl _) rfl ⟨rfl,rfl,rfl,rfl,rfl,trivial⟩ ⟨rfl,rfl,trivial⟩ rfl ?_;rintro n R az aU ⟨i,ii,hi,rfl,er,rfl,rfl,rfl⟩ bE;clear bE
 by_cases aj:i<ch.length
 ·obtain⟨V,D,g1⟩:∃V D,ch[i]?=some (V,D):=⟨_,_,bG aj⟩;obtain⟨ko,hA⟩:=ak.2 _ (cP g1);simp only at ko hA;obtain⟨k8,pB⟩:=Ao (ii:=ii) er g1;have bc:=QZ V D hA (by omega);have q2:ii<(ch.length:Int):=by omega
  have q3:0≤ii:=by omega
  have q4:0<ch.length:=by omega
  have aI:ii.toNat*2=2*i:=by omega
  have Bk:ii.toNat*2+2≤(ez ch).length:=by rw[Ap];omega
  have cc:eM (ez ch) (ii.toNat*2) [.p (b0 2 V.length (bY V)),.p (b0 1 D.length (cJ D))]=ez ch:=by rw[aI];exact N0 g1
  (repeat first|(with_reducible apply hN (id:=5) [0,1,2,3,4,5,6] [4000000]);kernel_rfl;kernel_rfl;rfl|refine b3 ?_|refine gu ?_|(with_reducible apply kr 6);(iterate 4 rfl);(omega);(assumption);rfl;kernel_rfl;rfl|(with_reducible apply oz 6);(iterate 3 rfl);(assumption);assumption;rfl;kernel_rfl;rfl);refine yy 6 rfl rfl rfl rfl q4 rfl rfl Bk rfl ?_;(refine aS ?_);refine⟨ch.length-(i+1),mT bS dd c9 hot fnd ch (mm hv fv cv hot fnd ch),_,[(1,lQ k rm ph I J T dirty bS dd c9),(2,lQ 0 0 0 0 0 0 false (.slice none 0 0) (.slice none 0 0) (.slice none 0 0))],by omega,⟨i+1,ii+1,by omega,rfl,by omega,rfl,rfl,rfl⟩,fun k q ae => ?_,rfl,⟨rfl,rfl,rfl,rfl,rfl,trivial⟩,⟨rfl,rfl,trivial⟩,rfl⟩
  have ed:upd (mT bS dd c9 hot fnd ch (mm hv fv cv hot fnd ch)) 6 (⟨53,2,c9,ch.length,eM (ez ch) (ii.toNat*2) [.p (b0 2 V.length (bY V)),.p (b0 1 D.length (cJ D))]⟩:bC)=mT bS dd c9 hot fnd ch (mm hv fv cv hot fnd ch):=by
   rw[cc];exact aje
  exact(congrFun ed k).trans ae
 ·have q2:¬ii<(ch.length:Int):=by omega
  (refine aS ?_)
  ((refine pV rfl (c8 rfl rfl rfl aM) (ba.refl _) rfl (fun j q h => ?_) ?_))
  ·match j with
   | 0=>cases h
   | 1=>exact⟨_,rfl⟩
   | 2=>exact⟨_,rfl⟩
   | 3=>exact⟨_,rfl⟩
   | j+4=>cases h
  ·exact⟨bS,dd,c9,rfl,rfl,rfl⟩
theorem ai6{b:Nat}{S:dS}{hv fv cv:Value}{hot fnd:List aq}{ch:List (List aq×List Int)}:ba (mm hv fv cv hot fnd ch) (ek b S hv fv cv hot fnd ch)
 | 0,_,h=>by cases h
 | 1,_,h=>h
 | 2,_,h=>h
 | 3,_,h=>h
 | k+4,_,h=>by cases h
theorem ajg{b:Nat}{S:dS}{hv fv cv bS dd c9:Value}{hot fnd:List aq}{ch:List (List aq×List Int)}:bK (mT bS dd c9 hot fnd ch (mm hv fv cv hot fnd ch)) (ek b S hv fv cv hot fnd ch)=mT bS dd c9 hot fnd ch (ek b S hv fv cv hot fnd ch):=by
 funext i
 match i with
 | 0=>rfl
 | 1=>rfl
 | 2=>rfl
 | 3=>rfl
 | 4=>rfl
 | 5=>rfl
 | 6=>rfl
 | i+7=>rfl
theorem ajf{hv fv cv:Value}{hot fnd:List aq}{ch:List (List aq×List Int)}{R:aE}:∀i r,R i=some r→∃bd,mT hv fv cv hot fnd ch R i=some bd:=fun i r h=>by
 by_cases pP:i=6
 ·subst pP;exact⟨_,bW _ _ _⟩
 ·by_cases iY:i=5
  ·subst iY;exact⟨_,rfl⟩
  ·by_cases ed:i=4
   ·subst ed;exact⟨_,rfl⟩
   ·exact⟨r,by unfold mT;rw[bM _ _ pP,bM _ _ iY,bM _ _ ed];exact h⟩
section
variable{E:List (Int×bR)}{r rm:Nat}
theorem aex{s:bH.bh aq}(aY:s.hot.length≤900000)(ay:s.fnd.length≤900000)(ak:k7 s.ch){cs:List AC}{R:aE}(bg:ei E r rm s cs R) :
  cb ah 32 [nL] (cF 1000 cs) R (mW 1000 fun bx aw ap=>∃hv fv cv,bx = .w (.agg (lQ r rm s.ph s.I s.J s.T s.dirty hv fv cv))∧aw=cs∧ap=mT hv fv cv s.hot s.fnd s.ch R):=by
 obtain⟨hv,fv,cv,b,S,lk,hS,dt,gQ,rfl,rfl⟩:=id bg;have bc:=aeK (k:=(r:Int)) (rm:=(rm:Int)) (ph:=(s.ph:Int)) (I:=(s.I:Int)) (J:=(s.J:Int)) (T:=(s.T:Int)) (dirty:=s.dirty) (hv:=hv) (fv:=fv) (cv:=cv) aY ay ak;refine cC (f:=32) Tryz.func32 rfl (cg rfl) (by exact di rfl) ?_;(refine aS ?_);refine Qh (l:=_) (args:=[_]) rfl rfl rfl rfl bc ai6 rfl rfl ?_;rintro _ _ _ ⟨bS,dd,c9,rfl,rfl,rfl⟩;refine⟨rfl,?_⟩;rw[ajg];(refine aS ?_)
 ((refine dw rfl (c8 rfl rfl rfl aM) rfl (ba.refl _) bg.closed rfl ajf ?_))
 exact⟨_,rfl,bS,dd,c9,rfl,rfl,rfl⟩
end
instance ane:nb ah 28 95 5 40:=⟨by kernel_rfl⟩
abbrev Mb:ag:=aQ (.func (.func 108) #[] #[])
theorem SU{x y:Int}:aO ah 109 [bn x y] (bl (gF (x,y))):=by
 have cs:((if y<x then y else x) ≥ -134217728∧gF (x,y)=decide ((if y>x then y else x)<134217728))∨(¬(if y<x then y else x) ≥ -134217728∧gF (x,y)=false):=by
  by_cases h:(if y<x then y else x) ≥ -134217728
  ·refine .inl ⟨h,?_⟩;rw[oN,oe,decide_eq_true_iff];show ((_≤x∧x<_)∧_≤y∧y<_)↔_
   split at h <;> split <;> omega
  ·refine .inr ⟨h,?_⟩;cases aA:gF (x,y) with
   | false=>rfl
   | true =>
    obtain⟨⟨a1,a2⟩,a3,a4⟩:((_≤x∧x<_)∧_≤y∧y<_):=oe.1 aA
    split at h <;> omega
 rcases cs with ⟨h,e⟩|⟨h,e⟩
 all_goals
  rw[e];refine bq (f:=109) Tryz.func109 rfl rfl rfl rfl ?_;(repeat first|refine db ?_|(with_reducible apply bT (c:=true));rfl;rfl;(exact ca (by omega))|(with_reducible apply bT (c:=false));rfl;rfl;(exact cm (by omega)))
  ((refine bm rfl (aZ rfl aM) ?_))
  exact ag.aV.refl _
abbrev x1(x:Int×bR):Bool := !(gF x.2.1&&gF x.2.2)
theorem ahw{o a b c d:Int}:aO ah 108 [.w (.agg [.c (.int .i64 a),.c (.int .i64 b),.c (.int .i64 c),.c (.int .i64 d),.c (.int .i64 o)])] (bl (x1 (o,(a,b),(c,d)))):=by
 have bc:=SU (x:=a) (y:=b);have bP:=SU (x:=c) (y:=d);unfold x1;simp only;cases h1:gF (a,b) with
 | true =>
  rw[h1] at bc;rw[pr];refine bq (f:=108) Tryz.func108 rfl rfl rfl rfl ?_;(refine cQ ?_)
  ((refine bm rfl (aZ rfl aM) ?_))
  exact ag.aV.refl _
 | false =>
  rw[h1] at bc;rw[Bool.false_and];refine bq (f:=108) Tryz.func108 rfl rfl rfl rfl ?_;(refine cQ ?_)
  ((refine bm rfl (aZ rfl aM) ?_))
  exact ag.aV.refl _
def uK:List (Int×bR)→Int→Int
 | [],_ => -1
 | p::l,i=>if x1 p=true then i else uK l (i+1)
theorem OY(p:Int×bR)(l:List (Int×bR))(i:Int):uK (p::l) i=if x1 p=true then i else uK l (i+1):=rfl
theorem OX:∀(l:List (Int×bR)) (i:Int),0≤i→(decide (uK l i≥0)) = !jw (l.map Prod.snd)
 | [],i,h=>rfl
 | p::l,i,h=>by
  have ck:=OX l (i+1) (by omega);have e:jw ((p::l).map Prod.snd)=((gF p.2.1&&gF p.2.2)&&jw (l.map Prod.snd)):=rfl;rw[e,OY];unfold x1;cases hp:(gF p.2.1&&gF p.2.2) with
  | false=>rw[if_pos (show (!false)=true from rfl),Bool.false_and];exact ca h
  | true=>rw[if_neg (by decide),pr];exact ck
def Ws(E:List (Int×bR))(k:Nat)(az:List (Nat×ag))(aU:List (Nat×List AC)):Prop :=
 ∃(i:Nat) (ii:Int),i≤E.length∧k=E.length-i∧ii=i∧uK E 0=uK (E.drop i) ii∧aU=[]∧az=[(0,sM E),(1,Mb),(7,aL E.length),(8,aL ii)]
theorem ahX{E:List (Int×bR)}(ao:E.length≤4611686018427387904):aO ah 166 [sM E,Mb] (aL (uK E 0)):=by
 refine bq (f:=166) Tryz.func166 rfl rfl rfl rfl ?_;(refine fs ?_);refine qJ 19 (Ws E) E.length _ [] ⟨0,0,dy _,rfl,rfl,rfl,rfl,rfl⟩ rfl ⟨rfl,rfl,rfl,rfl,trivial⟩ trivial rfl ?_;rintro n az aU ⟨j,dN,af,rfl,l7,gC,rfl,rfl⟩ bE;clear bE
 by_cases hp:j<E.length
 ·have p2:dN<(E.length:Int):=by omega
  have p3:0≤dN:=by omega
  obtain⟨o,a,b,c,d,g1⟩:∃o a b c d,E[j]?=some (o,(a,b),(c,d)):=⟨_,_,_,_,_,bG hp⟩;have k8:=AA l7 g1;have hd:E.drop j=(o,(a,b),(c,d))::E.drop (j+1):=by rw[jE hp,(br.1 g1).2]
  have gv:=ahw (o:=o) (a:=a) (b:=b) (c:=c) (d:=d);rw[hd,OY] at gC;cases ay:x1 (o,(a,b),(c,d)) with
  | true =>
   rw[ay] at gC gv;rw[if_pos rfl] at gC;rw[gC];(refine cQ ?_)
   ((refine bm rfl (aZ rfl aM) ?_))
   exact ag.aV.refl _
  | false =>
   rw[ay] at gC gv;rw[if_neg (by simp)] at gC;(refine cQ ?_);exact⟨E.length-(j+1),_,[],by omega,⟨j+1,dN+1,hp,rfl,by omega,gC,rfl,rfl⟩,rfl,⟨rfl,rfl,rfl,rfl,trivial⟩,trivial,rfl⟩
 ·have e:j=E.length:=by omega
  subst e;rw[List.drop_length] at gC;rw[show uK [] dN = -1 from rfl] at gC;rw[gC];(refine fs ?_)
  ((refine bm rfl (aZ rfl aM) ?_))
  exact ag.aV.refl _
theorem ahF{E:List (Int×bR)}(ao:E.length≤4611686018427387904):aO ah 107 [sM E,Mb] (bl (!jw (E.map Prod.snd))):=by
 have gv:=ahX ao;rw[←OX E 0 (by decide)];refine bq (f:=107) Tryz.func107 rfl rfl rfl rfl ?_;(refine cQ ?_)
 ((refine bm rfl (aZ rfl aM) ?_))
 exact ag.aV.refl _
theorem SJ{E:List (Int×bR)}(ao:E.length≤4611686018427387904):aO ah 59 [sM E] (bl (jw (E.map Prod.snd))):=by
 have gv:=ahF ao;have e:jw (E.map Prod.snd) = !(!jw (E.map Prod.snd)):=(Bool.not_not _).symm;rw[e];generalize (!jw (E.map Prod.snd))=q at *;refine bq (f:=59) Tryz.func59 rfl rfl rfl rfl ?_;(refine cQ ?_)
 ((refine bm rfl (aZ rfl aM) ?_))
 exact ag.aV.refl _
theorem SL{E:List (Int×bR)}(ao:E.length≤900000):aO ah 61 [sM E] (sM E):=by
 refine bq (f:=61) Tryz.func61 rfl rfl rfl rfl ?_;(refine fs ?_);refine YK 4 rfl ?_;intro b aa;cases b with
 | true =>
  have aF:=mR (aa rfl);subst aF;clear aa;(refine fs ?_)
  ((refine bm rfl (aZ rfl aM) ?_))
  exact KQ 5
 | false =>
  clear aa;have z0:0+E.length=E.length:=iR _;(repeat first|(with_reducible apply Ye);rfl;rfl|(with_reducible apply M7);(iterate 3 rfl);(exact jg (by omega));(omega);(assumption);(rfl);rfl|refine db ?_)
  ((refine bm rfl (aZ rfl aM) ?_))
  exact ag.aV.refl _
section
variable{P:Program}{f:FuncId}{args:List ag}{cs:List AC}{R0:aE}{Q:ag→List AC→aE→Prop}
theorem cb.at(k:Nat)(h:cb P f (nL::args) (cF 1000 cs) R0 (mW 1000 Q))(dq:args.all ag.aW=true)(ak:cs.all AC.aW=true)(aj:∀bx ds ap,Q bx ds ap→bx.aW=true∧ds.all AC.aW=true):cb P f (.w (.one (.own k 0))::args) (cF k cs) R0 (mW k Q):=by
 have h1:=h.a7 (lR 1000 k) (bO:=fun j=>j) (jL:=fun j=>j) (fun _=>rfl) (fun _=>rfl)
 have aI:(ag.w (.one (.own 1000 0))::args).map (ag.a7 (swp 1000 k)) = .w (.one (.own k 0))::args:=by
  have aN:args.map (ag.a7 (swp 1000 k))=args:=by
   conv=>rhs;rw[←List.map_id args]
   exact nE fun x ab=>vr (b5.1 dq x ab)
  rw[hK,aN];show ag.w (.one (.own (swp 1000 k 1000) 0))::args=_;rw[show swp 1000 k 1000=k by unfold swp;simp]
 rw[aI,yL ak] at h1;refine⟨fun U ad W vs b8 c7 cL=>(h1.call U ad W vs b8 c7 cL).mono ?_⟩;rintro cy W' ⟨v,r,aG,ap,aT,cj,dl,⟨cr,m1,bf,⟨ds,rfl,np⟩,rfl,rfl,rfl⟩,iP⟩;obtain⟨c1,c2⟩:=aj _ _ _ np;rw[yL c2,vr c1] at iP;exact⟨v,cr,cF k ds,bf,aT,cj,dl,⟨ds,rfl,np⟩,iP⟩
end
def rj(k:Int):Nat:=(if k<0 then 0 else if 28<k then 28 else k).toNat
def rk(n:Int):Nat:=(rp n).toNat
theorem TW(n:Int):((rk n:Nat):Int)=rp n:=by unfold rk rp;(repeat split) <;> omega
theorem ai8(k:Int):((rj k:Nat):Int)=if 28<(if 0>k then 0 else k) then 28 else(if 0>k then 0 else k):=by unfold rj;(repeat split) <;> omega
abbrev jx:Value := .slice none 0 0
theorem R5{b:Nat}{S:dS}{q:bC}:ek b S jx jx jx [] [] []=upd (upd (upd (upd (upd dP 1 ⟨50,2,jx,0,[]⟩) 2 ⟨50,2,jx,0,[]⟩) 3 ⟨53,2,jx,0,[]⟩) 0 q) 0 (fm (bJ b) S):=by
 funext i
 match i with
 | 0=>rfl
 | 1=>rfl
 | 2=>rfl
 | 3=>rfl
 | i+4=>rfl
theorem aes{E:List (Int×bR)}{k n:Int}(al:E.length≤300)(h:jw (E.map Prod.snd)=true):cb ah 16 [sM E,aL k,aL n] bA dP fun bx aG ap=>∃cs,bx = .w (.one (.own 24 0))∧aG=cF 24 cs∧ei E (rj k) (rk n) (iy (bt E (rj k) (rk n))) cs ap:=by
 have bc:=SJ (E:=E) (by omega);rw[h] at bc;have bP:=Q6 n;have ec:=SL (E:=E) (by omega);have hU:=ai8 k
 by_cases aF:E=[]
 ·subst aF;refine cC (f:=16) Tryz.func16 rfl (cg rfl) (by exact jm) ?_;refine oo 1 50 2 rfl ?_;refine oo 2 50 2 rfl ?_;refine oo 3 53 2 rfl ?_;(refine oR ?_);refine J2 0 rfl rfl rfl rfl bP rfl rfl (fun p S js => ?_);obtain⟨b,rfl,hS⟩:=js;rw[←TW n] at hS;have jN:=Q8 _ _ _ _ hS (by decide);(refine oR ?_);refine u4 0 rfl rfl rfl rfl jN rfl rfl rfl (fun v S' h => ?_);obtain⟨rfl,ew⟩:=h;(refine aS ?_);have oV:=cb.at 24 (Km (E:=[]) (k:=(rj k:Int)) (rm:=(rk n:Int)) (ph:=0) (I:=0) (J:=0) (T:=0) (dirty:=false) (hv:=jx) (fv:=jx) (cv:=jx) (b:=b) (lk := .c jx) rfl 4) rfl rfl (fun bx ds ap h=>by obtain⟨rfl,rfl,_⟩:=h;exact⟨rfl,rfl⟩);rw[←hU];refine ks 24 rfl rfl rfl rfl oV rfl rfl rfl rfl rfl ?_;(refine aS ?_)
  ((refine wC 24 rfl (aZ rfl aM) rfl (ba.of_eq R5) rfl rfl ?_))
  exact⟨_,rfl,rfl,jx,jx,jx,b,S',.c jx,ew,rfl,fun h=>(by cases h),rfl,rfl⟩
 ·have fu:¬(E.length:Int)=0:=fun aY=>aF (mR (by omega));refine cC (f:=16) Tryz.func16 rfl (cg rfl) (by exact jm) ?_;refine oo 1 50 2 rfl ?_;refine oo 2 50 2 rfl ?_;refine oo 3 53 2 rfl ?_;(refine oR ?_);refine J2 0 rfl rfl rfl rfl bP rfl rfl (fun p S js => ?_);obtain⟨b,rfl,hS⟩:=js;rw[←TW n] at hS;have jN:=Q8 _ _ _ _ hS (by decide);(refine oR ?_);refine u4 0 rfl rfl rfl rfl jN rfl rfl rfl (fun v S' h => ?_);obtain⟨rfl,ew⟩:=h;(refine aS ?_);rw[←hU]
  ((refine wC 24 rfl (aZ rfl aM) rfl (ba.of_eq R5) rfl rfl ?_))
  refine⟨_,rfl,rfl,jx,jx,jx,b,S',.c jx,ew,rfl,?_,?_,rfl⟩
  ·unfold iy;rw[if_neg (by rw[ie.n];omega)];intro h;cases h
  ·unfold iy;rw[if_neg (by rw[ie.n];omega)];rfl
abbrev ak5(k rm ph I J T:Int)(dirty:Bool)(hot fnd:List aq)(ch:List (List aq×List Int)):List AC:=[.c (.int .i64 k),.c (.int .i64 rm),.c (.int .i64 ph),.c (.int .i64 I),.c (.int .i64 J),.c (.int .i64 T),.c (.bool dirty),.p (b0 2 hot.length (bY hot)),.p (b0 2 fnd.length (bY fnd)),.p (b0 2 ch.length (ez ch))]
abbrev Vs(k rm ph I J T:Int)(dirty:Bool)(hot fnd:List aq)(ch:List (List aq×List Int)):ag := .w (.agg (ak5 k rm ph I J T dirty hot fnd ch))
theorem bQ.LK{U:Nat→Prop}{ad:Nat→Nat}{W:World}{cs:List AC}{vs:List Value}{i:Nat}{u:Value}{x:AC}(h:bQ U ad W cs vs)(hi:cs[i]?=some (.c u))(ab:fS U ad W x u):bQ U ad W (cs.set i x) vs:=by
 refine⟨by rw[List.length_set];exact h.1,fun j y v ai hv => ?_⟩;rw[List.getElem?_set] at ai
 split at ai
 ·rename_i e;subst e
  split at ai
  ·cases ai;have:=(h.2 i _ v hi hv).1;subst this;exact ab
  ·cases ai
 ·exact h.2 j y v ai hv
theorem ajd{hv fv cv:Value}{hot fnd:List aq}{ch:List (List aq×List Int)}{R:aE}(aK:R 4=none)(bX:R 5=none)(fh:R 6=none):pO 4 (pO 5 (pO 6 (mT hv fv cv hot fnd ch R)))=R:=by
 funext k;unfold pO
 by_cases ed:k=4
 ·subst ed;rw[if_pos rfl,aK]
 ·rw[if_neg ed]
  by_cases iY:k=5
  ·subst iY;rw[if_pos rfl,bX]
  ·rw[if_neg iY]
   by_cases pP:k=6
   ·subst pP;rw[if_pos rfl,fh]
   ·rw[if_neg pP];unfold mT;rw[bM _ _ pP,bM _ _ iY,bM _ _ ed]
section
variable{E:List (Int×bR)}{r rm:Nat}
theorem ei.j4{s:bH.bh aq}{cs:List AC}{R:aE}(h:ei E r rm s cs R):∀i,4≤i→R i=none:=by
 obtain⟨_,_,_,_,_,_,_,_,_,_,rfl⟩:=h;intro i hi
 match i,hi with
 | i+4,_=>rfl
theorem ei.xu{s:bH.bh aq}{cs:List AC}{R:aE}(h:ei E r rm s cs R):∀i,i<4→∃q,R i=some q:=by
 obtain⟨_,_,_,_,_,_,_,_,_,_,rfl⟩:=h;intro i hi
 match i,hi with
 | 0,_=>exact⟨_,rfl⟩
 | 1,_=>exact⟨_,rfl⟩
 | 2,_=>exact⟨_,rfl⟩
 | 3,_=>exact⟨_,rfl⟩
abbrev sN(r rm:Nat)(s:bH.bh aq):ag:=Vs r rm s.ph s.I s.J s.T s.dirty s.hot s.fnd s.ch
theorem aez{s:bH.bh aq}(aY:s.hot.length≤900000)(ay:s.fnd.length≤900000)(ak:k7 s.ch):gL E r rm 32 [] s (sN r rm s) s:=by
 intro cs R bg;have q6:=bg.j4 4 (by decide);have B1:=bg.j4 5 (by decide);have RU:=bg.j4 6 (by decide);have h:=aex aY ay ak bg
 have h1:=h.uA 6 RU (Post2:=fun bx aG ap=>∃hv fv,bx = .w (.agg ((lQ r rm s.ph s.I s.J s.T s.dirty hv fv jx).set 9 (.p (b0 2 s.ch.length (ez s.ch)))))∧aG=cF 1000 cs∧∃cv,ap=pO 6 (mT hv fv cv s.hot s.fnd s.ch R)) (by
  rintro bx aG ap ⟨aw,rfl,hv,fv,cv,rfl,rfl,rfl⟩;refine⟨_,_,bW _ _ _,gz _,fun U ad W v h aD => ?_,fun j af => ?_,hv,fv,rfl,rfl,cv,rfl⟩
  ·obtain⟨vs,e,al⟩:=h;exact⟨vs,e,(al.LK (i:=9) rfl aD:bQ U ad W ((lQ r rm s.ph s.I s.J s.T s.dirty hv fv cv).set 9 _) vs)⟩
  ·exact absurd af (ag.c6 rfl j))
 have h2:=h1.uA 5 B1 (Post2:=fun bx aG ap=>∃hv,bx = .w (.agg (((lQ r rm s.ph s.I s.J s.T s.dirty hv jx jx).set 9 (.p (b0 2 s.ch.length (ez s.ch)))).set 8 (.p (b0 2 s.fnd.length (bY s.fnd)))))∧aG=cF 1000 cs∧∃fv cv,ap=pO 5 (pO 6 (mT hv fv cv s.hot s.fnd s.ch R))) (by
  rintro bx aG ap ⟨hv,fv,rfl,rfl,cv,rfl⟩;refine⟨jB fv s.fnd,_,rfl,gz _,fun U ad W v h aD => ?_,fun j af => ?_,hv,rfl,rfl,fv,cv,rfl⟩
  ·obtain⟨vs,e,al⟩:=h;exact⟨vs,e,(al.LK (i:=8) rfl aD)⟩
  ·exact absurd af (ag.c6 rfl j))
 have ar:=h2.uA 4 q6 (Post2:=mW 1000 fun bx aw ap=>bx=sN r rm s∧ei E r rm s aw ap) (by
  rintro bx aG ap ⟨hv,rfl,rfl,fv,cv,rfl⟩;refine⟨jB hv s.hot,sN r rm s,rfl,gz _,fun U ad W v h aD => ?_,fun j af => ?_,cs,rfl,rfl,?_⟩
  ·obtain⟨vs,e,al⟩:=h;exact⟨vs,e,(al.LK (i:=7) rfl aD)⟩
  ·exact absurd af (ag.c6 rfl j)
  ·rw[ajd q6 B1 RU];exact bg)
 exact ar
def kb(i:Nat):Nat:=if i<10 then i+20 else if i<20 then i else if i<30 then i-20 else i
theorem UG(j:Nat):kb (kb j)=j:=by
 unfold kb
 by_cases h1:j<10
 ·simp only[if_pos h1];rw[if_neg (by omega),if_neg (by omega),if_pos (by omega)];omega
 ·by_cases h2:j<20
  ·simp only[if_neg h1,if_pos h2]
  ·by_cases ar:j<30
   ·simp only[if_neg h1,if_neg h2,if_pos ar];rw[if_pos (by omega)];omega
   ·simp only[if_neg h1,if_neg h2,if_neg ar]
end
section
variable{R:aE}{s:aB}{ops:Array Oper}{dr:Option (List Nat)}{ty:Nat}{pos:String}{after:Array Edge}{guard:Option (Nat×Bool)}{K:aE→aB→Prop}{rest:List Oper}
end
abbrev two(lD la:aE):aE:=bK lD (la.a7 kb)
section
variable{E alF:List (Int×bR)}{r rm bd anL:Nat}{s s1 t t1:bH.bh aq}{cs fK ds ZR:List AC}{lD Dr la xQ:aE}
theorem CN:ba lD (two lD la):=fun i q h=>fz h
end
end Go.Proofs.YtklpfooafbjnpaaGreat
