/-
  My own texts,without what this claim does not need. My own text.
-/
import Derived.Test.YtklpfooafbjnpaaGreatSLClimbsK15
set_option maxRecDepth 100000
set_option maxHeartbeats 64000000
set_option linter.unusedVariables false
set_option linter.unusedSimpArgs false
set_option linter.unusedSectionVars false
open Go.Proofs.Tryz renaming prog → ah
namespace Go.Proofs.YtklpfooafbjnpaaGreat
open Go.RowKit
open bB
section
variable{E:List (Int×bK)}{r rm:Nat}
theorem Us{b:Nat}{S:dS}{hv fv cv v:Value}{hot fnd:List aq}{ch l:List (List aq×List Int)}:upd (ea b S hv fv cv hot fnd ch) 3 (wD v l)=ea b S hv fv v hot fnd l:=by
  funext i
  match i with
  | 0=>rfl
  | 1=>rfl
  | 2=>rfl
  | 3=>rfl
  | i+4=>rfl
theorem Ox{ch:List (List aq×List Int)}{i:Nat}{ii:Int}{V:List aq}{D:List Int}(hi:ii=i)(h:i<ch.length):eP (eB ch) (ii.toNat*2) [.p (b6 2 V.length (b0 V)),.p (b6 1 D.length (cK D))]=eB (ch.set i (V,D)):=by
  subst hi;rw[kL];have e:ch=ch.take i++ch[i]::ch.drop (i+1):=by rw[←jU h,ki]
  have al:(eB (ch.take i)).length=i*2:=by
    have:=EO (f:=q5) (z:=2) (fun _=>rfl) (ch.take i);unfold eB;rw[this,dX,qE (by omega)]
  have aI:eB ch=eB (ch.take i)++(q5 ch[i]++eB (ch.drop (i+1))):=(congrArg eB e).trans (by unfold eB;rw[sM,List.flatMap_cons]);rw[aI,Mh al,List.set_eq_take_append_cons_drop,if_pos h];simp[eB,q5]
theorem aaV{p q:aq}{bo:List aq}(aA:bo.Nodup):jW (dZ (decide ((2:Int)^r*q.1<2^r*p.1)) (decide ((2:Int)^r*q.2<2^r*p.2))) bo=gu p q bo:=by
  rw[EM,EM];exact alt aA (by rw[List.filter_eq_self.2 (fun _ _=>rfl)])
theorem afA{s:bB.bd aq}{V:List aq}{D:List Int}{p q x:aq}(ap:r≤28)(ak:lp s.ch)(g1:s.ch[s.I]?=some (V,D))(g2:V[s.J]?=some p)(g3:V[s.J+1]?=some q)(g4:s.hot[s.T]?=some x)(e8:∀d∈D,1≤d∧d≤1048576)
    (hp:dW r p.1 p.2=true) (aj:dW r q.1 q.2=true) (hd:s.dirty=false) (ba:s.hot.length≤1024) (Fj:s.fnd.length≤1024) (ve:(mQ (bh E r rm) p q x s.fnd).Nodup) (ik:s.ph=2):gv E r rm 74 [] s l7 (tR (bh E r rm) s (V,D) p q (mQ (bh E r rm) p q x s.fnd)):=by
  obtain⟨p1,p2⟩:=p;obtain⟨q1,q2⟩:=q;obtain⟨db,di⟩:=x;obtain⟨kx,hO⟩:=ak.2 _ (cP g1);simp only at kx hO;have a7:=(bt.1 g1).1;have kZ:=(bt.1 g3).1;have eS:=(bt.1 g4).1;have an:gY (r:Int) r:=⟨ap,.inr (.inr rfl)⟩;have aZ:=Lt (D:=D) g2 g3 (by omega);have bM:=aiO (E:=E.map Prod.snd) (R:=rm) ap (p:=(p1,p2)) (q:=(q1,q2)) (x:=(db,di)) hp aj;have eh:=Gt (tX an hp) (tX an aj);simp only at bM eh;have j1:=ahB (a1:=2^r*p1) (a2:=2^r*p2) (b1:=2^r*q1) (b2:=2^r*q2);obtain⟨ko,pU⟩:=AF (ii:=(s.I:Int)) rfl g1;have WZ:=aeo (ii:=(s.T:Int)) rfl g4;have i0:(0:Int)≤(s.I:Int):=by omega
  have i1:(s.I:Int)<(s.ch.length:Int):=by omega
  have i2:0<s.ch.length:=by omega
  have t0:(0:Int)≤(s.T:Int):=by omega
  have t1:(s.T:Int)<(s.hot.length:Int):=by omega
  have t2:0<s.hot.length:=by omega
  have abW:(s.J:Int)≤1100:=by omega
  have cq:=ak.1
 
  have split:∀bo:List aq,bo=mQ (bh E r rm) (p1,p2) (q1,q2) (db,di) s.fnd→bo≠[]→bo.length≤1100→aP ah 140 [gD bo,xQ (decide ((2:Int)^r*q1<2^r*p1)) (decide ((2:Int)^r*q2<2^r*p2))] (gD (gu (p1,p2) (q1,q2) bo)) ∧
      aP ah 139 [pO V D,aL s.J,gD (gu (p1,p2) (q1,q2) bo)] (.cj [.agg [.p (b6 2 (bB.dF V s.J (gu (p1,p2) (q1,q2) bo)).length (b0 (bB.dF V s.J (gu (p1,p2) (q1,q2) bo)))),.p (b6 1 (eL D s.J bo.length).length (cK (eL D s.J bo.length)))],.one (.c (.bool true))]):=by
    intro bo vf cr acX;have aA:bo.Nodup:=by rw[vf];exact ve
    have hlen:(gu (p1,p2) (q1,q2) bo).length=bo.length:=(C4 _ _ bo).length_eq;refine⟨?_,?_⟩
    · have:=ah1 (fx:=decide ((2:Int)^r*q1<2^r*p1)) (fy:=decide ((2:Int)^r*q2<2^r*p2)) 1100 bo acX (by omega)
      rw[aaV (p:=(p1,p2)) (q:=(q1,q2)) aA] at this;exact this
    · have:=ae7 V D s.J (gu (p1,p2) (q1,q2) bo) kx hO (by omega) (by omega) e8
      have J9:(gu (p1,p2) (q1,q2) bo).isEmpty=false:=by
        cases h:gu (p1,p2) (q1,q2) bo with
        | nil=>rw[h] at hlen;exact absurd (nj hlen.symm) cr
        | cons a l=>rfl
      rw[J9,hlen] at this;exact this
  rintro cs R kX;obtain⟨hv,fv,cv,b,S,lk,hS,df,gG,rfl,rfl⟩:=id kX;have dN:∀(I J T:Int) (fv:Value),(eT E r rm s.ph I J T s.dirty hv fv cv b lk).all AC.aV=true:=fun I J T fv=>by simp only[kM,nX,df];rfl
  unfold tR;simp only[show (bh E r rm).hH=gu from rfl];cases wU:kw (bh E r rm) (p1,p2) (q1,q2) (db,di) with
  | true =>
    rw[wU] at bM;have IQ:mQ (bh E r rm) (p1,p2) (q1,q2) (db,di) s.fnd=s.fnd++[(db,di)]:=by unfold mQ;rw[wU];rfl
    rw[IQ] at split ⊢;have acY:(s.fnd++[(db,di)]).length≤1100:=by rw[c3,List.length_singleton];omega
    have cr:s.fnd++[(db,di)]≠[]:=by simp
    obtain⟨pf,zV⟩:=split _ rfl cr acY;clear split ve wU;refine cC (f:=74) Tryz.func74 rfl (b8 rfl) (by exact dk rfl) ?_;(repeat first|(with_reducible apply dv (id:=1) [10,0,1,2,3,4,5,6,7,8,9,11]);kernel_rfl;kernel_rfl;rfl|(with_reducible apply dv (id:=2) [6,0,1,2,3,4,5,7]);kernel_rfl;kernel_rfl;rfl|(with_reducible apply dv (id:=3) [10,0,1,2,3,4,5,6,7,8,9,11]);kernel_rfl;kernel_rfl;rfl|(with_reducible apply dv (id:=4) [0,1,2,3,4,5,6]);kernel_rfl;kernel_rfl;rfl|(with_reducible apply fW (id:=5) [0,1,2,3,4,5,6,7,8,9,10] [3000048]);kernel_rfl;kernel_rfl;rfl|refine bQ ?_|refine fO ?_|(with_reducible apply kB 1);(iterate 4 rfl);(omega);(assumption);rfl;kernel_rfl;rfl|(with_reducible apply kB 3);(iterate 4 rfl);(omega);(assumption);rfl;kernel_rfl;rfl|(with_reducible apply oR 1);(iterate 3 rfl);(assumption);assumption;rfl;kernel_rfl;rfl|(with_reducible apply oR 3);(iterate 3 rfl);(assumption);assumption;rfl;kernel_rfl;rfl);refine na 2 rfl rfl rfl rfl ?q1 ?q2 rfl rfl (fun v1 jL => ?_)
    case q1=>exact jB (by show s.fnd.length+1≤1000000;omega)
    case q2=>show (s.fnd.length+1)*16≤140737488355328;omega
    (repeat first|(with_reducible apply dv (id:=7) [0,1,2,3,4,5,6,7,8,9]);kernel_rfl;kernel_rfl;rfl|refine bQ ?_|(with_reducible apply oQ 1);(iterate 4 rfl);kernel_rfl;rfl);refine GX (ea b S hv v1 cv s.hot (s.fnd++[(db,di)]) s.ch) (a8.of_eq ajP.symm) ?_
    by_cases u4:s.T+1<s.hot.length
    · rw[if_pos u4]
      have Bi:(s.T:Int)+1<(s.hot.length:Int):=by omega
      have gi:dE E r rm {s with fnd:=s.fnd++[(db,di)],T:=s.T+1} (eT E r rm s.ph s.I s.J ((s.T:Int)+1) s.dirty hv v1 cv b lk) (ea b S hv v1 cv s.hot (s.fnd++[(db,di)]) s.ch):=⟨hv,v1,cv,b,S,lk,hS,df,gG,rfl,rfl⟩;(refine aQ ?_)
      ((refine dA rfl aM rfl (a8.refl _) gi.closed rfl fD ?_))
      exact⟨_,rfl,rfl,gi⟩
    · rw[if_neg u4,if_neg cr]
      have Bi:¬(s.T:Int)+1<(s.hot.length:Int):=by omega
      have J9:¬((s.fnd++[(db,di)]).length:Int)=0:=fun h=>cr (nj (by omega));refine Vc 2 1000 9 (jS v1 (s.fnd++[(db,di)])) rfl rfl rfl ?_;refine oJ 2 50 2 rfl ?_
      refine GX (ea b S hv (.slice none 0 0) cv s.hot [] s.ch) (fun k q ae=>by
        match k with
        | 0=>exact ae
        | 1=>exact ae
        | 2=>exact ae
        | 3=>exact ae
        | k+4=>cases ae) ?_
      have gi:dE E r rm {s with T:=0,fnd:=[],ch:=s.ch.set s.I (bB.dF V s.J (gu (p1,p2) (q1,q2) (s.fnd++[(db,di)])),eL D s.J (s.fnd++[(db,di)]).length)} (eT E r rm s.ph s.I s.J 0 s.dirty hv (.slice none 0 0) cv b lk) (ea b S hv (.slice none 0 0) cv s.hot [] (s.ch.set s.I (bB.dF V s.J (gu (p1,p2) (q1,q2) (s.fnd++[(db,di)])),eL D s.J (s.fnd++[(db,di)]).length))):=⟨hv,_,cv,b,S,lk,hS,df,(fun h=>absurd (ik.symm.trans (show s.ph=3 from h)) (by decide)),rfl,rfl⟩
      have lD:upd (ea b S hv (.slice none 0 0) cv s.hot [] s.ch) 3 ⟨53,2,cv,s.ch.length,eP (eB s.ch) ((s.I:Int).toNat*2) [.p (b6 2 (bB.dF V s.J (gu (p1,p2) (q1,q2) (s.fnd++[(db,di)]))).length (b0 (bB.dF V s.J (gu (p1,p2) (q1,q2) (s.fnd++[(db,di)]))))),.p (b6 1 (eL D s.J (s.fnd++[(db,di)]).length).length (cK (eL D s.J (s.fnd++[(db,di)]).length)))]⟩=ea b S hv (.slice none 0 0) cv s.hot [] (s.ch.set s.I (bB.dF V s.J (gu (p1,p2) (q1,q2) (s.fnd++[(db,di)])),eL D s.J (s.fnd++[(db,di)]).length)):=by
        rw[Ox rfl a7,show s.ch.length=(s.ch.set s.I (bB.dF V s.J (gu (p1,p2) (q1,q2) (s.fnd++[(db,di)])),eL D s.J (s.fnd++[(db,di)]).length)).length from(List.length_set ..).symm];exact Us
      generalize yW:bB.dF V s.J (gu (p1,p2) (q1,q2) (s.fnd++[(db,di)]))=Nq at *;generalize BP:eL D s.J (s.fnd++[(db,di)]).length=xW at *;generalize Q5:gu (p1,p2) (q1,q2) (s.fnd++[(db,di)])=L' at *;(repeat first|(with_reducible apply fW (id:=12) [0,1,2,3,4,5,6,7,8,9,10,11,12,13,14,15,16,17,18,19,20,21,22,23,24,25,26,27,28,29,30,31,32] [4000000]);kernel_rfl;kernel_rfl;rfl|refine bQ ?_|refine fO ?_|(with_reducible apply kB 3);(iterate 4 rfl);(omega);(assumption);rfl;kernel_rfl;rfl);refine yR 3 rfl rfl rfl rfl i2 rfl rfl ko.1 rfl ?_;(refine aQ ?_)
      ((refine dA rfl aM rfl (a8.of_eq lD.symm) gi.closed rfl fD ?_))
      exact⟨_,rfl,rfl,gi⟩
  | false =>
    rw[wU] at bM;have IQ:mQ (bh E r rm) (p1,p2) (q1,q2) (db,di) s.fnd=s.fnd:=by unfold mQ;rw[wU];rfl
    rw[IQ] at split ⊢;have anh:=eS
    by_cases cr:s.fnd=[]
    · clear split ve wU
      have cB:({s with fnd:=s.fnd}:bB.bd aq)=s:=rfl;have aF:(s.fnd.length:Int)=0:=by rw[cr];rfl
      have eW:=RM (E:=E) (r:=r) (rm:=rm) (s:={s with T:=0,fnd:=[],J:=s.J+1}) hd rfl ak a7 (by show s.J+1≤1100;omega) ik;have kY:dE E r rm {s with T:=0,fnd:=[],J:=s.J+1} (eT E r rm s.ph s.I ((s.J:Int)+1) 0 s.dirty hv fv cv b lk) (ea b S hv fv cv s.hot s.fnd s.ch):=⟨hv,fv,cv,b,S,lk,hS,df,gG,rfl,by rw[cr]⟩
      by_cases u4:s.T+1<s.hot.length
      · rw[if_pos u4]
        have Bi:(s.T:Int)+1<(s.hot.length:Int):=by omega
        have gi:dE E r rm {s with fnd:=s.fnd,T:=s.T+1} (eT E r rm s.ph s.I s.J ((s.T:Int)+1) s.dirty hv fv cv b lk) (ea b S hv fv cv s.hot s.fnd s.ch):=⟨hv,fv,cv,b,S,lk,hS,df,gG,rfl,rfl⟩;refine cC (f:=74) Tryz.func74 rfl (b8 rfl) (by exact dk rfl) ?_;(repeat first|(with_reducible apply dv (id:=1) [10,0,1,2,3,4,5,6,7,8,9,11]);kernel_rfl;kernel_rfl;rfl|(with_reducible apply dv (id:=2) [6,0,1,2,3,4,5,7]);kernel_rfl;kernel_rfl;rfl|(with_reducible apply dv (id:=3) [10,0,1,2,3,4,5,6,7,8,9,11]);kernel_rfl;kernel_rfl;rfl|(with_reducible apply dv (id:=4) [0,1,2,3,4,5,6]);kernel_rfl;kernel_rfl;rfl|(with_reducible apply dv (id:=7) [0,1,2,3,4,5,6,7,8,9]);kernel_rfl;kernel_rfl;rfl|refine bQ ?_|refine fO ?_|(with_reducible apply oQ 1);(iterate 4 rfl);kernel_rfl;rfl|(with_reducible apply kB 1);(iterate 4 rfl);(omega);(assumption);rfl;kernel_rfl;rfl|(with_reducible apply kB 3);(iterate 4 rfl);(omega);(assumption);rfl;kernel_rfl;rfl|(with_reducible apply oR 1);(iterate 3 rfl);(assumption);assumption;rfl;kernel_rfl;rfl|(with_reducible apply oR 3);(iterate 3 rfl);(assumption);assumption;rfl;kernel_rfl;rfl)
        ((refine dA rfl aM rfl (a8.refl _) gi.closed rfl fD ?_))
        exact⟨_,rfl,rfl,gi⟩
      · rw[if_neg u4,if_pos cr]
        have Bi:¬(s.T:Int)+1<(s.hot.length:Int):=by omega
        refine cC (f:=74) Tryz.func74 rfl (b8 rfl) (by exact dk rfl) ?_;(repeat first|(with_reducible apply dv (id:=1) [10,0,1,2,3,4,5,6,7,8,9,11]);kernel_rfl;kernel_rfl;rfl|(with_reducible apply dv (id:=2) [6,0,1,2,3,4,5,7]);kernel_rfl;kernel_rfl;rfl|(with_reducible apply dv (id:=3) [10,0,1,2,3,4,5,6,7,8,9,11]);kernel_rfl;kernel_rfl;rfl|(with_reducible apply dv (id:=4) [0,1,2,3,4,5,6]);kernel_rfl;kernel_rfl;rfl|(with_reducible apply dv (id:=7) [0,1,2,3,4,5,6,7,8,9]);kernel_rfl;kernel_rfl;rfl|refine bQ ?_|refine fO ?_|(with_reducible apply oQ 1);(iterate 4 rfl);kernel_rfl;rfl|(with_reducible apply oQ 2);(iterate 4 rfl);kernel_rfl;rfl|(with_reducible apply kB 1);(iterate 4 rfl);(omega);(assumption);rfl;kernel_rfl;rfl|(with_reducible apply kB 3);(iterate 4 rfl);(omega);(assumption);rfl;kernel_rfl;rfl|(with_reducible apply oR 1);(iterate 3 rfl);(assumption);assumption;rfl;kernel_rfl;rfl|(with_reducible apply oR 3);(iterate 3 rfl);(assumption);assumption;rfl;kernel_rfl;rfl);refine jv rfl rfl rfl rfl rfl rfl rfl rfl eW kY (fun au ao Jq => ?_);(refine aQ ?_);obtain⟨FF,ES,Ey,de,Aj,F2,E3,Fq,Fp,rfl,rfl⟩:=id Jq
        ((refine dA rfl aM rfl (a8.refl _) Jq.closed rfl fD ?_))
        exact⟨_,rfl,rfl,Jq⟩
    obtain⟨pf,zV⟩:=split _ rfl cr (by omega);clear split ve wU;refine cC (f:=74) Tryz.func74 rfl (b8 rfl) (by exact dk rfl) ?_;(repeat first|(with_reducible apply dv (id:=1) [10,0,1,2,3,4,5,6,7,8,9,11]);kernel_rfl;kernel_rfl;rfl|(with_reducible apply dv (id:=2) [6,0,1,2,3,4,5,7]);kernel_rfl;kernel_rfl;rfl|(with_reducible apply dv (id:=3) [10,0,1,2,3,4,5,6,7,8,9,11]);kernel_rfl;kernel_rfl;rfl|(with_reducible apply dv (id:=4) [0,1,2,3,4,5,6]);kernel_rfl;kernel_rfl;rfl|(with_reducible apply dv (id:=7) [0,1,2,3,4,5,6,7,8,9]);kernel_rfl;kernel_rfl;rfl|refine bQ ?_|refine fO ?_|(with_reducible apply oQ 1);(iterate 4 rfl);kernel_rfl;rfl|(with_reducible apply kB 1);(iterate 4 rfl);(omega);(assumption);rfl;kernel_rfl;rfl|(with_reducible apply kB 3);(iterate 4 rfl);(omega);(assumption);rfl;kernel_rfl;rfl|(with_reducible apply oR 1);(iterate 3 rfl);(assumption);assumption;rfl;kernel_rfl;rfl|(with_reducible apply oR 3);(iterate 3 rfl);(assumption);assumption;rfl;kernel_rfl;rfl)
    by_cases u4:s.T+1<s.hot.length
    · rw[if_pos u4]
      have Bi:(s.T:Int)+1<(s.hot.length:Int):=by omega
      have gi:dE E r rm {s with fnd:=s.fnd,T:=s.T+1} (eT E r rm s.ph s.I s.J ((s.T:Int)+1) s.dirty hv fv cv b lk) (ea b S hv fv cv s.hot (s.fnd) s.ch):=⟨hv,fv,cv,b,S,lk,hS,df,gG,rfl,rfl⟩;(refine aQ ?_)
      ((refine dA rfl aM rfl (a8.refl _) gi.closed rfl fD ?_))
      exact⟨_,rfl,rfl,gi⟩
    · rw[if_neg u4,if_neg cr]
      have Bi:¬(s.T:Int)+1<(s.hot.length:Int):=by omega
      have J9:¬((s.fnd).length:Int)=0:=fun h=>cr (nj (by omega));refine Vc 2 1000 9 (jS fv (s.fnd)) rfl rfl rfl ?_;refine oJ 2 50 2 rfl ?_
      refine GX (ea b S hv (.slice none 0 0) cv s.hot [] s.ch) (fun k q ae=>by
        match k with
        | 0=>exact ae
        | 1=>exact ae
        | 2=>exact ae
        | 3=>exact ae
        | k+4=>cases ae) ?_
      have gi:dE E r rm {s with T:=0,fnd:=[],ch:=s.ch.set s.I (bB.dF V s.J (gu (p1,p2) (q1,q2) (s.fnd)),eL D s.J (s.fnd).length)} (eT E r rm s.ph s.I s.J 0 s.dirty hv (.slice none 0 0) cv b lk) (ea b S hv (.slice none 0 0) cv s.hot [] (s.ch.set s.I (bB.dF V s.J (gu (p1,p2) (q1,q2) (s.fnd)),eL D s.J (s.fnd).length))):=⟨hv,_,cv,b,S,lk,hS,df,(fun h=>absurd (ik.symm.trans (show s.ph=3 from h)) (by decide)),rfl,rfl⟩
      have lD:upd (ea b S hv (.slice none 0 0) cv s.hot [] s.ch) 3 ⟨53,2,cv,s.ch.length,eP (eB s.ch) ((s.I:Int).toNat*2) [.p (b6 2 (bB.dF V s.J (gu (p1,p2) (q1,q2) (s.fnd))).length (b0 (bB.dF V s.J (gu (p1,p2) (q1,q2) (s.fnd))))),.p (b6 1 (eL D s.J (s.fnd).length).length (cK (eL D s.J (s.fnd).length)))]⟩=ea b S hv (.slice none 0 0) cv s.hot [] (s.ch.set s.I (bB.dF V s.J (gu (p1,p2) (q1,q2) (s.fnd)),eL D s.J (s.fnd).length)):=by
        rw[Ox rfl a7,show s.ch.length=(s.ch.set s.I (bB.dF V s.J (gu (p1,p2) (q1,q2) s.fnd),eL D s.J s.fnd.length)).length from(List.length_set ..).symm];exact Us
      generalize yW:bB.dF V s.J (gu (p1,p2) (q1,q2) (s.fnd))=Nq at *;generalize BP:eL D s.J (s.fnd).length=xW at *;generalize Q5:gu (p1,p2) (q1,q2) (s.fnd)=L' at *;(repeat first|(with_reducible apply fW (id:=12) [0,1,2,3,4,5,6,7,8,9,10,11,12,13,14,15,16,17,18,19,20,21,22,23,24,25,26,27,28,29,30,31,32] [4000000]);kernel_rfl;kernel_rfl;rfl|refine bQ ?_|refine fO ?_|(with_reducible apply kB 3);(iterate 4 rfl);(omega);(assumption);rfl;kernel_rfl;rfl);refine yR 3 rfl rfl rfl rfl i2 rfl rfl ko.1 rfl ?_;(refine aQ ?_)
      ((refine dA rfl aM rfl (a8.of_eq lD.symm) gi.closed rfl fD ?_))
      exact⟨_,rfl,rfl,gi⟩
end
section
variable{P:Program}{R:aC}{s:aB}{ops:Array Oper}{dr:Option (List Nat)}{ty:Nat}{pos:String}{after:Array Edge}{guard:Option (Nat×Bool)}{K:aC→aB→Prop}{rest:List Oper}
theorem BI{bs:List Value}{dst:Option Nat}{f:FuncId}{g:Operand}{az:Array TypeId}{l:List Operand}{args:List ag}{m0:Mem}{R0:aC}{Post:ag→Mem→aC→Prop} [E:Enters P f](hw:want ops ⟨dst,.call ⟨.value g,l.toArray,az⟩,ty,pos,after,guard⟩ s=some true)(hm:dP dr ⟨dst,.call ⟨.value g,l.toArray,az⟩,ty,pos,after,guard⟩=true)
  (aw:s.look g=some (aR (.func (.func f) bs.toArray #[]))) (aa:bs.all Ef=true) (aX:bs.map (fun b=>some (zd b))++l.map s.look=args.map some) (hp:b3 P f args m0 R0 Post) (aD:∀x∈args,∀j,x.owns j→∃cs,m0 j=some cs) (lA:∀k cs,m0 k=some cs→s.mem k=some cs∧(pc dr k=true∨∀r aG ao,Post r aG ao→aG k=some cs)) (ap:a8 R0 R) (e3:∀k cs x j,m0 k=some cs→x∈cs→x.owns j→∃au,m0 j=some au) (hd:jG dst s.n=true)
  (h:∀r aG ao,Post r aG ao→(∀k au,aG k=some au→(∃cs,m0 k=some cs)∨(s.mem k=none∧k<s.n))∧cH P ops dr K rest (bG ao R) ((s.over aG).put dst r)):cH P ops dr K (⟨dst,.call ⟨.value g,l.toArray,az⟩,ty,pos,after,guard⟩::rest) R s:=by
 refine⟨true,hw,IF hd,.inr (.inr (.inr (.inr (.inl ⟨rfl,hm,f,args,m0,R0,Post,⟨⟨_,g,rfl,rfl,.inl ⟨bs,aw,?_,aa⟩⟩,E.h⟩,hp,aD,lA,ap,e3,fun r aG ao h1 _ _ _=>h r aG ao h1⟩))))⟩;simpa using aX
theorem Zq(g e off:Nat)(cs:List AC):oC g off=kN (ey g e cs).v off:=by
 show oC g off = .pointer (some ((⟨g,0,none⟩:Addr).add off));rw[D1,hZ]
theorem pz{x:Operand}{d lt off g e:Nat}{cs:List AC}{c1:AC}(i:Nat) [T:e6 P lt false 1](hi:R i=some (ey g e cs))(hw:want ops ⟨some d,.load lt x,ty,pos,after,guard⟩ s=some true)(ab:s.look x=some (aR (oC g off)))(aT:cs[off]?=some c1)(ak:(ag.w (.one c1)).aV=true)(ap:vJ ops dr (some d)=true)(hd:Nat.blt d s.n=true)(h:cH P ops dr K rest R (s.put (some d) (.w (.one c1)))):cH P ops dr K (⟨some d,.load lt x,ty,pos,after,guard⟩::rest) R s :=
 BJ i hi hw (by rw[ab,Zq g e off cs]) Nat.one_pos aT ak ap hd h
end
theorem nH{P:Program}{fn:Func}{l:List ResultVar}{xs:List bH}{R R0 R1:aC}{s:aB}{Post:ag→Mem→aC→Prop}(ap:fn.results=l.toArray)(h:l.map (gV P s)=xs.map some)(an:a8 R1 R)(ab:(packed xs).aV=true)(aF:∀i r,R0 i=some r→∃bg,R1 i=some bg)(hp:Post (packed xs) bu R1):tE P fn bu R0 Post R s :=
 ⟨xs,packed xs,bu,R1,by rw[ap];exact h,.refl _,hp,fun k c h=>(by cases h),an,fun j af=>absurd af (ag.cU ab j),fun k c x j h=>(by cases h),fun k c h=>(by cases h),aF⟩
theorem dE.pZ{E:List (Int×bK)}{r rm:Nat}{s:bB.bd aq}{cs:List AC}{R:aC}(h:dE E r rm s cs R):R 9=none∧cs.all AC.aV=true∧0<cs.length:=by
 refine⟨?_,h.closed,?_⟩
 ·obtain⟨_,_,_,_,_,_,_,_,_,_,rfl⟩:=h;rfl
 ·obtain⟨_,_,_,_,_,_,_,_,_,rfl,_⟩:=h;exact gJ _
section
variable{E:List (Int×bK)}{r rm:Nat}
theorem GR{f:FuncId}{s s1:bB.bd aq}{v:ag}{cs:List AC}{R:aC}(tJ:v.aV=true)(hp:gv E r rm f [] s v s1)(a7:dE E r rm s cs R)(g e:Nat):b3 ah f [aR (bJ g)] bu (upd R 9 (ey g e cs)) fun br aG ao=>∃au R1 e',(br=v∧dE E r rm s1 au R1)∧aG=bu∧ao=upd R1 9 (ey g e' au):=by
 have h:=(hp cs R a7).Hc 9 g e rfl a7.pZ.2.1 a7.pZ.2.2 a7.pZ.1 (fun br aG ao aj=>by
  obtain⟨au,rfl,rfl,aj⟩:=aj;exact⟨tJ,aj.pZ.1,au,rfl,aj.pZ.2.1,aj.pZ.2.2⟩)
 refine⟨fun U ad W vs ca c9 cJ=>(h.call U ad W vs ca c9 cJ).mono ?_⟩;rintro cB W' ⟨v1,cn,aG,ao,aU,ck,dt,⟨au,R1,e',⟨gg,he,aj⟩,rfl,rfl⟩,jc⟩
 have:gg=au:=by
  have h1:cz 1000 au 1000=some au:=by unfold cz;exact bZ _ _ _
  rw[he] at h1;exact(hU h1).2.symm
 subst this;exact⟨v1,cn,bu,_,aU,ck,dt,⟨gg,R1,e',aj,rfl,rfl⟩,jc⟩
theorem GQ{f:FuncId}{args:List ag}{s s1:bB.bd aq}{v:ag}(tJ:v.aV=true)(dc:args.all ag.aV=true)(h:∀cs R,dE E r rm s cs R→∀g e,b3 ah f (aR (bJ g)::args) bu (upd R 9 (ey g e cs)) fun br aG ao=>∃au R1 e',(br=v∧dE E r rm s1 au R1)∧aG=bu∧ao=upd R1 9 (ey g e' au)):gv E r rm f args s v s1:=by
 intro cs R a7;refine b3.VR 9 (fun g e => ?_) dc a7.pZ.2.1 a7.pZ.2.2 a7.pZ.1 (fun br au ao aj => ?_)
 ·refine⟨fun U ad W vs ca c9 cJ=>((h cs R a7 g e).call U ad W vs ca c9 cJ).mono ?_⟩;rintro cB W' ⟨v1,cn,aG,ao,aU,ck,dt,⟨au,R1,e',aj,rfl,rfl⟩,jc⟩;exact⟨v1,cn,bu,_,aU,ck,dt,⟨au,R1,e',⟨au,rfl,aj⟩,rfl,rfl⟩,jc⟩
 ·obtain⟨gg,he,rfl,aj⟩:=aj
  have:gg=au:=by
   have h1:cz 1000 au 1000=some au:=by unfold cz;exact bZ _ _ _
   rw[he] at h1;exact(hU h1).2.symm
  subst this;exact⟨tJ,aj.pZ.1,aj.pZ.2.1,aj.pZ.2.2⟩
theorem GO{s s1:bB.bd aq}{cs au:List AC}{R ao:aC}{g e e':Nat}(h:dE E r rm s cs R)(aK:dE E r rm s1 au ao):∀i q,upd R 9 (ey g e cs) i=some q→∃cI,upd ao 9 (ey g e' au) i=some cI:=by
 obtain⟨_,_,_,_,_,_,_,_,_,_,rfl⟩:=h;obtain⟨_,_,_,_,_,_,_,_,_,_,rfl⟩:=aK;intro i q aj
 by_cases lu:i=9
 ·subst lu;exact⟨_,bZ _ _ _⟩
 ·rw[bP _ _ lu] at aj;obtain⟨cI,l0⟩:=fD i q aj;exact⟨cI,by rw[bP _ _ lu];exact l0⟩
theorem GP{s s1:bB.bd aq}{cs au:List AC}{R ao:aC}{g e e':Nat}(h:dE E r rm s cs R)(aK:dE E r rm s1 au ao):bG (upd ao 9 (ey g e' au)) (upd R 9 (ey g e cs))=upd ao 9 (ey g e' au):=by
 have aD:=h.bG aK;funext i
 by_cases lu:i=9
 ·subst lu;exact(fH (bZ _ _ _)).trans (bZ _ _ _).symm
 ·have:bG ao R i=ao i:=congrFun aD i;unfold bG at this ⊢;rw[bP _ _ lu,bP _ _ lu];exact this
theorem afb{s s1:bB.bd aq}(ik:s.ph=0)(hp:gv E r rm 72 [] s l7 s1):gv E r rm 22 [] s (bl true) s1:=by
 refine GQ rfl rfl fun cs R a7 g e => ?_;have aZ:=GR rfl hp a7 g e;obtain⟨ph,I,J,T,dirty,hot,fnd,ch⟩:=s;obtain rfl:ph=0:=ik;obtain⟨hv,fv,cv,b,S,lk,hS,df,gG,rfl,rfl⟩:=id a7;refine cC (f:=22) Tryz.func22 rfl (b8 rfl) (by exact ib) ?_;(refine aQ ?_);refine pz 9 rfl rfl rfl rfl rfl rfl rfl ?_;(refine aQ ?_);refine pz 9 rfl rfl rfl rfl rfl rfl rfl ?_;(refine aQ ?_);refine BI (bs:=[bJ g]) (args:=[aR (bJ g)]) (l:=[]) rfl rfl rfl rfl rfl aZ (fun x ab j af=>by simp at ab;subst ab;exact absurd af (gS _ j)) (fun k c h=>by cases h) (a8.refl _) (fun k c x j h=>by cases h) rfl (fun br aG ao aj => ?_);obtain⟨au,R1,e',⟨rfl,bW⟩,rfl,rfl⟩:=aj;refine⟨fun k c h=>(by cases h),?_⟩;rw[GP a7 bW,sI];(refine aQ ?_)
 ((refine nH rfl (bb rfl aM) (a8.refl _) rfl (GO a7 bW) ?_))
 exact⟨au,R1,e',⟨rfl,bW⟩,rfl,rfl⟩
theorem afc{s s1:bB.bd aq}(ik:s.ph=1)(hp:gv E r rm 73 [] s l7 s1):gv E r rm 22 [] s (bl true) s1:=by
 refine GQ rfl rfl fun cs R a7 g e => ?_;have aZ:=GR rfl hp a7 g e;obtain⟨ph,I,J,T,dirty,hot,fnd,ch⟩:=s;obtain rfl:ph=1:=ik;obtain⟨hv,fv,cv,b,S,lk,hS,df,gG,rfl,rfl⟩:=id a7;refine cC (f:=22) Tryz.func22 rfl (b8 rfl) (by exact ib) ?_;(refine aQ ?_);refine pz 9 rfl rfl rfl rfl rfl rfl rfl ?_;(refine aQ ?_);refine pz 9 rfl rfl rfl rfl rfl rfl rfl ?_;(refine aQ ?_);refine BI (bs:=[bJ g]) (args:=[aR (bJ g)]) (l:=[]) rfl rfl rfl rfl rfl aZ (fun x ab j af=>by simp at ab;subst ab;exact absurd af (gS _ j)) (fun k c h=>by cases h) (a8.refl _) (fun k c x j h=>by cases h) rfl (fun br aG ao aj => ?_);obtain⟨au,R1,e',⟨rfl,bW⟩,rfl,rfl⟩:=aj;refine⟨fun k c h=>(by cases h),?_⟩;rw[GP a7 bW,sI];(refine aQ ?_)
 ((refine nH rfl (bb rfl aM) (a8.refl _) rfl (GO a7 bW) ?_))
 exact⟨au,R1,e',⟨rfl,bW⟩,rfl,rfl⟩
theorem afd{s s1:bB.bd aq}(ik:s.ph=2)(hp:gv E r rm 74 [] s l7 s1):gv E r rm 22 [] s (bl true) s1:=by
 refine GQ rfl rfl fun cs R a7 g e => ?_;have aZ:=GR rfl hp a7 g e;obtain⟨ph,I,J,T,dirty,hot,fnd,ch⟩:=s;obtain rfl:ph=2:=ik;obtain⟨hv,fv,cv,b,S,lk,hS,df,gG,rfl,rfl⟩:=id a7;refine cC (f:=22) Tryz.func22 rfl (b8 rfl) (by exact ib) ?_;(refine aQ ?_);refine pz 9 rfl rfl rfl rfl rfl rfl rfl ?_;(refine aQ ?_);refine pz 9 rfl rfl rfl rfl rfl rfl rfl ?_;(refine aQ ?_);refine BI (bs:=[bJ g]) (args:=[aR (bJ g)]) (l:=[]) rfl rfl rfl rfl rfl aZ (fun x ab j af=>by simp at ab;subst ab;exact absurd af (gS _ j)) (fun k c h=>by cases h) (a8.refl _) (fun k c x j h=>by cases h) rfl (fun br aG ao aj => ?_);obtain⟨au,R1,e',⟨rfl,bW⟩,rfl,rfl⟩:=aj;refine⟨fun k c h=>(by cases h),?_⟩;rw[GP a7 bW,sI];(refine aQ ?_)
 ((refine nH rfl (bb rfl aM) (a8.refl _) rfl (GO a7 bW) ?_))
 exact⟨au,R1,e',⟨rfl,bW⟩,rfl,rfl⟩
theorem afe{s s1:bB.bd aq}(ik:s.ph=3)(hp:gv E r rm 75 [] s l7 s1):gv E r rm 22 [] s (bl true) s1:=by
 refine GQ rfl rfl fun cs R a7 g e => ?_;have aZ:=GR rfl hp a7 g e;obtain⟨ph,I,J,T,dirty,hot,fnd,ch⟩:=s;obtain rfl:ph=3:=ik;obtain⟨hv,fv,cv,b,S,lk,hS,df,gG,rfl,rfl⟩:=id a7;refine cC (f:=22) Tryz.func22 rfl (b8 rfl) (by exact ib) ?_;(refine aQ ?_);refine pz 9 rfl rfl rfl rfl rfl rfl rfl ?_;(refine aQ ?_);refine pz 9 rfl rfl rfl rfl rfl rfl rfl ?_;(refine aQ ?_);refine BI (bs:=[bJ g]) (args:=[aR (bJ g)]) (l:=[]) rfl rfl rfl rfl rfl aZ (fun x ab j af=>by simp at ab;subst ab;exact absurd af (gS _ j)) (fun k c h=>by cases h) (a8.refl _) (fun k c x j h=>by cases h) rfl (fun br aG ao aj => ?_);obtain⟨au,R1,e',⟨rfl,bW⟩,rfl,rfl⟩:=aj;refine⟨fun k c h=>(by cases h),?_⟩;rw[GP a7 bW,sI];(refine aQ ?_)
 ((refine nH rfl (bb rfl aM) (a8.refl _) rfl (GO a7 bW) ?_))
 exact⟨au,R1,e',⟨rfl,bW⟩,rfl,rfl⟩
theorem RH{s:bB.bd aq}(ik:4≤s.ph)(anv:s.ph≤5):gv E r rm 22 [] s (bl false) s:=by
 intro cs R a7;obtain⟨hv,fv,cv,b,S,lk,hS,df,gG,rfl,rfl⟩:=id a7;have aJ:(s.ph:Int)≥4:=by omega
 refine cC (f:=22) Tryz.func22 rfl (b8 rfl) (by exact dk rfl) ?_;(refine aQ ?_)
 ((refine dA rfl (bb rfl aM) rfl (a8.refl _) a7.closed rfl fD ?_))
 exact⟨_,rfl,rfl,a7⟩
end
section
variable{E:List (Int×bK)}{r rm:Nat}
abbrev x7(E:List (Int×bK))(r rm:Nat)(s:bB.bd aq):Prop:=jl (bh E r rm) (xq (E.map Prod.snd) r) s
structure gL (E:List (Int×bK)) (r rm:Nat):Prop where
 r:r≤28
 near:jD (E.map Prod.snd)=true
 len:E.length≤300
 pos:1≤rm
 room:rm≤1024
theorem gL.ok(h:gL E r rm):lS (bh E r rm) (xq (E.map Prod.snd) r):=ajX h.r h.near
theorem gL.n(E:List (Int×bK))(r rm:Nat):(bh E r rm).n=E.length:=jT ..
theorem gL.wE(h:gL E r rm){s:bB.bd aq}(aa:iT (bh E r rm) s)(al:lR (bh E r rm) (xq (E.map Prod.snd) r) s):lp s.ch:=by
 have hlen:=al.len;rw[gL.n] at hlen;refine⟨by have:=h.len;omega,fun c ak => ?_⟩;obtain⟨i,hi⟩:=kJ ak;have h1:=(IB h.ok aa al ak).1;have h2:(bh E r rm).R=rm:=rfl;have:=h.room;exact⟨(al.iU i c hi).len,by omega⟩
theorem gL.hot(h:gL E r rm){s:bB.bd aq}(aa:iT (bh E r rm) s):s.hot.length≤1024:=by
 have h1:=aa.room;have h2:(bh E r rm).R=rm:=rfl;have:=h.room;omega
theorem RG{s:bB.bd aq}(h:gL E r rm)(a7:x7 E r rm s):gv E r rm 22 [] s (bl (decide (s.ph<4))) (dh (bh E r rm) s):=by
 obtain⟨aa,aF|h1|h2|ar|aJ|bO⟩:=a7
 ·have e:dh (bh E r rm) s=r8 (bh E r rm) s:=by simp only[dh,aF.ph]
  rw[e,aF.ph];have hi:=aF.I;rw[gL.n] at hi;exact afb aF.ph (afx h.r h.near h.len hi aF.dirty aF.fnd (h.hot aa) aF.ph)
 ·have e:dh (bh E r rm) s=sJ (bh E r rm) s:=by simp only[dh,h1.ph]
  rw[e,h1.ph];have hi:=h1.J;rw[gL.n] at hi;exact afc h1.ph (afz h.r h.near h.len h1.we hi h1.dirty h1.fnd (h.hot aa) h1.ph)
 ·obtain⟨c,p,q,g1,g2,g3,ay⟩:=h2.link;have g4:=bF h2.T;generalize s.hot[s.T]'h2.T=x at g4
  have e:dh (bh E r rm) s=tR (bh E r rm) s c p q (mQ (bh E r rm) p q x s.fnd):=by
   simp only[dh,h2.ph,zt,g1,g2,g3,g4]
  rw[e,h2.ph];have ak:=h2.laid.iU _ _ g1;have hd:=IB h.ok aa h2.laid (cP g1);have an:(bh E r rm).R=rm:=rfl;have anz:=h.room;obtain⟨V,D⟩:=c;have hp:=aa.hr _ (ak.hot p (cP g2));have aj:=aa.hr _ (ak.hot q (cP g3));have ba:=h.hot aa
  have ve:(mQ (bh E r rm) p q x s.fnd)=(s.hot.take (s.T+1)).filter (kw (bh E r rm) p q):=by
   rw[Pj g4,ay];unfold mQ
   split <;> simp[*]
  refine afd h2.ph (afA h.r (h.wE aa h2.laid) g1 g2 g3 g4 (fun d tB => ?_) hp aj h2.dirty ba ?_ ?_ h2.ph)
  ·have:=hd.2 d tB;omega
  ·rw[ay];refine eI (List.length_filter_le ..) ?_;rw[dX];omega
  ·rw[ve];exact(aa.nd.sublist (List.take_sublist ..)).filter _
 ·have e:dh (bh E r rm) s=tS (bh E r rm) s:=by simp only[dh,ar.ph]
  rw[e,ar.ph];have ak:=h.wE aa ar.laid;refine afe ar.ph (afy h.r ak ?_ ar.we ar.J (fun l al => ?_) ar.fnd (h.hot aa) ar.ph)
  ·have:=ar.J;cases yA:s.ch with
   | nil=>rw[yA] at this;simp[bi] at this
   | cons=>exact gJ _
  ·obtain⟨_,a1,a2⟩:=F1 h.ok ar.laid al;exact⟨aa.hr _ a1,aa.hr _ a2⟩
 ·have e:dh (bh E r rm) s=s:=by simp only[dh,aJ.ph]
  rw[e,aJ.ph];exact RH (by rw[aJ.ph];decide) (by rw[aJ.ph];decide)
 ·have e:dh (bh E r rm) s=s:=by simp only[dh,bO.ph]
  rw[e,bO.ph];exact RH (by rw[bO.ph];decide) (by rw[bO.ph];decide)
end
structure dH where
 k:Nat
 st:Nat
 s:bB.bd aq
section
variable{E:List (Int×bK)}{rm:Nat}
def gR(E:List (Int×bK))(rm k:Nat):dH:=⟨k,0,fe (bh E k rm)⟩
def fS(E:List (Int×bK))(rm:Nat)(l:dH):dH :=
 if 4≤l.s.ph then l else if (dh (bh E l.k rm) l.s).ph=5 then ⟨l.k+1,l.st+1,fe (bh E (l.k+1) rm)⟩ else ⟨l.k,l.st+1,dh (bh E l.k rm) l.s⟩
def e4(E:List (Int×bK))(rm:Nat):Nat→dH→Nat×dH
 | 0,l=>(0,l)
 | n+1,l=>if 4≤l.s.ph then(0,l) else((e4 E rm n (fS E rm l)).1+1,(e4 E rm n (fS E rm l)).2)
theorem akk{l:dH}(h:4≤l.s.ph):∀n,e4 E rm n l=(0,l)
 | 0=>rfl
 | n+1=>if_pos h
structure jj (E:List (Int×bK)) (rm:Nat) (l:dH):Prop where
 fit:gL E l.k rm
 inv:x7 E l.k rm l.s
 Lj:l.s.ph≠5
 last:l.k=28→l.s.ph=4∨∃m,One (bh E 28 rm) (0,0) m l.s
theorem jj.up{l:dH}(h:jj E rm l)(aJ:¬ 4≤l.s.ph)(bO:(dh (bh E l.k rm) l.s).ph=5):l.k<28:=by
 have ae:=h.fit.r;rcases iv l.k 28 with q|q
 ·exact q
 ·have e:l.k=28:=by omega
  rcases h.last e with q4|⟨m,Bb⟩
  ·omega
  ·have ky:=h.fit;have hinv:=h.inv;rw[e] at ky hinv bO;have Bc:One (bh E 28 rm) (0,0) (m+1) l.s:=⟨Bb.hot,Bb.left.imp (fun x=>⟨x.1,Nat.le_succ_of_le x.2⟩) fun y=>y.imp (fun x=>⟨x.1,Nat.le_succ_of_le x.2⟩) id⟩;have:=(VC ky.ok (UE ky.near ky.pos) hinv Bc).left;omega
theorem ahn(aA:0<E.length):∃m,One (bh E 28 rm) (0,0) m (fe (bh E 28 rm)):=by
 refine⟨(bh E 28 rm).n+(bh E 28 rm).n*(bh E 28 rm).n,fun x ab=>(by cases ab),.inl ⟨if_neg (by rw[gL.n];omega),?_⟩⟩;show (bh E 28 rm).n-0+(bh E 28 rm).n*(bh E 28 rm).n≤(bh E 28 rm).n+(bh E 28 rm).n*(bh E 28 rm).n;omega
theorem y8{k:Nat}(ay:gL E k rm):jj E rm (gR E rm k):=by
 have cB:(fe (bh E k rm)).ph=if E.length=0 then 4 else 0:=by
  show (if (bh E k rm).n=0 then 4 else 0)=_;rw[gL.n]
 refine⟨ay,Ge _ _,?_,fun ae => ?_⟩
 ·show (fe (bh E k rm)).ph≠5;rw[cB];split <;> omega
 ·have ae:k=28:=ae;subst ae
  by_cases aF:E.length=0
  ·left;show (fe (bh E 28 rm)).ph=4;rw[cB,if_pos aF]
  ·exact .inr (ahn (by omega))
theorem jj.step{l:dH}(h:jj E rm l):jj E rm (fS E rm l):=by
 unfold fS
 by_cases aJ:4≤l.s.ph
 ·rw[if_pos aJ];exact h
 ·rw[if_neg aJ]
  by_cases bO:(dh (bh E l.k rm) l.s).ph=5
  ·rw[if_pos bO];have ae:=h.up aJ bO;exact⟨⟨ae,h.fit.near,h.fit.len,h.fit.pos,h.fit.room⟩,Ge _ _,(y8 (E:=E) (rm:=rm) (k:=l.k+1) ⟨ae,h.fit.near,h.fit.len,h.fit.pos,h.fit.room⟩).Lj,(y8 (E:=E) (rm:=rm) (k:=l.k+1) ⟨ae,h.fit.near,h.fit.len,h.fit.pos,h.fit.room⟩).last⟩
  ·rw[if_neg bO];refine⟨h.fit,(xM h.fit.ok h.inv).1,bO,fun ae => ?_⟩;have ae:l.k=28:=ae;rcases h.last ae with q4|⟨m,Bb⟩
   ·omega
   ·have ky:=h.fit;have hinv:=h.inv;rw[ae] at ky hinv;show (dh (bh E l.k rm) l.s).ph=4∨∃m,One (bh E 28 rm) (0,0) m (dh (bh E l.k rm) l.s);rw[ae];exact .inr ⟨m,VC ky.ok (UE ky.near ky.pos) hinv ⟨Bb.hot,Bb.left.imp (fun x=>⟨x.1,Nat.le_succ_of_le x.2⟩) fun y=>y.imp (fun x=>⟨x.1,Nat.le_succ_of_le x.2⟩) id⟩⟩
def p5(n rm:Nat):Nat:=8*(rm+2)*((n*rm+1)*(n*rm+1))
def pC(E:List (Int×bK))(rm:Nat)(l:dH):Nat:=(28-l.k)*p5 E.length rm+eK (bh E l.k rm) l.s
theorem Lg(k:Nat)(ap:1≤rm):eK (bh E k rm) (fe (bh E k rm))≤p5 E.length rm:=by
 have:=agU (bh E k rm) (show 0<rm by omega);rw[gL.n] at this;exact this
theorem jj.less{l:dH}(h:jj E rm l)(aJ:¬ 4≤l.s.ph):pC E rm (fS E rm l)<pC E rm l:=by
 have vk:=(xM h.fit.ok h.inv).2.1 (by omega);unfold fS;rw[if_neg aJ]
 by_cases bO:(dh (bh E l.k rm) l.s).ph=5
 ·rw[if_pos bO];have ae:=h.up aJ bO;have aA:=Lg (E:=E) (l.k+1) h.fit.pos;unfold pC;show (28-(l.k+1))*p5 E.length rm+eK (bh E (l.k+1) rm) (fe (bh E (l.k+1) rm))<_;rw[show 28-l.k=(28-(l.k+1))+1 by omega,l4,Nat.one_mul];omega
 ·rw[if_neg bO];unfold pC;show (28-l.k)*p5 E.length rm+eK (bh E l.k rm) (dh (bh E l.k rm) l.s)<_;omega
theorem LY:∀(n:Nat) {l:dH},jj E rm l→jj E rm (e4 E rm n l).2
 | 0,l,h=>h
 | n+1,l,h=>by
  unfold e4
  split
  ·exact h
  ·exact LY n h.step
theorem U0:∀(n:Nat) (l:dH),(e4 E rm n l).1≤n
 | 0,l=>cF 0
 | n+1,l=>by
  unfold e4
  split
  ·exact du _
  ·exact Nat.succ_le_succ (U0 n _)
theorem VD{l:dH}(aJ:¬ 4≤l.s.ph):(fS E rm l).st=l.st+1:=by
 unfold fS;rw[if_neg aJ];split <;> rfl
theorem alu{l:dH}:l.k≤(fS E rm l).k:=by
 unfold fS
 split
 ·exact cF _
 ·split
  ·exact Nat.le_succ _
  ·exact cF _
theorem LZ:∀(n:Nat) (l:dH),(e4 E rm n l).2.st=l.st+(e4 E rm n l).1∧l.k≤(e4 E rm n l).2.k
 | 0,l=>⟨rfl,cF _⟩
 | n+1,l=>by
  unfold e4
  split
  ·exact⟨rfl,cF _⟩
  ·rename_i aJ;obtain⟨h1,h2⟩:=LZ n (fS E rm l);rw[VD aJ] at h1;exact⟨by show (e4 E rm n (fS E rm l)).2.st=l.st+((e4 E rm n (fS E rm l)).1+1);omega,eI alu h2⟩
theorem U1:∀(n:Nat) {l:dH},jj E rm l→(e4 E rm n l).1+pC E rm (e4 E rm n l).2≤pC E rm l
 | 0,l,_=>by show 0+_≤_;rw[hZ];exact cF _
 | n+1,l,h=>by
  unfold e4
  split
  ·show 0+_≤_;rw[hZ];exact cF _
  ·rename_i aJ;have h1:=U1 n h.step;have h2:=h.less aJ;show (e4 E rm n (fS E rm l)).1+1+pC E rm (e4 E rm n (fS E rm l)).2≤pC E rm l;omega
theorem UY:∀(n:Nat) {l:dH},jj E rm l→pC E rm l≤n→(e4 E rm n l).2.s.ph=4
 | 0,l,h,aA=>by
  have bO:=h.Lj
  have hle:l.s.ph≤5:=by
   obtain⟨_,q|q|q|q|q|q⟩:=h.inv <;> (have:=q.ph;omega)
  by_cases aJ:4≤l.s.ph
  ·show l.s.ph=4;omega
  ·have:=h.less aJ;omega
 | n+1,l,h,aA=>by
  unfold e4
  split
  ·rename_i aJ;have bO:=h.Lj
   have hle:l.s.ph≤5:=by
    obtain⟨_,q|q|q|q|q|q⟩:=h.inv <;> (have:=q.ph;omega)
   show l.s.ph=4;omega
  ·rename_i aJ;have:=h.less aJ;exact UY n h.step (by omega)
theorem SB{k:Nat}(ay:gL E k rm):pC E rm (gR E rm k)≤29*p5 E.length rm:=by
 have:=Lg (E:=E) k ay.pos;have h2:(28-k)*p5 E.length rm≤28*p5 E.length rm:=iw _ (by omega);unfold pC gR;show (28-k)*p5 E.length rm+eK (bh E k rm) (fe (bh E k rm))≤_;omega
end
section
variable{E:List (Int×bK)}{r rm:Nat}
theorem FU{s:bB.bd aq}:gv E r rm 23 [] s (aL s.ph) s:=by
 intro cs R a7;obtain⟨hv,fv,cv,b,S,lk,hS,df,gG,rfl,rfl⟩:=id a7;refine cC (f:=23) Tryz.func23 rfl (b8 rfl) (by exact dk rfl) ?_;(refine aQ ?_)
 ((refine dA rfl (bb rfl aM) rfl (a8.refl _) a7.closed rfl fD ?_))
 exact⟨_,rfl,rfl,a7⟩
def XJ(E:List (Int×bK))(r rm:Nat)(n:Int)(s:bB.bd aq)(k:Nat)(R:aC)(az:List (Nat×ag))(aS:List (Nat×List AC)):Prop :=
 ∃(d:Nat) (s1:bB.bd aq) (hv fv cv:Value) (b:Nat) (S:dS) (lk:AC),k=n.toNat-d∧d≤n.toNat∧x7 E r rm s1∧h4 (bh E r rm) n.toNat s=((h4 (bh E r rm) k s1).1+d,(h4 (bh E r rm) k s1).2)∧dE E r rm s1 (eT E r rm s1.ph s1.I s1.J s1.T s1.dirty hv fv cv b lk) (ea b S hv fv cv s1.hot s1.fnd s1.ch)∧lk.aV=true∧R=ea b S hv fv cv s1.hot s1.fnd s1.ch∧az=[(0,np),(1,aL n),(5,aL d)]∧aS=[(1000,eT E r rm s1.ph s1.I s1.J s1.T s1.dirty hv fv cv b lk)]
theorem ae6{s:bB.bd aq}(h:gL E r rm)(hs:x7 E r rm s){n:Int}(aA:n≤9223372036854775807):gv E r rm 30 [aL n] s (aL (h4 (bh E r rm) n.toNat s).1) (h4 (bh E r rm) n.toNat s).2:=by
 intro cs R a7;obtain⟨hv,fv,cv,b,S,lk,hS,df,gG,rfl,rfl⟩:=id a7;refine cC (f:=30) Tryz.func30 rfl (b8 rfl) (by exact dk rfl) ?_;(refine aQ ?_);refine iy 16 (XJ E r rm n s) n.toNat (ea b S hv fv cv s.hot s.fnd s.ch) _ [(1000,eT E r rm s.ph s.I s.J s.T s.dirty hv fv cv b lk)] ⟨0,s,hv,fv,cv,b,S,lk,rfl,du _,hs,rfl,a7,df,rfl,rfl,rfl⟩ (a8.refl _) rfl ⟨rfl,rfl,rfl,trivial⟩ ⟨rfl,trivial⟩ ?_ ?_
 ·cases lk <;> first|rfl|cases df
 clear a7 hS df gG;rintro k R az aS ⟨d,s1,hv,fv,cv,b,S,lk,rfl,hd,py,eO,a7,df,rfl,rfl,rfl⟩ bC;clear bC
 by_cases bc:d<n.toNat
 ·have q1:(d:Int)<n:=by omega
  have dt:(0:Int)≤(d:Int):=by omega
  obtain⟨bx,mX⟩:∃bx,n.toNat-d=bx+1:=⟨n.toNat-d-1,by omega⟩;have aZ:=RG h py;have hinv:=(xM h.ok py)
  by_cases aJ:s1.ph<4
  ·rw[cd aJ] at aZ;(repeat first|refine bQ ?_|(with_reducible apply eH);rfl;(repeat first|refine gW ?_|(with_reducible apply bU (c:=true));rfl;rfl;(exact cd (by omega)));(with_reducible apply dC));refine jv rfl rfl rfl rfl rfl rfl rfl rfl aZ a7 (fun au ao bW => ?_);obtain⟨bT,c8,cY,cx,S',hT,ep,ig,jJ,rfl,rfl⟩:=id bW;(refine aQ ?_);refine⟨bx,_,_,[(1000,eT E r rm (dh (bh E r rm) s1).ph (dh (bh E r rm) s1).I (dh (bh E r rm) s1).J (dh (bh E r rm) s1).T (dh (bh E r rm) s1).dirty bT c8 cY cx hT)],by omega,⟨d+1,dh (bh E r rm) s1,bT,c8,cY,cx,S',hT,by omega,by omega,hinv.1,?_,bW,ig,rfl,rfl,rfl⟩,a8.refl _,rfl,⟨rfl,rfl,rfl,trivial⟩,⟨rfl,trivial⟩,?_⟩
   ·rw[eO,mX];have tu:¬ 4≤s1.ph:=by omega
    have e:h4 (bh E r rm) (bx+1) s1=((h4 (bh E r rm) bx (dh (bh E r rm) s1)).1+1,(h4 (bh E r rm) bx (dh (bh E r rm) s1)).2):=if_neg tu;rw[e];exact la (by show _+1+d=_+(d+1);omega) rfl
   ·cases hT <;> first|rfl|cases ig
  ·have tu:4≤s1.ph:=by omega
   rw[cb aJ,hinv.2.2 tu] at aZ;rw[ako tu] at eO;have eO:h4 (bh E r rm) n.toNat s=(d,s1):=by rw[eO];exact la (hZ d) rfl
   (repeat first|refine bQ ?_|(with_reducible apply eH);rfl;(repeat first|refine gW ?_|(with_reducible apply bU (c:=true));rfl;rfl;(exact cd (by omega)));(with_reducible apply dC));refine jv rfl rfl rfl rfl rfl rfl rfl rfl aZ a7 (fun au ao bW => ?_);obtain⟨bT,c8,cY,cx,S',hT,ep,ig,jJ,rfl,rfl⟩:=id bW;(refine aQ ?_)
   ((refine dA rfl (bb rfl aM) rfl (a8.refl _) bW.closed rfl fD ?_))
   refine⟨_,rfl,?_,?_⟩
   ·rw[eO];rfl
   ·rw[eO];exact bW
 ·have q1:¬(d:Int)<n:=by omega
  have hq:n.toNat-d=0:=by omega
  rw[hq] at eO;have eO:h4 (bh E r rm) n.toNat s=(d,s1):=by rw[eO];exact la (hZ d) rfl
  (repeat first|refine bQ ?_|(with_reducible apply eH);rfl;(repeat first|refine gW ?_|(with_reducible apply bU (c:=false));rfl;rfl;(exact cb (by omega)));(with_reducible apply dC))
  ((refine dA rfl (bb rfl aM) rfl (a8.refl _) a7.closed rfl fD ?_))
  refine⟨_,rfl,?_,?_⟩
  ·rw[eO];rfl
  ·rw[eO];exact a7
def ym(ch:List (List aq×List Int)):Int:=ch.foldl (fun a c=>max a (mP c.2)) 0
theorem aac{ch:List (List aq×List Int)}{k:Nat}{c:List aq×List Int}(h:ch[k]?=some c):ym (ch.take (k+1))=max (ym (ch.take k)) (mP c.2):=by
 have ae:=(bt.1 h).1
 have e:ch.take (k+1)=ch.take k++[c]:=by
  rw[lH ae,(bt.1 h).2]
 unfold ym;rw[e,List.foldl_append];rfl
def WU(E:List (Int×bK))(r rm:Nat)(s:bB.bd aq)(hv fv cv:Value)(b:Nat)(S:dS)(lk:AC)(n:Nat)(R:aC)(az:List (Nat×ag))(aS:List (Nat×List AC)):Prop :=
 ∃(k:Nat) (ek d:Int),k≤s.ch.length∧n=s.ch.length-k∧ek=k∧d=ym (s.ch.take k)∧R=ea b S hv fv cv s.hot s.fnd s.ch∧az=[(3,aL d),(10,aR cv),(11,aL s.ch.length),(12,aL ek)]∧aS=[(1000,eT E r rm s.ph s.I s.J s.T s.dirty hv fv cv b lk)]
theorem aeO{s:bB.bd aq}(ak:lp s.ch):gv E r rm 24 [] s (aL (ym s.ch)) s:=by
 intro cs R a7;obtain⟨hv,fv,cv,b,S,lk,hS,df,gG,rfl,rfl⟩:=id a7;refine cC (f:=24) Tryz.func24 rfl (b8 rfl) (by exact dk rfl) ?_;(repeat first|refine bQ ?_|(with_reducible apply oQ 3);(iterate 4 rfl);kernel_rfl;rfl);refine iy 22 (WU E r rm s hv fv cv b S lk) s.ch.length (ea b S hv fv cv s.hot s.fnd s.ch) _ [(1000,eT E r rm s.ph s.I s.J s.T s.dirty hv fv cv b lk)] ⟨0,0,0,du _,rfl,rfl,rfl,rfl,rfl,rfl⟩ (a8.refl _) rfl ⟨rfl,rfl,rfl,rfl,trivial⟩ ⟨rfl,trivial⟩ ?_ ?_
 ·cases lk <;> first|rfl|cases df
 rintro n R az aS ⟨k,ek,d,ae,rfl,lZ,vb,rfl,rfl,rfl⟩ bC;clear bC;have hlen:=ak.1
 by_cases aj:k<s.ch.length
 ·obtain⟨V,D,g1⟩:∃V D,s.ch[k]?=some (V,D):=⟨_,_,bF aj⟩;obtain⟨kx,hO⟩:=ak.2 _ (cP g1);simp only at kx hO;obtain⟨ko,pU⟩:=AF (ii:=ek) lZ g1;have q2:ek<(s.ch.length:Int):=by omega
  have q3:0≤ek:=by omega
  have q4:0<s.ch.length:=by omega
  have aE:=aac g1;rw[←vb,show max d (mP (V,D).2)=if mP D>d then mP D else d by show max d (mP D)=_;split <;> omega] at aE;have aZ:=Rx V D hO (by omega);(repeat first|refine bQ ?_|refine fO ?_|(with_reducible apply kB 3);(iterate 4 rfl);(omega);(assumption);rfl;kernel_rfl;rfl|(with_reducible apply oR 3);(iterate 3 rfl);(assumption);assumption;rfl;kernel_rfl;rfl);refine⟨s.ch.length-(k+1),ea b S hv fv cv s.hot s.fnd s.ch,_,[(1000,eT E r rm s.ph s.I s.J s.T s.dirty hv fv cv b lk)],by omega,⟨k+1,ek+1,_,by omega,rfl,by omega,aE.symm,rfl,rfl,rfl⟩,a8.refl _,rfl,⟨rfl,rfl,rfl,rfl,trivial⟩,⟨rfl,trivial⟩,?_⟩;cases lk <;> first|rfl|cases df
 ·have q2:¬ek<(s.ch.length:Int):=by omega
  have cB:s.ch.take k=s.ch:=gB (by omega);rw[cB] at vb;(refine aQ ?_)
  ((refine dA rfl (bb rfl aM) rfl (a8.refl _) a7.closed rfl fD ?_))
  exact⟨_,rfl,by rw[←vb];rfl,a7⟩
end
theorem DV{n:Nat}{xs:List AC}(aA:n≤900000)(ak:xs.all AC.aV=true)(ab:xs.length=2*n):pe ah 153 [cG 2 n xs] fun v q=>∃bf,v=aR bf∧q=⟨50,2,bf,n,xs⟩:=by
 refine DX rfl (fun v q h=>by obtain⟨bf,rfl,_⟩:=h;rfl) ?_;refine cC (f:=153) Tryz.func153 rfl (b8 rfl) (by exact ib) ?_;(refine aQ ?_);refine Vf 4 rfl ?_;intro b aa;cases b with
 | true =>
  have aF:=aa rfl;subst aF;have h1:=nj ab;subst h1;clear aa;refine oJ 0 50 2 rfl ?_;(refine aQ ?_)
  ((refine yE rfl (bb rfl aM) rfl rfl (gJ _) ?_))
  exact⟨.slice none 0 0,rfl,rfl⟩
 | false =>
  clear aa;(refine aQ ?_);refine QN 0 rfl rfl rfl rfl rfl (fun v0 qk => ?_);(refine aQ ?_);refine na 0 rfl rfl rfl rfl ?q1 ?q2 ak rfl (fun v1 jL => ?_)
  case q1=>exact jB (by show 0+n≤1000000;omega)
  case q2=>show (0+n)*16≤140737488355328;omega
  (refine aQ ?_)
  ((refine yE rfl (bb rfl aM) rfl rfl (gJ _) ?_))
  exact⟨v1,rfl,by rw[uf,hZ]⟩
theorem Nx{n:Nat}{xs:List AC}(aA:n≤900000)(ak:xs.all AC.aV=true)(ab:xs.length=2*n):pe ah 154 [cG 2 n xs] fun v q=>∃bf,v=aR bf∧q=⟨53,2,bf,n,xs⟩:=by
 refine DX rfl (fun v q h=>by obtain⟨bf,rfl,_⟩:=h;rfl) ?_;refine cC (f:=154) Tryz.func154 rfl (b8 rfl) (by exact ib) ?_;(refine aQ ?_);refine Vf 4 rfl ?_;intro b aa;cases b with
 | true =>
  have aF:=aa rfl;subst aF;have h1:=nj ab;subst h1;clear aa;refine oJ 0 53 2 rfl ?_;(refine aQ ?_)
  ((refine yE rfl (bb rfl aM) rfl rfl (gJ _) ?_))
  exact⟨.slice none 0 0,rfl,rfl⟩
 | false =>
  clear aa;(refine aQ ?_);refine QN 0 rfl rfl rfl rfl rfl (fun v0 qk => ?_);(refine aQ ?_);refine na 0 rfl rfl rfl rfl ?q1 ?q2 ak rfl (fun v1 jL => ?_)
  case q1=>exact jB (by show 0+n≤1000000;omega)
  case q2=>show (0+n)*48≤140737488355328;omega
  (refine aQ ?_)
  ((refine yE rfl (bb rfl aM) rfl rfl (gJ _) ?_))
  exact⟨v1,rfl,by rw[uf,hZ]⟩
abbrev l5(k rm ph I J T:Int)(dirty:Bool)(hv fv cv:Value):List AC:=[.c (.int .i64 k),.c (.int .i64 rm),.c (.int .i64 ph),.c (.int .i64 I),.c (.int .i64 J),.c (.int .i64 T),.c (.bool dirty),.c hv,.c fv,.c cv]
abbrev mz(hv fv cv:Value)(hot fnd:List aq)(ch:List (List aq×List Int)):aC:=upd (upd (bp 1 (jS hv hot)) 2 (jS fv fnd)) 3 (wD cv ch)
abbrev nl(hv fv cv:Value)(hot fnd:List aq)(ch:List (List aq×List Int))(R:aC):aC:=upd (upd (upd R 4 (jS hv hot)) 5 (jS fv fnd)) 6 (wD cv ch)
theorem ajS{hv fv cv:Value}{hot fnd:List aq}{ch:List (List aq×List Int)}{R:aC}:upd (nl hv fv cv hot fnd ch R) 6 (wD cv ch)=nl hv fv cv hot fnd ch R:=by
 funext k
 by_cases hq:k=6
 ·subst hq;rfl
 ·rw[bP _ _ hq]
theorem AG(ch:List (List aq×List Int)):(eB ch).length=2*ch.length:=by
 unfold eB;induction ch with
 | nil=>rfl
 | cons c l cg=>rw[List.flatMap_cons,c3,cg,hX];show 2+_=_;omega
theorem Ow(ch:List (List aq×List Int)):∀y∈eB ch,y.aV=true:=fun y ai=>by
 obtain⟨c,_,h⟩:=List.mem_flatMap.1 ai;simp only[q5,fg,sN,or_false] at h;rcases h with rfl|rfl <;> rfl
theorem Rn(l:List aq):∀y∈b0 l,y.aV=true:=b4.1 (tP l)
theorem Oy{ch:List (List aq×List Int)}{i:Nat}{V:List aq}{D:List Int}(h:ch[i]?=some (V,D)):eP (eB ch) (2*i) [.p (b6 2 V.length (b0 V)),.p (b6 1 D.length (cK D))]=eB ch:=by
 have hi:=(bt.1 h).1
 have e:ch=ch.take i++(V,D)::ch.drop (i+1):=by
  conv=>lhs;rw[←ki i ch,jU hi,(bt.1 h).2]
 have aO:eB ch=eB (ch.take i)++([.p (b6 2 V.length (b0 V)),.p (b6 1 D.length (cK D))]++eB (ch.drop (i+1))):=by
  conv=>lhs;rw[e]
  simp[eB,q5]
 have al:(eB (ch.take i)).length=2*i:=by rw[AG,dX];congr 1;omega
 rw[aO,Mh al];simp
def WO(hv fv cv bT c8 cY:Value)(k rm ph I J T:Int)(dirty:Bool)(hot fnd:List aq)(ch:List (List aq×List Int))(n:Nat)(R:aC)(az:List (Nat×ag))(aS:List (Nat×List AC)):Prop :=
 ∃(i:Nat) (ii:Int),i≤ch.length∧n=ch.length-i∧ii=i∧R=nl bT c8 cY hot fnd ch (mz hv fv cv hot fnd ch)∧az=[(1,.w (.one (.own 1 0))),(2,.w (.one (.own 2 0))),(18,aR cY),(19,aL ch.length),(20,aL ii)]∧aS=[(1,l5 k rm ph I J T dirty bT c8 cY),(2,l5 0 0 0 0 0 0 false (.slice none 0 0) (.slice none 0 0) (.slice none 0 0))]
theorem afk{k rm ph I J T:Int}{dirty:Bool}{hv fv cv:Value}{hot fnd:List aq}{ch:List (List aq×List Int)}(ba:hot.length≤900000)(ay:fnd.length≤900000)(ak:lp ch) :
  b3 ah 83 [.w (.agg (l5 k rm ph I J T dirty hv fv cv))] bu (mz hv fv cv hot fnd ch) fun br aG ao=>∃bT c8 cY,br = .w (.agg (l5 k rm ph I J T dirty bT c8 cY))∧aG=bu∧ao=nl bT c8 cY hot fnd ch (mz hv fv cv hot fnd ch):=by
 have hlen:=ak.1;have dj:∀ys:List AC,ys.length=(jS hv hot).ys.length→ys.all AC.aV=true→pe ah 153 [cG 2 hot.length ys] fun v q=>∃bf,v=aR bf∧q=⟨50,2,bf,hot.length,ys⟩:=fun ys al ai=>DV ba ai (by rw[al,oy,Nat.mul_comm]);have fI:∀ys:List AC,ys.length=(jS fv fnd).ys.length→ys.all AC.aV=true→pe ah 153 [cG 2 fnd.length ys] fun v q=>∃bf,v=aR bf∧q=⟨50,2,bf,fnd.length,ys⟩:=fun ys al ai=>DV ay ai (by rw[al,oy,Nat.mul_comm]);have lN:∀ys:List AC,ys.length=(wD cv ch).ys.length→ys.all AC.aV=true→pe ah 154 [cG 2 ch.length ys] fun v q=>∃bf,v=aR bf∧q=⟨53,2,bf,ch.length,ys⟩:=fun ys al ai=>Nx (by omega) ai (by rw[al,AG]);refine cC (f:=83) Tryz.func83 rfl (b8 rfl) (by exact ib) ?_;(repeat first|(with_reducible apply fW (id:=1) [0,1,3,4,6,7,2,9,5,8,10,11,12,13,14] [7,10,13]);kernel_rfl;kernel_rfl;rfl|refine bQ ?_);refine Kr 1 4 (by decide) rfl rfl rfl rfl dj rfl (gJ _) (Rn _) rfl (fun bT => ?_);(refine aQ ?_);refine Kr 2 5 (by decide) rfl rfl rfl rfl fI rfl (gJ _) (Rn _) rfl (fun c8 => ?_)
 skip
 refine Kr 3 6 (by decide) rfl rfl rfl rfl lN rfl (gJ _) (Ow _) rfl (fun cY => ?_);(repeat first|refine bQ ?_|(with_reducible apply oQ 6);(iterate 4 rfl);kernel_rfl;rfl);refine iy 33 (WO hv fv cv bT c8 cY k rm ph I J T dirty hot fnd ch) ch.length (nl bT c8 cY hot fnd ch (mz hv fv cv hot fnd ch)) _ [(1,l5 k rm ph I J T dirty bT c8 cY),(2,l5 0 0 0 0 0 0 false (.slice none 0 0) (.slice none 0 0) (.slice none 0 0))] ⟨0,0,du _,rfl,rfl,rfl,rfl,rfl⟩ (a8.refl _) rfl ⟨rfl,rfl,rfl,rfl,rfl,trivial⟩ ⟨rfl,rfl,trivial⟩ rfl ?_;rintro n R az aS ⟨i,ii,hi,rfl,ev,rfl,rfl,rfl⟩ bC;clear bC
 by_cases aj:i<ch.length
 ·obtain⟨V,D,g1⟩:∃V D,ch[i]?=some (V,D):=⟨_,_,bF aj⟩;obtain⟨kx,hO⟩:=ak.2 _ (cP g1);simp only at kx hO;obtain⟨ko,pU⟩:=AF (ii:=ii) ev g1;have aZ:=Rw V D hO (by omega);have q2:ii<(ch.length:Int):=by omega
  have q3:0≤ii:=by omega
  have q4:0<ch.length:=by omega
  have aI:ii.toNat*2=2*i:=by omega
  have BB:ii.toNat*2+2≤(eB ch).length:=by rw[AG];omega
  have cf:eP (eB ch) (ii.toNat*2) [.p (b6 2 V.length (b0 V)),.p (b6 1 D.length (cK D))]=eB ch:=by rw[aI];exact Oy g1
  (repeat first|(with_reducible apply fW (id:=5) [0,1,2,3,4,5,6] [4000000]);kernel_rfl;kernel_rfl;rfl|refine bQ ?_|refine fO ?_|(with_reducible apply kB 6);(iterate 4 rfl);(omega);(assumption);rfl;kernel_rfl;rfl|(with_reducible apply oR 6);(iterate 3 rfl);(assumption);assumption;rfl;kernel_rfl;rfl);refine yR 6 rfl rfl rfl rfl q4 rfl rfl BB rfl ?_;(refine aQ ?_);refine⟨ch.length-(i+1),nl bT c8 cY hot fnd ch (mz hv fv cv hot fnd ch),_,[(1,l5 k rm ph I J T dirty bT c8 cY),(2,l5 0 0 0 0 0 0 false (.slice none 0 0) (.slice none 0 0) (.slice none 0 0))],by omega,⟨i+1,ii+1,by omega,rfl,by omega,rfl,rfl,rfl⟩,fun k q ae => ?_,rfl,⟨rfl,rfl,rfl,rfl,rfl,trivial⟩,⟨rfl,rfl,trivial⟩,rfl⟩
  have ei:upd (nl bT c8 cY hot fnd ch (mz hv fv cv hot fnd ch)) 6 (⟨53,2,cY,ch.length,eP (eB ch) (ii.toNat*2) [.p (b6 2 V.length (b0 V)),.p (b6 1 D.length (cK D))]⟩:bE)=nl bT c8 cY hot fnd ch (mz hv fv cv hot fnd ch):=by
   rw[cf];exact ajS
  exact(congrFun ei k).trans ae
 ·have q2:¬ii<(ch.length:Int):=by omega
  (refine aQ ?_)
  ((refine nH rfl (da rfl rfl rfl aM) (a8.refl _) rfl (fun j q h => ?_) ?_))
  ·match j with
   | 0=>cases h
   | 1=>exact⟨_,rfl⟩
   | 2=>exact⟨_,rfl⟩
   | 3=>exact⟨_,rfl⟩
   | j+4=>cases h
  ·exact⟨bT,c8,cY,rfl,rfl,rfl⟩
theorem ajK{b:Nat}{S:dS}{hv fv cv:Value}{hot fnd:List aq}{ch:List (List aq×List Int)}:a8 (mz hv fv cv hot fnd ch) (ea b S hv fv cv hot fnd ch)
 | 0,_,h=>by cases h
 | 1,_,h=>h
 | 2,_,h=>h
 | 3,_,h=>h
 | k+4,_,h=>by cases h
theorem ajU{b:Nat}{S:dS}{hv fv cv bT c8 cY:Value}{hot fnd:List aq}{ch:List (List aq×List Int)}:bG (nl bT c8 cY hot fnd ch (mz hv fv cv hot fnd ch)) (ea b S hv fv cv hot fnd ch)=nl bT c8 cY hot fnd ch (ea b S hv fv cv hot fnd ch):=by
 funext i
 match i with
 | 0=>rfl
 | 1=>rfl
 | 2=>rfl
 | 3=>rfl
 | 4=>rfl
 | 5=>rfl
 | 6=>rfl
 | i+7=>rfl
theorem ajT{hv fv cv:Value}{hot fnd:List aq}{ch:List (List aq×List Int)}{R:aC}:∀i r,R i=some r→∃bg,nl hv fv cv hot fnd ch R i=some bg:=fun i r h=>by
 by_cases qb:i=6
 ·subst qb;exact⟨_,bZ _ _ _⟩
 ·by_cases jo:i=5
  ·subst jo;exact⟨_,rfl⟩
  ·by_cases ei:i=4
   ·subst ei;exact⟨_,rfl⟩
   ·exact⟨r,by unfold nl;rw[bP _ _ qb,bP _ _ jo,bP _ _ ei];exact h⟩
section
variable{E:List (Int×bK)}{r rm:Nat}
theorem ae8{s:bB.bd aq}(ba:s.hot.length≤900000)(ay:s.fnd.length≤900000)(ak:lp s.ch){cs:List AC}{R:aC}(a7:dE E r rm s cs R) :
  b3 ah 32 [np] (cz 1000 cs) R (mH 1000 fun br au ao=>∃hv fv cv,br = .w (.agg (l5 r rm s.ph s.I s.J s.T s.dirty hv fv cv))∧au=cs∧ao=nl hv fv cv s.hot s.fnd s.ch R):=by
 obtain⟨hv,fv,cv,b,S,lk,hS,df,gG,rfl,rfl⟩:=id a7;have aZ:=afk (k:=(r:Int)) (rm:=(rm:Int)) (ph:=(s.ph:Int)) (I:=(s.I:Int)) (J:=(s.J:Int)) (T:=(s.T:Int)) (dirty:=s.dirty) (hv:=hv) (fv:=fv) (cv:=cv) ba ay ak;refine cC (f:=32) Tryz.func32 rfl (b8 rfl) (by exact dk rfl) ?_;(refine aQ ?_);refine QL (l:=_) (args:=[_]) rfl rfl rfl rfl aZ ajK rfl rfl ?_;rintro _ _ _ ⟨bT,c8,cY,rfl,rfl,rfl⟩;refine⟨rfl,?_⟩;rw[ajU];(refine aQ ?_)
 ((refine dA rfl (da rfl rfl rfl aM) rfl (a8.refl _) a7.closed rfl ajT ?_))
 exact⟨_,rfl,bT,c8,cY,rfl,rfl,rfl⟩
end
instance anW:nw ah 28 95 5 40:=⟨by kernel_rfl⟩
abbrev Mz:ag:=aR (.func (.func 108) #[] #[])
theorem Tt{x y:Int}:aP ah 109 [bm x y] (bl (gQ (x,y))):=by
 have cs:((if y<x then y else x) ≥ -134217728∧gQ (x,y)=decide ((if y>x then y else x)<134217728))∨(¬(if y<x then y else x) ≥ -134217728∧gQ (x,y)=false):=by
  by_cases h:(if y<x then y else x) ≥ -134217728
  ·refine .inl ⟨h,?_⟩;rw[o7,nR,decide_eq_true_iff];show ((_≤x∧x<_)∧_≤y∧y<_)↔_
   split at h <;> split <;> omega
  ·refine .inr ⟨h,?_⟩;cases aA:gQ (x,y) with
   | false=>rfl
   | true =>
    obtain⟨⟨a1,a2⟩,a3,a4⟩:((_≤x∧x<_)∧_≤y∧y<_):=nR.1 aA
    split at h <;> omega
 rcases cs with ⟨h,e⟩|⟨h,e⟩
 all_goals
  rw[e];refine bq (f:=109) Tryz.func109 rfl rfl rfl rfl ?_;(repeat first|refine dd ?_|(with_reducible apply bU (c:=true));rfl;rfl;(exact cd (by omega))|(with_reducible apply bU (c:=false));rfl;rfl;(exact cb (by omega)))
  ((refine bn rfl (bb rfl aM) ?_))
  exact ag.aW.refl _
abbrev yj(x:Int×bK):Bool := !(gQ x.2.1&&gQ x.2.2)
theorem aia{o a b c d:Int}:aP ah 108 [.w (.agg [.c (.int .i64 a),.c (.int .i64 b),.c (.int .i64 c),.c (.int .i64 d),.c (.int .i64 o)])] (bl (yj (o,(a,b),(c,d)))):=by
 have aZ:=Tt (x:=a) (y:=b);have bM:=Tt (x:=c) (y:=d);unfold yj;simp only;cases h1:gQ (a,b) with
 | true =>
  rw[h1] at aZ;rw[pK];refine bq (f:=108) Tryz.func108 rfl rfl rfl rfl ?_;(refine cR ?_)
  ((refine bn rfl (bb rfl aM) ?_))
  exact ag.aW.refl _
 | false =>
  rw[h1] at aZ;rw[Bool.false_and];refine bq (f:=108) Tryz.func108 rfl rfl rfl rfl ?_;(refine cR ?_)
  ((refine bn rfl (bb rfl aM) ?_))
  exact ag.aW.refl _
def uZ:List (Int×bK)→Int→Int
 | [],_ => -1
 | p::l,i=>if yj p=true then i else uZ l (i+1)
theorem Pu(p:Int×bK)(l:List (Int×bK))(i:Int):uZ (p::l) i=if yj p=true then i else uZ l (i+1):=rfl
theorem Pt:∀(l:List (Int×bK)) (i:Int),0≤i→(decide (uZ l i≥0)) = !jD (l.map Prod.snd)
 | [],i,h=>rfl
 | p::l,i,h=>by
  have cg:=Pt l (i+1) (by omega);have e:jD ((p::l).map Prod.snd)=((gQ p.2.1&&gQ p.2.2)&&jD (l.map Prod.snd)):=rfl;rw[e,Pu];unfold yj;cases hp:(gQ p.2.1&&gQ p.2.2) with
  | false=>rw[if_pos (show (!false)=true from rfl),Bool.false_and];exact cd h
  | true=>rw[if_neg (by decide),pK];exact cg
def W2(E:List (Int×bK))(k:Nat)(az:List (Nat×ag))(aS:List (Nat×List AC)):Prop :=
 ∃(i:Nat) (ii:Int),i≤E.length∧k=E.length-i∧ii=i∧uZ E 0=uZ (E.drop i) ii∧aS=[]∧az=[(0,pP E),(1,Mz),(7,aL E.length),(8,aL ii)]
theorem aiC{E:List (Int×bK)}(ap:E.length≤4611686018427387904):aP ah 166 [pP E,Mz] (aL (uZ E 0)):=by
 refine bq (f:=166) Tryz.func166 rfl rfl rfl rfl ?_;(refine fi ?_);refine qZ 19 (W2 E) E.length _ [] ⟨0,0,du _,rfl,rfl,rfl,rfl,rfl⟩ rfl ⟨rfl,rfl,rfl,rfl,trivial⟩ trivial rfl ?_;rintro n az aS ⟨j,dl,af,rfl,kz,gN,rfl,rfl⟩ bC;clear bC
 by_cases hp:j<E.length
 ·have p2:dl<(E.length:Int):=by omega
  have p3:0≤dl:=by omega
  obtain⟨o,a,b,c,d,g1⟩:∃o a b c d,E[j]?=some (o,(a,b),(c,d)):=⟨_,_,_,_,_,bF hp⟩;have ko:=uU kz g1;have hd:E.drop j=(o,(a,b),(c,d))::E.drop (j+1):=by rw[jU hp,(bt.1 g1).2]
  have fw:=aia (o:=o) (a:=a) (b:=b) (c:=c) (d:=d);rw[hd,Pu] at gN;cases ay:yj (o,(a,b),(c,d)) with
  | true =>
   rw[ay] at gN fw;rw[if_pos rfl] at gN;rw[gN];(refine cR ?_)
   ((refine bn rfl (bb rfl aM) ?_))
   exact ag.aW.refl _
  | false =>
   rw[ay] at gN fw;rw[if_neg (by simp)] at gN;(refine cR ?_);exact⟨E.length-(j+1),_,[],by omega,⟨j+1,dl+1,hp,rfl,by omega,gN,rfl,rfl⟩,rfl,⟨rfl,rfl,rfl,rfl,trivial⟩,trivial,rfl⟩
 ·have e:j=E.length:=by omega
  subst e;rw[List.drop_length] at gN;rw[show uZ [] dl = -1 from rfl] at gN;rw[gN];(refine fi ?_)
  ((refine bn rfl (bb rfl aM) ?_))
  exact ag.aW.refl _
theorem aik{E:List (Int×bK)}(ap:E.length≤4611686018427387904):aP ah 107 [pP E,Mz] (bl (!jD (E.map Prod.snd))):=by
 have fw:=aiC ap;rw[←Pt E 0 (by decide)];refine bq (f:=107) Tryz.func107 rfl rfl rfl rfl ?_;(refine cR ?_)
 ((refine bn rfl (bb rfl aM) ?_))
 exact ag.aW.refl _
theorem Tj{E:List (Int×bK)}(ap:E.length≤4611686018427387904):aP ah 59 [pP E] (bl (jD (E.map Prod.snd))):=by
 have fw:=aik ap;have e:jD (E.map Prod.snd) = !(!jD (E.map Prod.snd)):=(Bool.not_not _).symm;rw[e];generalize (!jD (E.map Prod.snd))=q at *;refine bq (f:=59) Tryz.func59 rfl rfl rfl rfl ?_;(refine cR ?_)
 ((refine bn rfl (bb rfl aM) ?_))
 exact ag.aW.refl _
theorem Tl{E:List (Int×bK)}(ap:E.length≤900000):aP ah 61 [pP E] (pP E):=by
 refine bq (f:=61) Tryz.func61 rfl rfl rfl rfl ?_;(refine fi ?_);refine Zk 4 rfl ?_;intro b aa;cases b with
 | true =>
  have aF:=nj (aa rfl);subst aF;clear aa;(refine fi ?_)
  ((refine bn rfl (bb rfl aM) ?_))
  exact Lh 5
 | false =>
  clear aa;have z0:0+E.length=E.length:=hZ _;(repeat first|(with_reducible apply YN);rfl;rfl|(with_reducible apply NC);(iterate 3 rfl);(exact jB (by omega));(omega);(assumption);(rfl);rfl|refine dd ?_)
  ((refine bn rfl (bb rfl aM) ?_))
  exact ag.aW.refl _
section
variable{P:Program}{f:FuncId}{args:List ag}{cs:List AC}{R0:aC}{Q:ag→List AC→aC→Prop}
theorem b3.at(k:Nat)(h:b3 P f (np::args) (cz 1000 cs) R0 (mH 1000 Q))(dc:args.all ag.aV=true)(ak:cs.all AC.aV=true)(aj:∀br ds ao,Q br ds ao→br.aV=true∧ds.all AC.aV=true):b3 P f (.w (.one (.own k 0))::args) (cz k cs) R0 (mH k Q):=by
 have h1:=h.aY (lK 1000 k) (bD:=fun j=>j) (jF:=fun j=>j) (fun _=>rfl) (fun _=>rfl)
 have aI:(ag.w (.one (.own 1000 0))::args).map (ag.aY (swp 1000 k)) = .w (.one (.own k 0))::args:=by
  have aO:args.map (ag.aY (swp 1000 k))=args:=by
   conv=>rhs;rw[←List.map_id args]
   exact nV fun x ab=>vK (b4.1 dc x ab)
  rw[hY,aO];show ag.w (.one (.own (swp 1000 k 1000) 0))::args=_;rw[show swp 1000 k 1000=k by unfold swp;simp]
 rw[aI,xg ak] at h1;refine⟨fun U ad W vs ca c9 cJ=>(h1.call U ad W vs ca c9 cJ).mono ?_⟩;rintro cB W' ⟨v,r,aG,ao,aU,ck,dt,⟨cn,m1,R1,⟨ds,rfl,nJ⟩,rfl,rfl,rfl⟩,jc⟩;obtain⟨c1,c2⟩:=aj _ _ _ nJ;rw[xg c2,vK c1] at jc;exact⟨v,cn,cz k ds,R1,aU,ck,dt,⟨ds,rfl,nJ⟩,jc⟩
end
def pa(k:Int):Nat:=(if k<0 then 0 else if 28<k then 28 else k).toNat
def oI(n:Int):Nat:=(qH n).toNat
theorem Uu(n:Int):((oI n:Nat):Int)=qH n:=by unfold oI qH;(repeat split) <;> omega
theorem ajM(k:Int):((pa k:Nat):Int)=if 28<(if 0>k then 0 else k) then 28 else(if 0>k then 0 else k):=by unfold pa;(repeat split) <;> omega
abbrev jN:Value := .slice none 0 0
theorem SC{b:Nat}{S:dS}{q:bE}:ea b S jN jN jN [] [] []=upd (upd (upd (upd (upd dq 1 ⟨50,2,jN,0,[]⟩) 2 ⟨50,2,jN,0,[]⟩) 3 ⟨53,2,jN,0,[]⟩) 0 q) 0 (fr (bJ b) S):=by
 funext i
 match i with
 | 0=>rfl
 | 1=>rfl
 | 2=>rfl
 | 3=>rfl
 | i+4=>rfl
theorem RD{E:List (Int×bK)}{k n:Int}(al:E.length≤300)(h:jD (E.map Prod.snd)=true):b3 ah 16 [pP E,aL k,aL n] bu dq fun br aG ao=>∃cs,br = .w (.one (.own 24 0))∧aG=cz 24 cs∧dE E (pa k) (oI n) (fe (bh E (pa k) (oI n))) cs ao:=by
 have aZ:=Tj (E:=E) (by omega);rw[h] at aZ;have bM:=RC n;have eh:=Tl (E:=E) (by omega);have hq:=ajM k
 by_cases aF:E=[]
 ·subst aF;refine cC (f:=16) Tryz.func16 rfl (b8 rfl) (by exact ib) ?_;refine oJ 1 50 2 rfl ?_;refine oJ 2 50 2 rfl ?_;refine oJ 3 53 2 rfl ?_;(refine mD ?_);refine Kt 0 rfl rfl rfl rfl bM rfl rfl (fun p S jK => ?_);obtain⟨b,rfl,hS⟩:=jK;rw[←Uu n] at hS;have j1:=RF _ _ _ _ hS (by decide);(refine mD ?_);refine vm 0 rfl rfl rfl rfl j1 rfl rfl rfl (fun v S' h => ?_);obtain⟨rfl,ep⟩:=h;(refine aQ ?_);have pf:=b3.at 24 (KM (E:=[]) (k:=(pa k:Int)) (rm:=(oI n:Int)) (ph:=0) (I:=0) (J:=0) (T:=0) (dirty:=false) (hv:=jN) (fv:=jN) (cv:=jN) (b:=b) (lk := .c jN) rfl 4) rfl rfl (fun br ds ao h=>by obtain⟨rfl,rfl,_⟩:=h;exact⟨rfl,rfl⟩);rw[←hq];refine kC 24 rfl rfl rfl rfl pf rfl rfl rfl rfl rfl ?_;(refine aQ ?_)
  ((refine wR 24 rfl (bb rfl aM) rfl (a8.of_eq SC) rfl rfl ?_))
  exact⟨_,rfl,rfl,jN,jN,jN,b,S',.c jN,ep,rfl,fun h=>(by cases h),rfl,rfl⟩
 ·have fA:¬(E.length:Int)=0:=fun ba=>aF (nj (by omega));refine cC (f:=16) Tryz.func16 rfl (b8 rfl) (by exact ib) ?_;refine oJ 1 50 2 rfl ?_;refine oJ 2 50 2 rfl ?_;refine oJ 3 53 2 rfl ?_;(refine mD ?_);refine Kt 0 rfl rfl rfl rfl bM rfl rfl (fun p S jK => ?_);obtain⟨b,rfl,hS⟩:=jK;rw[←Uu n] at hS;have j1:=RF _ _ _ _ hS (by decide);(refine mD ?_);refine vm 0 rfl rfl rfl rfl j1 rfl rfl rfl (fun v S' h => ?_);obtain⟨rfl,ep⟩:=h;(refine aQ ?_);rw[←hq]
  ((refine wR 24 rfl (bb rfl aM) rfl (a8.of_eq SC) rfl rfl ?_))
  refine⟨_,rfl,rfl,jN,jN,jN,b,S',.c jN,ep,rfl,?_,?_,rfl⟩
  ·unfold fe;rw[if_neg (by rw[gL.n];omega)];intro h;cases h
  ·unfold fe;rw[if_neg (by rw[gL.n];omega)];rfl
abbrev alM(k rm ph I J T:Int)(dirty:Bool)(hot fnd:List aq)(ch:List (List aq×List Int)):List AC:=[.c (.int .i64 k),.c (.int .i64 rm),.c (.int .i64 ph),.c (.int .i64 I),.c (.int .i64 J),.c (.int .i64 T),.c (.bool dirty),.p (b6 2 hot.length (b0 hot)),.p (b6 2 fnd.length (b0 fnd)),.p (b6 2 ch.length (eB ch))]
abbrev V1(k rm ph I J T:Int)(dirty:Bool)(hot fnd:List aq)(ch:List (List aq×List Int)):ag := .w (.agg (alM k rm ph I J T dirty hot fnd ch))
end Go.Proofs.YtklpfooafbjnpaaGreat
