/-
  My own texts,without what this claim does not need. My own text.
-/
import Derived.Test.YtklpfooafbjnpaaGreatSLPartsK15
set_option maxRecDepth 100000
set_option maxHeartbeats 64000000
set_option linter.unusedVariables false
set_option linter.unusedSimpArgs false
set_option linter.unusedSectionVars false
open Go.Proofs.Tryz renaming prog → ah
namespace Go.Proofs.YtklpfooafbjnpaaGreat
open Go.RowKit
open bH
section
variable{E:List (Int×bN)}{r rm:Nat}
theorem Ul{b:Nat}{S:dV}{hv fv cv v:Value}{hot fnd:List aq}{ch l:List (List aq×List Int)}:upd (eo b S hv fv cv hot fnd ch) 3 (wz v l)=eo b S hv fv v hot fnd l:=by
  funext i
  match i with
  | 0=>rfl
  | 1=>rfl
  | 2=>rfl
  | 3=>rfl
  | i+4=>rfl
theorem Ou{ch:List (List aq×List Int)}{i:Nat}{ii:Int}{V:List aq}{D:List Int}(hi:ii=i)(h:i<ch.length):eP (eB ch) (ii.toNat*2) [.p (b3 2 V.length (bY V)),.p (b3 1 D.length (cw D))]=eB (ch.set i (V,D)):=by
  subst hi;rw[kI];have e:ch=ch.take i++ch[i]::ch.drop (i+1):=by rw[←jK h,kg]
  have al:(eB (ch.take i)).length=i*2:=by
    have:=EJ (f:=qW) (z:=2) (fun _=>rfl) (ch.take i);unfold eB;rw[this,dY,qw (by omega)]
  have aH:eB ch=eB (ch.take i)++(qW ch[i]++eB (ch.drop (i+1))):=(congrArg eB e).trans (by unfold eB;rw[sK,List.flatMap_cons]);rw[aH,Mk al,List.set_eq_take_append_cons_drop,if_pos h];simp[eB,qW]
theorem aaZ{p q:aq}{br:List aq}(aA:br.Nodup):jN (ea (decide ((2:Int)^r*q.1<2^r*p.1)) (decide ((2:Int)^r*q.2<2^r*p.2))) br=gr p q br:=by
  rw[EH,EH];exact alv aA (by rw[List.filter_eq_self.2 (fun _ _=>rfl)])
theorem afB{s:bH.bh aq}{V:List aq}{D:List Int}{p q x:aq}(ao:r≤28)(ak:jS s.ch)(g1:s.ch[s.I]?=some (V,D))(g2:V[s.J]?=some p)(g3:V[s.J+1]?=some q)(g4:s.hot[s.T]?=some x)(e4:∀d∈D,1≤d∧d≤1048576)
    (hp:dX r p.1 p.2=true) (aj:dX r q.1 q.2=true) (hd:s.dirty=false) (aZ:s.hot.length≤1024) (Fg:s.fnd.length≤1024) (va:(mL (bt E r rm) p q x s.fnd).Nodup) (h5:s.ph=2):gS E r rm 74 [] s l3 (tQ (bt E r rm) s (V,D) p q (mL (bt E r rm) p q x s.fnd)):=by
  obtain⟨p1,p2⟩:=p;obtain⟨q1,q2⟩:=q;obtain⟨dd,dj⟩:=x;obtain⟨jw,gA⟩:=ak.2 _ (cM g1);simp only at jw gA;have bf:=(bq.1 g1).1;have kW:=(bq.1 g3).1;have eS:=(bq.1 g4).1;have an:hj (r:Int) r:=⟨ao,.inr (.inr rfl)⟩;have a7:=Lw (D:=D) g2 g3 (by omega);have bK:=aiO (E:=E.map Prod.snd) (R:=rm) ao (p:=(p1,p2)) (q:=(q1,q2)) (x:=(dd,dj)) hp aj;have dZ:=Gp (tV an hp) (tV an aj);simp only at bK dZ;have js:=ahx (a1:=2^r*p1) (a2:=2^r*p2) (b1:=2^r*q1) (b2:=2^r*q2);obtain⟨jt,pa⟩:=AF (ii:=(s.I:Int)) rfl g1;have WY:=aes (ii:=(s.T:Int)) rfl g4;have i0:(0:Int)≤(s.I:Int):=by omega
  have i1:(s.I:Int)<(s.ch.length:Int):=by omega
  have i2:0<s.ch.length:=by omega
  have t0:(0:Int)≤(s.T:Int):=by omega
  have t1:(s.T:Int)<(s.hot.length:Int):=by omega
  have t2:0<s.hot.length:=by omega
  have ab1:(s.J:Int)≤1100:=by omega
  have cu:=ak.1
 
  have split:∀br:List aq,br=mL (bt E r rm) (p1,p2) (q1,q2) (dd,dj) s.fnd→br≠[]→br.length≤1100→aO ah 140 [fF br,xN (decide ((2:Int)^r*q1<2^r*p1)) (decide ((2:Int)^r*q2<2^r*p2))] (fF (gr (p1,p2) (q1,q2) br)) ∧
      aO ah 139 [oA V D,aL s.J,fF (gr (p1,p2) (q1,q2) br)] (.ck [.agg [.p (b3 2 (bH.dz V s.J (gr (p1,p2) (q1,q2) br)).length (bY (bH.dz V s.J (gr (p1,p2) (q1,q2) br)))),.p (b3 1 (eL D s.J br.length).length (cw (eL D s.J br.length)))],.one (.c (.bool true))]):=by
    intro br vb cA ac1;have aA:br.Nodup:=by rw[vb];exact va
    have hlen:(gr (p1,p2) (q1,q2) br).length=br.length:=(C4 _ _ br).length_eq;refine⟨?_,?_⟩
    · have:=ah1 (fx:=decide ((2:Int)^r*q1<2^r*p1)) (fy:=decide ((2:Int)^r*q2<2^r*p2)) 1100 br ac1 (by omega)
      rw[aaZ (p:=(p1,p2)) (q:=(q1,q2)) aA] at this;exact this
    · have:=ae7 V D s.J (gr (p1,p2) (q1,q2) br) jw gA (by omega) (by omega) e4
      have J9:(gr (p1,p2) (q1,q2) br).isEmpty=false:=by
        cases h:gr (p1,p2) (q1,q2) br with
        | nil=>rw[h] at hlen;exact absurd (mZ hlen.symm) cA
        | cons a l=>rfl
      rw[J9,hlen] at this;exact this
  rintro cs R kU;obtain⟨hv,fv,cv,b,S,lk,hS,dy,gX,rfl,rfl⟩:=id kU;have dL:∀(I J T:Int) (fv:Value),(e5 E r rm s.ph I J T s.dirty hv fv cv b lk).all AC.aW=true:=fun I J T fv=>by simp only[jI,na,dy];rfl
  unfold tQ;simp only[show (bt E r rm).hz=gr from rfl];cases wR:kv (bt E r rm) (p1,p2) (q1,q2) (dd,dj) with
  | true =>
    rw[wR] at bK;have IR:mL (bt E r rm) (p1,p2) (q1,q2) (dd,dj) s.fnd=s.fnd++[(dd,dj)]:=by unfold mL;rw[wR];rfl
    rw[IR] at split ⊢;have ac2:(s.fnd++[(dd,dj)]).length≤1100:=by rw[cY,List.length_singleton];omega
    have cA:s.fnd++[(dd,dj)]≠[]:=by simp
    obtain⟨o9,zT⟩:=split _ rfl cA ac2;clear split va wR;refine cG (f:=74) Tryz.func74 rfl (cn rfl) (by exact dn rfl) ?_;(repeat first|(with_reducible apply dB (id:=1) [10,0,1,2,3,4,5,6,7,8,9,11]);kernel_rfl;kernel_rfl;rfl|(with_reducible apply dB (id:=2) [6,0,1,2,3,4,5,7]);kernel_rfl;kernel_rfl;rfl|(with_reducible apply dB (id:=3) [10,0,1,2,3,4,5,6,7,8,9,11]);kernel_rfl;kernel_rfl;rfl|(with_reducible apply dB (id:=4) [0,1,2,3,4,5,6]);kernel_rfl;kernel_rfl;rfl|(with_reducible apply iG (id:=5) [0,1,2,3,4,5,6,7,8,9,10] [3000048]);kernel_rfl;kernel_rfl;rfl|refine b9 ?_|refine gP ?_|(with_reducible apply ky 1);(iterate 4 rfl);(omega);(assumption);rfl;kernel_rfl;rfl|(with_reducible apply ky 3);(iterate 4 rfl);(omega);(assumption);rfl;kernel_rfl;rfl|(with_reducible apply oL 1);(iterate 3 rfl);(assumption);assumption;rfl;kernel_rfl;rfl|(with_reducible apply oL 3);(iterate 3 rfl);(assumption);assumption;rfl;kernel_rfl;rfl);refine mm 2 rfl rfl rfl rfl ?q1 ?q2 rfl rfl (fun v1 jj => ?_)
    case q1=>exact iP (by show s.fnd.length+1≤1000000;omega)
    case q2=>show (s.fnd.length+1)*16≤140737488355328;omega
    (repeat first|(with_reducible apply dB (id:=7) [0,1,2,3,4,5,6,7,8,9]);kernel_rfl;kernel_rfl;rfl|refine b9 ?_|(with_reducible apply oK 1);(iterate 4 rfl);kernel_rfl;rfl);refine GU (eo b S hv v1 cv s.hot (s.fnd++[(dd,dj)]) s.ch) (bc.of_eq ajS.symm) ?_
    by_cases u2:s.T+1<s.hot.length
    · rw[if_pos u2]
      have Bj:(s.T:Int)+1<(s.hot.length:Int):=by omega
      have gg:ek E r rm {s with fnd:=s.fnd++[(dd,dj)],T:=s.T+1} (e5 E r rm s.ph s.I s.J ((s.T:Int)+1) s.dirty hv v1 cv b lk) (eo b S hv v1 cv s.hot (s.fnd++[(dd,dj)]) s.ch):=⟨hv,v1,cv,b,S,lk,hS,dy,gX,rfl,rfl⟩;(refine aT ?_)
      ((refine dA rfl aM rfl (bc.refl _) gg.closed rfl fM ?_))
      exact⟨_,rfl,rfl,gg⟩
    · rw[if_neg u2,if_neg cA]
      have Bj:¬(s.T:Int)+1<(s.hot.length:Int):=by omega
      have J9:¬((s.fnd++[(dd,dj)]).length:Int)=0:=fun h=>cA (mZ (by omega));refine U4 2 1000 9 (jH v1 (s.fnd++[(dd,dj)])) rfl rfl rfl ?_;refine nO 2 50 2 rfl ?_
      refine GU (eo b S hv (.slice none 0 0) cv s.hot [] s.ch) (fun k q ae=>by
        match k with
        | 0=>exact ae
        | 1=>exact ae
        | 2=>exact ae
        | 3=>exact ae
        | k+4=>cases ae) ?_
      have gg:ek E r rm {s with T:=0,fnd:=[],ch:=s.ch.set s.I (bH.dz V s.J (gr (p1,p2) (q1,q2) (s.fnd++[(dd,dj)])),eL D s.J (s.fnd++[(dd,dj)]).length)} (e5 E r rm s.ph s.I s.J 0 s.dirty hv (.slice none 0 0) cv b lk) (eo b S hv (.slice none 0 0) cv s.hot [] (s.ch.set s.I (bH.dz V s.J (gr (p1,p2) (q1,q2) (s.fnd++[(dd,dj)])),eL D s.J (s.fnd++[(dd,dj)]).length))):=⟨hv,_,cv,b,S,lk,hS,dy,(fun h=>absurd (h5.symm.trans (show s.ph=3 from h)) (by decide)),rfl,rfl⟩
      have ls:upd (eo b S hv (.slice none 0 0) cv s.hot [] s.ch) 3 ⟨53,2,cv,s.ch.length,eP (eB s.ch) ((s.I:Int).toNat*2) [.p (b3 2 (bH.dz V s.J (gr (p1,p2) (q1,q2) (s.fnd++[(dd,dj)]))).length (bY (bH.dz V s.J (gr (p1,p2) (q1,q2) (s.fnd++[(dd,dj)]))))),.p (b3 1 (eL D s.J (s.fnd++[(dd,dj)]).length).length (cw (eL D s.J (s.fnd++[(dd,dj)]).length)))]⟩=eo b S hv (.slice none 0 0) cv s.hot [] (s.ch.set s.I (bH.dz V s.J (gr (p1,p2) (q1,q2) (s.fnd++[(dd,dj)])),eL D s.J (s.fnd++[(dd,dj)]).length)):=by
        rw[Ou rfl bf,show s.ch.length=(s.ch.set s.I (bH.dz V s.J (gr (p1,p2) (q1,q2) (s.fnd++[(dd,dj)])),eL D s.J (s.fnd++[(dd,dj)]).length)).length from(List.length_set ..).symm];exact Ul
      generalize yS:bH.dz V s.J (gr (p1,p2) (q1,q2) (s.fnd++[(dd,dj)]))=Nr at *;generalize BQ:eL D s.J (s.fnd++[(dd,dj)]).length=xS at *;generalize Q2:gr (p1,p2) (q1,q2) (s.fnd++[(dd,dj)])=L' at *;(repeat first|(with_reducible apply iG (id:=12) [0,1,2,3,4,5,6,7,8,9,10,11,12,13,14,15,16,17,18,19,20,21,22,23,24,25,26,27,28,29,30,31,32] [4000000]);kernel_rfl;kernel_rfl;rfl|refine b9 ?_|refine gP ?_|(with_reducible apply ky 3);(iterate 4 rfl);(omega);(assumption);rfl;kernel_rfl;rfl);refine yO 3 rfl rfl rfl rfl i2 rfl rfl jt.1 rfl ?_;(refine aT ?_)
      ((refine dA rfl aM rfl (bc.of_eq ls.symm) gg.closed rfl fM ?_))
      exact⟨_,rfl,rfl,gg⟩
  | false =>
    rw[wR] at bK;have IR:mL (bt E r rm) (p1,p2) (q1,q2) (dd,dj) s.fnd=s.fnd:=by unfold mL;rw[wR];rfl
    rw[IR] at split ⊢;have ank:=eS
    by_cases cA:s.fnd=[]
    · clear split va wR
      have cr:({s with fnd:=s.fnd}:bH.bh aq)=s:=rfl;have aE:(s.fnd.length:Int)=0:=by rw[cA];rfl
      have eX:=RD (E:=E) (r:=r) (rm:=rm) (s:={s with T:=0,fnd:=[],J:=s.J+1}) hd rfl ak bf (by show s.J+1≤1100;omega) h5;have kV:ek E r rm {s with T:=0,fnd:=[],J:=s.J+1} (e5 E r rm s.ph s.I ((s.J:Int)+1) 0 s.dirty hv fv cv b lk) (eo b S hv fv cv s.hot s.fnd s.ch):=⟨hv,fv,cv,b,S,lk,hS,dy,gX,rfl,by rw[cA]⟩
      by_cases u2:s.T+1<s.hot.length
      · rw[if_pos u2]
        have Bj:(s.T:Int)+1<(s.hot.length:Int):=by omega
        have gg:ek E r rm {s with fnd:=s.fnd,T:=s.T+1} (e5 E r rm s.ph s.I s.J ((s.T:Int)+1) s.dirty hv fv cv b lk) (eo b S hv fv cv s.hot s.fnd s.ch):=⟨hv,fv,cv,b,S,lk,hS,dy,gX,rfl,rfl⟩;refine cG (f:=74) Tryz.func74 rfl (cn rfl) (by exact dn rfl) ?_;(repeat first|(with_reducible apply dB (id:=1) [10,0,1,2,3,4,5,6,7,8,9,11]);kernel_rfl;kernel_rfl;rfl|(with_reducible apply dB (id:=2) [6,0,1,2,3,4,5,7]);kernel_rfl;kernel_rfl;rfl|(with_reducible apply dB (id:=3) [10,0,1,2,3,4,5,6,7,8,9,11]);kernel_rfl;kernel_rfl;rfl|(with_reducible apply dB (id:=4) [0,1,2,3,4,5,6]);kernel_rfl;kernel_rfl;rfl|(with_reducible apply dB (id:=7) [0,1,2,3,4,5,6,7,8,9]);kernel_rfl;kernel_rfl;rfl|refine b9 ?_|refine gP ?_|(with_reducible apply oK 1);(iterate 4 rfl);kernel_rfl;rfl|(with_reducible apply ky 1);(iterate 4 rfl);(omega);(assumption);rfl;kernel_rfl;rfl|(with_reducible apply ky 3);(iterate 4 rfl);(omega);(assumption);rfl;kernel_rfl;rfl|(with_reducible apply oL 1);(iterate 3 rfl);(assumption);assumption;rfl;kernel_rfl;rfl|(with_reducible apply oL 3);(iterate 3 rfl);(assumption);assumption;rfl;kernel_rfl;rfl)
        ((refine dA rfl aM rfl (bc.refl _) gg.closed rfl fM ?_))
        exact⟨_,rfl,rfl,gg⟩
      · rw[if_neg u2,if_pos cA]
        have Bj:¬(s.T:Int)+1<(s.hot.length:Int):=by omega
        refine cG (f:=74) Tryz.func74 rfl (cn rfl) (by exact dn rfl) ?_;(repeat first|(with_reducible apply dB (id:=1) [10,0,1,2,3,4,5,6,7,8,9,11]);kernel_rfl;kernel_rfl;rfl|(with_reducible apply dB (id:=2) [6,0,1,2,3,4,5,7]);kernel_rfl;kernel_rfl;rfl|(with_reducible apply dB (id:=3) [10,0,1,2,3,4,5,6,7,8,9,11]);kernel_rfl;kernel_rfl;rfl|(with_reducible apply dB (id:=4) [0,1,2,3,4,5,6]);kernel_rfl;kernel_rfl;rfl|(with_reducible apply dB (id:=7) [0,1,2,3,4,5,6,7,8,9]);kernel_rfl;kernel_rfl;rfl|refine b9 ?_|refine gP ?_|(with_reducible apply oK 1);(iterate 4 rfl);kernel_rfl;rfl|(with_reducible apply oK 2);(iterate 4 rfl);kernel_rfl;rfl|(with_reducible apply ky 1);(iterate 4 rfl);(omega);(assumption);rfl;kernel_rfl;rfl|(with_reducible apply ky 3);(iterate 4 rfl);(omega);(assumption);rfl;kernel_rfl;rfl|(with_reducible apply oL 1);(iterate 3 rfl);(assumption);assumption;rfl;kernel_rfl;rfl|(with_reducible apply oL 3);(iterate 3 rfl);(assumption);assumption;rfl;kernel_rfl;rfl);refine j9 rfl rfl rfl rfl rfl rfl rfl rfl eX kV (fun ay ap Jq => ?_);(refine aT ?_);obtain⟨FG,EN,Es,df,Ah,F1,EZ,Fo,Fm,rfl,rfl⟩:=id Jq
        ((refine dA rfl aM rfl (bc.refl _) Jq.closed rfl fM ?_))
        exact⟨_,rfl,rfl,Jq⟩
    obtain⟨o9,zT⟩:=split _ rfl cA (by omega);clear split va wR;refine cG (f:=74) Tryz.func74 rfl (cn rfl) (by exact dn rfl) ?_;(repeat first|(with_reducible apply dB (id:=1) [10,0,1,2,3,4,5,6,7,8,9,11]);kernel_rfl;kernel_rfl;rfl|(with_reducible apply dB (id:=2) [6,0,1,2,3,4,5,7]);kernel_rfl;kernel_rfl;rfl|(with_reducible apply dB (id:=3) [10,0,1,2,3,4,5,6,7,8,9,11]);kernel_rfl;kernel_rfl;rfl|(with_reducible apply dB (id:=4) [0,1,2,3,4,5,6]);kernel_rfl;kernel_rfl;rfl|(with_reducible apply dB (id:=7) [0,1,2,3,4,5,6,7,8,9]);kernel_rfl;kernel_rfl;rfl|refine b9 ?_|refine gP ?_|(with_reducible apply oK 1);(iterate 4 rfl);kernel_rfl;rfl|(with_reducible apply ky 1);(iterate 4 rfl);(omega);(assumption);rfl;kernel_rfl;rfl|(with_reducible apply ky 3);(iterate 4 rfl);(omega);(assumption);rfl;kernel_rfl;rfl|(with_reducible apply oL 1);(iterate 3 rfl);(assumption);assumption;rfl;kernel_rfl;rfl|(with_reducible apply oL 3);(iterate 3 rfl);(assumption);assumption;rfl;kernel_rfl;rfl)
    by_cases u2:s.T+1<s.hot.length
    · rw[if_pos u2]
      have Bj:(s.T:Int)+1<(s.hot.length:Int):=by omega
      have gg:ek E r rm {s with fnd:=s.fnd,T:=s.T+1} (e5 E r rm s.ph s.I s.J ((s.T:Int)+1) s.dirty hv fv cv b lk) (eo b S hv fv cv s.hot (s.fnd) s.ch):=⟨hv,fv,cv,b,S,lk,hS,dy,gX,rfl,rfl⟩;(refine aT ?_)
      ((refine dA rfl aM rfl (bc.refl _) gg.closed rfl fM ?_))
      exact⟨_,rfl,rfl,gg⟩
    · rw[if_neg u2,if_neg cA]
      have Bj:¬(s.T:Int)+1<(s.hot.length:Int):=by omega
      have J9:¬((s.fnd).length:Int)=0:=fun h=>cA (mZ (by omega));refine U4 2 1000 9 (jH fv (s.fnd)) rfl rfl rfl ?_;refine nO 2 50 2 rfl ?_
      refine GU (eo b S hv (.slice none 0 0) cv s.hot [] s.ch) (fun k q ae=>by
        match k with
        | 0=>exact ae
        | 1=>exact ae
        | 2=>exact ae
        | 3=>exact ae
        | k+4=>cases ae) ?_
      have gg:ek E r rm {s with T:=0,fnd:=[],ch:=s.ch.set s.I (bH.dz V s.J (gr (p1,p2) (q1,q2) (s.fnd)),eL D s.J (s.fnd).length)} (e5 E r rm s.ph s.I s.J 0 s.dirty hv (.slice none 0 0) cv b lk) (eo b S hv (.slice none 0 0) cv s.hot [] (s.ch.set s.I (bH.dz V s.J (gr (p1,p2) (q1,q2) (s.fnd)),eL D s.J (s.fnd).length))):=⟨hv,_,cv,b,S,lk,hS,dy,(fun h=>absurd (h5.symm.trans (show s.ph=3 from h)) (by decide)),rfl,rfl⟩
      have ls:upd (eo b S hv (.slice none 0 0) cv s.hot [] s.ch) 3 ⟨53,2,cv,s.ch.length,eP (eB s.ch) ((s.I:Int).toNat*2) [.p (b3 2 (bH.dz V s.J (gr (p1,p2) (q1,q2) (s.fnd))).length (bY (bH.dz V s.J (gr (p1,p2) (q1,q2) (s.fnd))))),.p (b3 1 (eL D s.J (s.fnd).length).length (cw (eL D s.J (s.fnd).length)))]⟩=eo b S hv (.slice none 0 0) cv s.hot [] (s.ch.set s.I (bH.dz V s.J (gr (p1,p2) (q1,q2) (s.fnd)),eL D s.J (s.fnd).length)):=by
        rw[Ou rfl bf,show s.ch.length=(s.ch.set s.I (bH.dz V s.J (gr (p1,p2) (q1,q2) s.fnd),eL D s.J s.fnd.length)).length from(List.length_set ..).symm];exact Ul
      generalize yS:bH.dz V s.J (gr (p1,p2) (q1,q2) (s.fnd))=Nr at *;generalize BQ:eL D s.J (s.fnd).length=xS at *;generalize Q2:gr (p1,p2) (q1,q2) (s.fnd)=L' at *;(repeat first|(with_reducible apply iG (id:=12) [0,1,2,3,4,5,6,7,8,9,10,11,12,13,14,15,16,17,18,19,20,21,22,23,24,25,26,27,28,29,30,31,32] [4000000]);kernel_rfl;kernel_rfl;rfl|refine b9 ?_|refine gP ?_|(with_reducible apply ky 3);(iterate 4 rfl);(omega);(assumption);rfl;kernel_rfl;rfl);refine yO 3 rfl rfl rfl rfl i2 rfl rfl jt.1 rfl ?_;(refine aT ?_)
      ((refine dA rfl aM rfl (bc.of_eq ls.symm) gg.closed rfl fM ?_))
      exact⟨_,rfl,rfl,gg⟩
end
section
variable{P:Program}{R:aF}{s:aB}{ops:Array Oper}{dr:Option (List Nat)}{ty:Nat}{pos:String}{after:Array Edge}{guard:Option (Nat×Bool)}{K:aF→aB→Prop}{rest:List Oper}
theorem BI{bs:List Value}{dst:Option Nat}{f:FuncId}{g:Operand}{az:Array TypeId}{l:List Operand}{args:List ag}{m0:Mem}{R0:aF}{Post:ag→Mem→aF→Prop} [E:Enters P f](hw:want ops ⟨dst,.call ⟨.value g,l.toArray,az⟩,ty,pos,after,guard⟩ s=some true)(hm:dW dr ⟨dst,.call ⟨.value g,l.toArray,az⟩,ty,pos,after,guard⟩=true)
  (au:s.look g=some (aQ (.func (.func f) bs.toArray #[]))) (aa:bs.all Eb=true) (aX:bs.map (fun b=>some (za b))++l.map s.look=args.map some) (hp:cg P f args m0 R0 Post) (aD:∀x∈args,∀j,x.owns j→∃cs,m0 j=some cs) (lq:∀k cs,m0 k=some cs→s.mem k=some cs∧(pI dr k=true∨∀r aI ap,Post r aI ap→aI k=some cs)) (ao:bc R0 R) (fC:∀k cs x j,m0 k=some cs→x∈cs→x.owns j→∃ay,m0 j=some ay) (hd:ks dst s.n=true)
  (h:∀r aI ap,Post r aI ap→(∀k ay,aI k=some ay→(∃cs,m0 k=some cs)∨(s.mem k=none∧k<s.n))∧cL P ops dr K rest (bQ ap R) ((s.over aI).put dst r)):cL P ops dr K (⟨dst,.call ⟨.value g,l.toArray,az⟩,ty,pos,after,guard⟩::rest) R s:=by
 refine⟨true,hw,IG hd,.inr (.inr (.inr (.inr (.inl ⟨rfl,hm,f,args,m0,R0,Post,⟨⟨_,g,rfl,rfl,.inl ⟨bs,au,?_,aa⟩⟩,E.h⟩,hp,aD,lq,ao,fC,fun r aI ap h1 _ _ _=>h r aI ap h1⟩))))⟩;simpa using aX
theorem Zq(g e off:Nat)(cs:List AC):ou g off=kJ (ev g e cs).v off:=by
 show ou g off = .pointer (some ((⟨g,0,none⟩:Addr).add off));rw[DW,ib]
theorem pv{x:Operand}{d lt off g e:Nat}{cs:List AC}{c1:AC}(i:Nat) [T:e7 P lt false 1](hi:R i=some (ev g e cs))(hw:want ops ⟨some d,.load lt x,ty,pos,after,guard⟩ s=some true)(ab:s.look x=some (aQ (ou g off)))(aS:cs[off]?=some c1)(ak:(ag.w (.one c1)).aW=true)(ao:vE ops dr (some d)=true)(hd:Nat.blt d s.n=true)(h:cL P ops dr K rest R (s.put (some d) (.w (.one c1)))):cL P ops dr K (⟨some d,.load lt x,ty,pos,after,guard⟩::rest) R s :=
 BJ i hi hw (by rw[ab,Zq g e off cs]) Nat.one_pos aS ak ao hd h
end
theorem p7{P:Program}{fn:Func}{l:List ResultVar}{xs:List bF}{R R0 bd:aF}{s:aB}{Post:ag→Mem→aF→Prop}(ao:fn.results=l.toArray)(h:l.map (gO P s)=xs.map some)(an:bc bd R)(ab:(packed xs).aW=true)(aE:∀i r,R0 i=some r→∃bb,bd i=some bb)(hp:Post (packed xs) bC bd):tC P fn bC R0 Post R s :=
 ⟨xs,packed xs,bC,bd,by rw[ao];exact h,.refl _,hp,fun k c h=>(by cases h),an,fun j af=>absurd af (ag.c8 ab j),fun k c x j h=>(by cases h),fun k c h=>(by cases h),aE⟩
theorem ek.pQ{E:List (Int×bN)}{r rm:Nat}{s:bH.bh aq}{cs:List AC}{R:aF}(h:ek E r rm s cs R):R 9=none∧cs.all AC.aW=true∧0<cs.length:=by
 refine⟨?_,h.closed,?_⟩
 ·obtain⟨_,_,_,_,_,_,_,_,_,_,rfl⟩:=h;rfl
 ·obtain⟨_,_,_,_,_,_,_,_,_,rfl,_⟩:=h;exact gE _
section
variable{E:List (Int×bN)}{r rm:Nat}
theorem GN{f:FuncId}{s s1:bH.bh aq}{v:ag}{cs:List AC}{R:aF}(tI:v.aW=true)(hp:gS E r rm f [] s v s1)(bf:ek E r rm s cs R)(g e:Nat):cg ah f [aQ (bJ g)] bC (upd R 9 (ev g e cs)) fun bx aI ap=>∃ay bd e',(bx=v∧ek E r rm s1 ay bd)∧aI=bC∧ap=upd bd 9 (ev g e' ay):=by
 have h:=(hp cs R bf).G9 9 g e rfl bf.pQ.2.1 bf.pQ.2.2 bf.pQ.1 (fun bx aI ap aj=>by
  obtain⟨ay,rfl,rfl,aj⟩:=aj;exact⟨tI,aj.pQ.1,ay,rfl,aj.pQ.2.1,aj.pQ.2.2⟩)
 refine⟨fun U ad W vs cb c9 cO=>(h.call U ad W vs cb c9 cO).mono ?_⟩;rintro cr W' ⟨v1,cp,aI,ap,aV,cl,c4,⟨ay,bd,e',⟨gd,he,aj⟩,rfl,rfl⟩,iV⟩
 have:gd=ay:=by
  have h1:cH 1000 ay 1000=some ay:=by unfold cH;exact bW _ _ _
  rw[he] at h1;exact(h7 h1).2.symm
 subst this;exact⟨v1,cp,bC,_,aV,cl,c4,⟨gd,bd,e',aj,rfl,rfl⟩,iV⟩
theorem GM{f:FuncId}{args:List ag}{s s1:bH.bh aq}{v:ag}(tI:v.aW=true)(dx:args.all ag.aW=true)(h:∀cs R,ek E r rm s cs R→∀g e,cg ah f (aQ (bJ g)::args) bC (upd R 9 (ev g e cs)) fun bx aI ap=>∃ay bd e',(bx=v∧ek E r rm s1 ay bd)∧aI=bC∧ap=upd bd 9 (ev g e' ay)):gS E r rm f args s v s1:=by
 intro cs R bf;refine cg.VL 9 (fun g e => ?_) dx bf.pQ.2.1 bf.pQ.2.2 bf.pQ.1 (fun bx ay ap aj => ?_)
 ·refine⟨fun U ad W vs cb c9 cO=>((h cs R bf g e).call U ad W vs cb c9 cO).mono ?_⟩;rintro cr W' ⟨v1,cp,aI,ap,aV,cl,c4,⟨ay,bd,e',aj,rfl,rfl⟩,iV⟩;exact⟨v1,cp,bC,_,aV,cl,c4,⟨ay,bd,e',⟨ay,rfl,aj⟩,rfl,rfl⟩,iV⟩
 ·obtain⟨gd,he,rfl,aj⟩:=aj
  have:gd=ay:=by
   have h1:cH 1000 ay 1000=some ay:=by unfold cH;exact bW _ _ _
   rw[he] at h1;exact(h7 h1).2.symm
  subst this;exact⟨tI,aj.pQ.1,aj.pQ.2.1,aj.pQ.2.2⟩
theorem GK{s s1:bH.bh aq}{cs ay:List AC}{R ap:aF}{g e e':Nat}(h:ek E r rm s cs R)(aJ:ek E r rm s1 ay ap):∀i q,upd R 9 (ev g e cs) i=some q→∃cI,upd ap 9 (ev g e' ay) i=some cI:=by
 obtain⟨_,_,_,_,_,_,_,_,_,_,rfl⟩:=h;obtain⟨_,_,_,_,_,_,_,_,_,_,rfl⟩:=aJ;intro i q aj
 by_cases lj:i=9
 ·subst lj;exact⟨_,bW _ _ _⟩
 ·rw[bL _ _ lj] at aj;obtain⟨cI,lR⟩:=fM i q aj;exact⟨cI,by rw[bL _ _ lj];exact lR⟩
theorem GL{s s1:bH.bh aq}{cs ay:List AC}{R ap:aF}{g e e':Nat}(h:ek E r rm s cs R)(aJ:ek E r rm s1 ay ap):bQ (upd ap 9 (ev g e' ay)) (upd R 9 (ev g e cs))=upd ap 9 (ev g e' ay):=by
 have aD:=h.bQ aJ;funext i
 by_cases lj:i=9
 ·subst lj;exact(fD (bW _ _ _)).trans (bW _ _ _).symm
 ·have:bQ ap R i=ap i:=congrFun aD i;unfold bQ at this ⊢;rw[bL _ _ lj,bL _ _ lj];exact this
theorem afc{s s1:bH.bh aq}(h5:s.ph=0)(hp:gS E r rm 72 [] s l3 s1):gS E r rm 22 [] s (bl true) s1:=by
 refine GM rfl rfl fun cs R bf g e => ?_;have a7:=GN rfl hp bf g e;obtain⟨ph,I,J,T,dirty,hot,fnd,ch⟩:=s;obtain rfl:ph=0:=h5;obtain⟨hv,fv,cv,b,S,lk,hS,dy,gX,rfl,rfl⟩:=id bf;refine cG (f:=22) Tryz.func22 rfl (cn rfl) (by exact jW) ?_;(refine aT ?_);refine pv 9 rfl rfl rfl rfl rfl rfl rfl ?_;(refine aT ?_);refine pv 9 rfl rfl rfl rfl rfl rfl rfl ?_;(refine aT ?_);refine BI (bs:=[bJ g]) (args:=[aQ (bJ g)]) (l:=[]) rfl rfl rfl rfl rfl a7 (fun x ab j af=>by simp at ab;subst ab;exact absurd af (gL _ j)) (fun k c h=>by cases h) (bc.refl _) (fun k c x j h=>by cases h) rfl (fun bx aI ap aj => ?_);obtain⟨ay,bd,e',⟨rfl,cd⟩,rfl,rfl⟩:=aj;refine⟨fun k c h=>(by cases h),?_⟩;rw[GL bf cd,sF];(refine aT ?_)
 ((refine p7 rfl (aY rfl aM) (bc.refl _) rfl (GK bf cd) ?_))
 exact⟨ay,bd,e',⟨rfl,cd⟩,rfl,rfl⟩
theorem afd{s s1:bH.bh aq}(h5:s.ph=1)(hp:gS E r rm 73 [] s l3 s1):gS E r rm 22 [] s (bl true) s1:=by
 refine GM rfl rfl fun cs R bf g e => ?_;have a7:=GN rfl hp bf g e;obtain⟨ph,I,J,T,dirty,hot,fnd,ch⟩:=s;obtain rfl:ph=1:=h5;obtain⟨hv,fv,cv,b,S,lk,hS,dy,gX,rfl,rfl⟩:=id bf;refine cG (f:=22) Tryz.func22 rfl (cn rfl) (by exact jW) ?_;(refine aT ?_);refine pv 9 rfl rfl rfl rfl rfl rfl rfl ?_;(refine aT ?_);refine pv 9 rfl rfl rfl rfl rfl rfl rfl ?_;(refine aT ?_);refine BI (bs:=[bJ g]) (args:=[aQ (bJ g)]) (l:=[]) rfl rfl rfl rfl rfl a7 (fun x ab j af=>by simp at ab;subst ab;exact absurd af (gL _ j)) (fun k c h=>by cases h) (bc.refl _) (fun k c x j h=>by cases h) rfl (fun bx aI ap aj => ?_);obtain⟨ay,bd,e',⟨rfl,cd⟩,rfl,rfl⟩:=aj;refine⟨fun k c h=>(by cases h),?_⟩;rw[GL bf cd,sF];(refine aT ?_)
 ((refine p7 rfl (aY rfl aM) (bc.refl _) rfl (GK bf cd) ?_))
 exact⟨ay,bd,e',⟨rfl,cd⟩,rfl,rfl⟩
theorem afe{s s1:bH.bh aq}(h5:s.ph=2)(hp:gS E r rm 74 [] s l3 s1):gS E r rm 22 [] s (bl true) s1:=by
 refine GM rfl rfl fun cs R bf g e => ?_;have a7:=GN rfl hp bf g e;obtain⟨ph,I,J,T,dirty,hot,fnd,ch⟩:=s;obtain rfl:ph=2:=h5;obtain⟨hv,fv,cv,b,S,lk,hS,dy,gX,rfl,rfl⟩:=id bf;refine cG (f:=22) Tryz.func22 rfl (cn rfl) (by exact jW) ?_;(refine aT ?_);refine pv 9 rfl rfl rfl rfl rfl rfl rfl ?_;(refine aT ?_);refine pv 9 rfl rfl rfl rfl rfl rfl rfl ?_;(refine aT ?_);refine BI (bs:=[bJ g]) (args:=[aQ (bJ g)]) (l:=[]) rfl rfl rfl rfl rfl a7 (fun x ab j af=>by simp at ab;subst ab;exact absurd af (gL _ j)) (fun k c h=>by cases h) (bc.refl _) (fun k c x j h=>by cases h) rfl (fun bx aI ap aj => ?_);obtain⟨ay,bd,e',⟨rfl,cd⟩,rfl,rfl⟩:=aj;refine⟨fun k c h=>(by cases h),?_⟩;rw[GL bf cd,sF];(refine aT ?_)
 ((refine p7 rfl (aY rfl aM) (bc.refl _) rfl (GK bf cd) ?_))
 exact⟨ay,bd,e',⟨rfl,cd⟩,rfl,rfl⟩
theorem aff{s s1:bH.bh aq}(h5:s.ph=3)(hp:gS E r rm 75 [] s l3 s1):gS E r rm 22 [] s (bl true) s1:=by
 refine GM rfl rfl fun cs R bf g e => ?_;have a7:=GN rfl hp bf g e;obtain⟨ph,I,J,T,dirty,hot,fnd,ch⟩:=s;obtain rfl:ph=3:=h5;obtain⟨hv,fv,cv,b,S,lk,hS,dy,gX,rfl,rfl⟩:=id bf;refine cG (f:=22) Tryz.func22 rfl (cn rfl) (by exact jW) ?_;(refine aT ?_);refine pv 9 rfl rfl rfl rfl rfl rfl rfl ?_;(refine aT ?_);refine pv 9 rfl rfl rfl rfl rfl rfl rfl ?_;(refine aT ?_);refine BI (bs:=[bJ g]) (args:=[aQ (bJ g)]) (l:=[]) rfl rfl rfl rfl rfl a7 (fun x ab j af=>by simp at ab;subst ab;exact absurd af (gL _ j)) (fun k c h=>by cases h) (bc.refl _) (fun k c x j h=>by cases h) rfl (fun bx aI ap aj => ?_);obtain⟨ay,bd,e',⟨rfl,cd⟩,rfl,rfl⟩:=aj;refine⟨fun k c h=>(by cases h),?_⟩;rw[GL bf cd,sF];(refine aT ?_)
 ((refine p7 rfl (aY rfl aM) (bc.refl _) rfl (GK bf cd) ?_))
 exact⟨ay,bd,e',⟨rfl,cd⟩,rfl,rfl⟩
theorem Ry{s:bH.bh aq}(h5:4≤s.ph)(anA:s.ph≤5):gS E r rm 22 [] s (bl false) s:=by
 intro cs R bf;obtain⟨hv,fv,cv,b,S,lk,hS,dy,gX,rfl,rfl⟩:=id bf;have aK:(s.ph:Int)≥4:=by omega
 refine cG (f:=22) Tryz.func22 rfl (cn rfl) (by exact dn rfl) ?_;(refine aT ?_)
 ((refine dA rfl (aY rfl aM) rfl (bc.refl _) bf.closed rfl fM ?_))
 exact⟨_,rfl,rfl,bf⟩
end
section
variable{E:List (Int×bN)}{r rm:Nat}
abbrev DL(E:List (Int×bN))(r rm:Nat)(s:bH.bh aq):Prop:=kO (bt E r rm) (zb (E.map Prod.snd) r) s
structure ik (E:List (Int×bN)) (r rm:Nat):Prop where
 r:r≤28
 near:jD (E.map Prod.snd)=true
 len:E.length≤300
 pos:1≤rm
 room:rm≤1024
theorem ik.ok(h:ik E r rm):nm (bt E r rm) (zb (E.map Prod.snd) r):=ajZ h.r h.near
theorem ik.n(E:List (Int×bN))(r rm:Nat):(bt E r rm).n=E.length:=iD ..
theorem ik.wA(h:ik E r rm){s:bH.bh aq}(aa:iM (bt E r rm) s)(al:lI (bt E r rm) (zb (E.map Prod.snd) r) s):jS s.ch:=by
 have hlen:=al.len;rw[ik.n] at hlen;refine⟨by have:=h.len;omega,fun c ak => ?_⟩;obtain⟨i,hi⟩:=kF ak;have h1:=(IC h.ok aa al ak).1;have h2:(bt E r rm).R=rm:=rfl;have:=h.room;exact⟨(al.ja i c hi).len,by omega⟩
theorem ik.hot(h:ik E r rm){s:bH.bh aq}(aa:iM (bt E r rm) s):s.hot.length≤1024:=by
 have h1:=aa.room;have h2:(bt E r rm).R=rm:=rfl;have:=h.room;omega
theorem afb{s:bH.bh aq}(h:ik E r rm)(bf:DL E r rm s):gS E r rm 22 [] s (bl (decide (s.ph<4))) (eI (bt E r rm) s):=by
 obtain⟨aa,aE|h1|h2|ar|aK|bX⟩:=bf
 ·have e:eI (bt E r rm) s=r7 (bt E r rm) s:=by simp only[eI,aE.ph]
  rw[e,aE.ph];have hi:=aE.I;rw[ik.n] at hi;exact afc aE.ph (afy h.r h.near h.len hi aE.dirty aE.fnd (h.hot aa) aE.ph)
 ·have e:eI (bt E r rm) s=sG (bt E r rm) s:=by simp only[eI,h1.ph]
  rw[e,h1.ph];have hi:=h1.J;rw[ik.n] at hi;exact afd h1.ph (afA h.r h.near h.len h1.v8 hi h1.dirty h1.fnd (h.hot aa) h1.ph)
 ·obtain⟨c,p,q,g1,g2,g3,aw⟩:=h2.link;have g4:=bB h2.T;generalize s.hot[s.T]'h2.T=x at g4
  have e:eI (bt E r rm) s=tQ (bt E r rm) s c p q (mL (bt E r rm) p q x s.fnd):=by
   simp only[eI,h2.ph,zq,g1,g2,g3,g4]
  rw[e,h2.ph];have ak:=h2.laid.ja _ _ g1;have hd:=IC h.ok aa h2.laid (cM g1);have an:(bt E r rm).R=rm:=rfl;have anD:=h.room;obtain⟨V,D⟩:=c;have hp:=aa.hl _ (ak.hot p (cM g2));have aj:=aa.hl _ (ak.hot q (cM g3));have aZ:=h.hot aa
  have va:(mL (bt E r rm) p q x s.fnd)=(s.hot.take (s.T+1)).filter (kv (bt E r rm) p q):=by
   rw[Pe g4,aw];unfold mL
   split <;> simp[*]
  refine afe h2.ph (afB h.r (h.wA aa h2.laid) g1 g2 g3 g4 (fun d tz => ?_) hp aj h2.dirty aZ ?_ ?_ h2.ph)
  ·have:=hd.2 d tz;omega
  ·rw[aw];refine eO (List.length_filter_le ..) ?_;rw[dY];omega
  ·rw[va];exact(aa.nd.sublist (List.take_sublist ..)).filter _
 ·have e:eI (bt E r rm) s=tR (bt E r rm) s:=by simp only[eI,ar.ph]
  rw[e,ar.ph];have ak:=h.wA aa ar.laid;refine aff ar.ph (afz h.r ak ?_ ar.v8 ar.J (fun l al => ?_) ar.fnd (h.hot aa) ar.ph)
  ·have:=ar.J;cases yw:s.ch with
   | nil=>rw[yw] at this;simp[bi] at this
   | cons=>exact gE _
  ·obtain⟨_,a1,a2⟩:=F0 h.ok ar.laid al;exact⟨aa.hl _ a1,aa.hl _ a2⟩
 ·have e:eI (bt E r rm) s=s:=by simp only[eI,aK.ph]
  rw[e,aK.ph];exact Ry (by rw[aK.ph];decide) (by rw[aK.ph];decide)
 ·have e:eI (bt E r rm) s=s:=by simp only[eI,bX.ph]
  rw[e,bX.ph];exact Ry (by rw[bX.ph];decide) (by rw[bX.ph];decide)
end
structure dD where
 k:Nat
 st:Nat
 s:bH.bh aq
section
variable{E:List (Int×bN)}{rm:Nat}
def ft(E:List (Int×bN))(rm k:Nat):dD:=⟨k,0,iA (bt E k rm)⟩
def ff(E:List (Int×bN))(rm:Nat)(l:dD):dD :=
 if 4≤l.s.ph then l else if (eI (bt E l.k rm) l.s).ph=5 then ⟨l.k+1,l.st+1,iA (bt E (l.k+1) rm)⟩ else ⟨l.k,l.st+1,eI (bt E l.k rm) l.s⟩
def cN(E:List (Int×bN))(rm:Nat):Nat→dD→Nat×dD
 | 0,l=>(0,l)
 | n+1,l=>if 4≤l.s.ph then(0,l) else((cN E rm n (ff E rm l)).1+1,(cN E rm n (ff E rm l)).2)
theorem CR{l:dD}(h:4≤l.s.ph):∀n,cN E rm n l=(0,l)
 | 0=>rfl
 | n+1=>if_pos h
structure ju (E:List (Int×bN)) (rm:Nat) (l:dD):Prop where
 fit:ik E l.k rm
 inv:DL E l.k rm l.s
 Lj:l.s.ph≠5
 last:l.k=28→l.s.ph=4∨∃m,One (bt E 28 rm) (0,0) m l.s
theorem ju.up{l:dD}(h:ju E rm l)(aK:¬ 4≤l.s.ph)(bX:(eI (bt E l.k rm) l.s).ph=5):l.k<28:=by
 have ae:=h.fit.r;rcases ia l.k 28 with q|q
 ·exact q
 ·have e:l.k=28:=by omega
  rcases h.last e with q4|⟨m,Bc⟩
  ·omega
  ·have lQ:=h.fit;have hinv:=h.inv;rw[e] at lQ hinv bX;have Bd:One (bt E 28 rm) (0,0) (m+1) l.s:=⟨Bc.hot,Bc.left.imp (fun x=>⟨x.1,Nat.le_succ_of_le x.2⟩) fun y=>y.imp (fun x=>⟨x.1,Nat.le_succ_of_le x.2⟩) id⟩;have:=(Vu lQ.ok (Ux lQ.near lQ.pos) hinv Bd).left;omega
theorem ahm(aA:0<E.length):∃m,One (bt E 28 rm) (0,0) m (iA (bt E 28 rm)):=by
 refine⟨(bt E 28 rm).n+(bt E 28 rm).n*(bt E 28 rm).n,fun x ab=>(by cases ab),.inl ⟨if_neg (by rw[ik.n];omega),?_⟩⟩;show (bt E 28 rm).n-0+(bt E 28 rm).n*(bt E 28 rm).n≤(bt E 28 rm).n+(bt E 28 rm).n*(bt E 28 rm).n;omega
theorem y5{k:Nat}(aw:ik E k rm):ju E rm (ft E rm k):=by
 have cr:(iA (bt E k rm)).ph=if E.length=0 then 4 else 0:=by
  show (if (bt E k rm).n=0 then 4 else 0)=_;rw[ik.n]
 refine⟨aw,St _ _,?_,fun ae => ?_⟩
 ·show (iA (bt E k rm)).ph≠5;rw[cr];split <;> omega
 ·have ae:k=28:=ae;subst ae
  by_cases aE:E.length=0
  ·left;show (iA (bt E 28 rm)).ph=4;rw[cr,if_pos aE]
  ·exact .inr (ahm (by omega))
theorem ju.step{l:dD}(h:ju E rm l):ju E rm (ff E rm l):=by
 unfold ff
 by_cases aK:4≤l.s.ph
 ·rw[if_pos aK];exact h
 ·rw[if_neg aK]
  by_cases bX:(eI (bt E l.k rm) l.s).ph=5
  ·rw[if_pos bX];have ae:=h.up aK bX;exact⟨⟨ae,h.fit.near,h.fit.len,h.fit.pos,h.fit.room⟩,St _ _,(y5 (E:=E) (rm:=rm) (k:=l.k+1) ⟨ae,h.fit.near,h.fit.len,h.fit.pos,h.fit.room⟩).Lj,(y5 (E:=E) (rm:=rm) (k:=l.k+1) ⟨ae,h.fit.near,h.fit.len,h.fit.pos,h.fit.room⟩).last⟩
  ·rw[if_neg bX];refine⟨h.fit,(Mr h.fit.ok h.inv).1,bX,fun ae => ?_⟩;have ae:l.k=28:=ae;rcases h.last ae with q4|⟨m,Bc⟩
   ·omega
   ·have lQ:=h.fit;have hinv:=h.inv;rw[ae] at lQ hinv;show (eI (bt E l.k rm) l.s).ph=4∨∃m,One (bt E 28 rm) (0,0) m (eI (bt E l.k rm) l.s);rw[ae];exact .inr ⟨m,Vu lQ.ok (Ux lQ.near lQ.pos) hinv ⟨Bc.hot,Bc.left.imp (fun x=>⟨x.1,Nat.le_succ_of_le x.2⟩) fun y=>y.imp (fun x=>⟨x.1,Nat.le_succ_of_le x.2⟩) id⟩⟩
def qU(n rm:Nat):Nat:=8*(rm+2)*((n*rm+1)*(n*rm+1))
def px(E:List (Int×bN))(rm:Nat)(l:dD):Nat:=(28-l.k)*qU E.length rm+eW (bt E l.k rm) l.s
theorem Su(k:Nat)(ao:1≤rm):eW (bt E k rm) (iA (bt E k rm))≤qU E.length rm:=by
 have:=agT (bt E k rm) (show 0<rm by omega);rw[ik.n] at this;exact this
theorem ju.less{l:dD}(h:ju E rm l)(aK:¬ 4≤l.s.ph):px E rm (ff E rm l)<px E rm l:=by
 have vg:=(Mr h.fit.ok h.inv).2.1 (by omega);unfold ff;rw[if_neg aK]
 by_cases bX:(eI (bt E l.k rm) l.s).ph=5
 ·rw[if_pos bX];have ae:=h.up aK bX;have aA:=Su (E:=E) (l.k+1) h.fit.pos;unfold px;show (28-(l.k+1))*qU E.length rm+eW (bt E (l.k+1) rm) (iA (bt E (l.k+1) rm))<_;rw[show 28-l.k=(28-(l.k+1))+1 by omega,lX,Nat.one_mul];omega
 ·rw[if_neg bX];unfold px;show (28-l.k)*qU E.length rm+eW (bt E l.k rm) (eI (bt E l.k rm) l.s)<_;omega
theorem LZ:∀(n:Nat) {l:dD},ju E rm l→ju E rm (cN E rm n l).2
 | 0,l,h=>h
 | n+1,l,h=>by
  unfold cN
  split
  ·exact h
  ·exact LZ n h.step
theorem L0:∀(n:Nat) (l:dD),(cN E rm n l).1≤n
 | 0,l=>cE 0
 | n+1,l=>by
  unfold cN
  split
  ·exact dk _
  ·exact Nat.succ_le_succ (L0 n _)
theorem Vv{l:dD}(aK:¬ 4≤l.s.ph):(ff E rm l).st=l.st+1:=by
 unfold ff;rw[if_neg aK];split <;> rfl
theorem alw{l:dD}:l.k≤(ff E rm l).k:=by
 unfold ff
 split
 ·exact cE _
 ·split
  ·exact Nat.le_succ _
  ·exact cE _
theorem GQ:∀(n:Nat) (l:dD),(cN E rm n l).2.st=l.st+(cN E rm n l).1∧l.k≤(cN E rm n l).2.k
 | 0,l=>⟨rfl,cE _⟩
 | n+1,l=>by
  unfold cN
  split
  ·exact⟨rfl,cE _⟩
  ·rename_i aK;obtain⟨h1,h2⟩:=GQ n (ff E rm l);rw[Vv aK] at h1;exact⟨by show (cN E rm n (ff E rm l)).2.st=l.st+((cN E rm n (ff E rm l)).1+1);omega,eO alw h2⟩
theorem US:∀(n:Nat) {l:dD},ju E rm l→(cN E rm n l).1+px E rm (cN E rm n l).2≤px E rm l
 | 0,l,_=>by show 0+_≤_;rw[ib];exact cE _
 | n+1,l,h=>by
  unfold cN
  split
  ·show 0+_≤_;rw[ib];exact cE _
  ·rename_i aK;have h1:=US n h.step;have h2:=h.less aK;show (cN E rm n (ff E rm l)).1+1+px E rm (cN E rm n (ff E rm l)).2≤px E rm l;omega
theorem UR:∀(n:Nat) {l:dD},ju E rm l→px E rm l≤n→(cN E rm n l).2.s.ph=4
 | 0,l,h,aA=>by
  have bX:=h.Lj
  have hle:l.s.ph≤5:=by
   obtain⟨_,q|q|q|q|q|q⟩:=h.inv <;> (have:=q.ph;omega)
  by_cases aK:4≤l.s.ph
  ·show l.s.ph=4;omega
  ·have:=h.less aK;omega
 | n+1,l,h,aA=>by
  unfold cN
  split
  ·rename_i aK;have bX:=h.Lj
   have hle:l.s.ph≤5:=by
    obtain⟨_,q|q|q|q|q|q⟩:=h.inv <;> (have:=q.ph;omega)
   show l.s.ph=4;omega
  ·rename_i aK;have:=h.less aK;exact UR n h.step (by omega)
theorem UQ:∀(m n:Nat) (l:dD),cN E rm (m+n) l=((cN E rm m l).1+(cN E rm n (cN E rm m l).2).1,(cN E rm n (cN E rm m l).2).2)
 | 0,n,l=>by rw[ib];show _=(0+(cN E rm n l).1,(cN E rm n l).2);rw[ib]
 | m+1,n,l=>by
  rw[show m+1+n=(m+n)+1 by omega]
  by_cases h:4≤l.s.ph
  ·rw[CR h,CR h (m+1)];show (0,l)=(0+(cN E rm n l).1,(cN E rm n l).2);rw[CR h];rfl
  ·have aH:∀j,cN E rm (j+1) l=((cN E rm j (ff E rm l)).1+1,(cN E rm j (ff E rm l)).2):=fun j=>if_neg h;rw[aH,aH,UQ m n];exact Prod.ext (by show (cN E rm m (ff E rm l)).1+(cN E rm n (cN E rm m (ff E rm l)).2).1+1=(cN E rm m (ff E rm l)).1+1+(cN E rm n (cN E rm m (ff E rm l)).2).1;omega) rfl
theorem UT:∀(n:Nat) (l:dD),cN E rm (cN E rm n l).1 l=cN E rm n l
 | 0,l=>rfl
 | n+1,l=>by
  by_cases h:4≤l.s.ph
  ·rw[CR h (n+1)];rfl
  ·have aH:∀j,cN E rm (j+1) l=((cN E rm j (ff E rm l)).1+1,(cN E rm j (ff E rm l)).2):=fun j=>if_neg h;rw[aH,aH,UT n]
theorem Ss{k:Nat}(aw:ik E k rm):px E rm (ft E rm k)≤29*qU E.length rm:=by
 have:=Su (E:=E) k aw.pos;have h2:(28-k)*qU E.length rm≤28*qU E.length rm:=ic _ (by omega);unfold px ft;show (28-k)*qU E.length rm+eW (bt E k rm) (iA (bt E k rm))≤_;omega
end
section
variable{E:List (Int×bN)}{r rm:Nat}
theorem KM{s:bH.bh aq}:gS E r rm 23 [] s (aL s.ph) s:=by
 intro cs R bf;obtain⟨hv,fv,cv,b,S,lk,hS,dy,gX,rfl,rfl⟩:=id bf;refine cG (f:=23) Tryz.func23 rfl (cn rfl) (by exact dn rfl) ?_;(refine aT ?_)
 ((refine dA rfl (aY rfl aM) rfl (bc.refl _) bf.closed rfl fM ?_))
 exact⟨_,rfl,rfl,bf⟩
def yi(ch:List (List aq×List Int)):Int:=ch.foldl (fun a c=>max a (mK c.2)) 0
theorem aae{ch:List (List aq×List Int)}{k:Nat}{c:List aq×List Int}(h:ch[k]?=some c):yi (ch.take (k+1))=max (yi (ch.take k)) (mK c.2):=by
 have ae:=(bq.1 h).1
 have e:ch.take (k+1)=ch.take k++[c]:=by
  rw[jL ae,(bq.1 h).2]
 unfold yi;rw[e,List.foldl_append];rfl
def WQ(E:List (Int×bN))(r rm:Nat)(s:bH.bh aq)(hv fv cv:Value)(b:Nat)(S:dV)(lk:AC)(n:Nat)(R:aF)(az:List (Nat×ag))(aR:List (Nat×List AC)):Prop :=
 ∃(k:Nat) (db d:Int),k≤s.ch.length∧n=s.ch.length-k∧db=k∧d=yi (s.ch.take k)∧R=eo b S hv fv cv s.hot s.fnd s.ch∧az=[(3,aL d),(10,aQ cv),(11,aL s.ch.length),(12,aL db)]∧aR=[(1000,e5 E r rm s.ph s.I s.J s.T s.dirty hv fv cv b lk)]
theorem aeR{s:bH.bh aq}(ak:jS s.ch):gS E r rm 24 [] s (aL (yi s.ch)) s:=by
 intro cs R bf;obtain⟨hv,fv,cv,b,S,lk,hS,dy,gX,rfl,rfl⟩:=id bf;refine cG (f:=24) Tryz.func24 rfl (cn rfl) (by exact dn rfl) ?_;(repeat first|refine b9 ?_|(with_reducible apply oK 3);(iterate 4 rfl);kernel_rfl;rfl);refine iH 22 (WQ E r rm s hv fv cv b S lk) s.ch.length (eo b S hv fv cv s.hot s.fnd s.ch) _ [(1000,e5 E r rm s.ph s.I s.J s.T s.dirty hv fv cv b lk)] ⟨0,0,0,dk _,rfl,rfl,rfl,rfl,rfl,rfl⟩ (bc.refl _) rfl ⟨rfl,rfl,rfl,rfl,trivial⟩ ⟨rfl,trivial⟩ ?_ ?_
 ·cases lk <;> first|rfl|cases dy
 rintro n R az aR ⟨k,db,d,ae,rfl,jf,nz,rfl,rfl,rfl⟩ bz;clear bz;have hlen:=ak.1
 by_cases aj:k<s.ch.length
 ·obtain⟨V,D,g1⟩:∃V D,s.ch[k]?=some (V,D):=⟨_,_,bB aj⟩;obtain⟨jw,gA⟩:=ak.2 _ (cM g1);simp only at jw gA;obtain⟨jt,pa⟩:=AF (ii:=db) jf g1;have q2:db<(s.ch.length:Int):=by omega
  have q3:0≤db:=by omega
  have q4:0<s.ch.length:=by omega
  have aC:=aae g1;rw[←nz,show max d (mK (V,D).2)=if mK D>d then mK D else d by show max d (mK D)=_;split <;> omega] at aC;have a7:=Rs V D gA (by omega);(repeat first|refine b9 ?_|refine gP ?_|(with_reducible apply ky 3);(iterate 4 rfl);(omega);(assumption);rfl;kernel_rfl;rfl|(with_reducible apply oL 3);(iterate 3 rfl);(assumption);assumption;rfl;kernel_rfl;rfl);refine⟨s.ch.length-(k+1),eo b S hv fv cv s.hot s.fnd s.ch,_,[(1000,e5 E r rm s.ph s.I s.J s.T s.dirty hv fv cv b lk)],by omega,⟨k+1,db+1,_,by omega,rfl,by omega,aC.symm,rfl,rfl,rfl⟩,bc.refl _,rfl,⟨rfl,rfl,rfl,rfl,trivial⟩,⟨rfl,trivial⟩,?_⟩;cases lk <;> first|rfl|cases dy
 ·have q2:¬db<(s.ch.length:Int):=by omega
  have cr:s.ch.take k=s.ch:=fL (by omega);rw[cr] at nz;(refine aT ?_)
  ((refine dA rfl (aY rfl aM) rfl (bc.refl _) bf.closed rfl fM ?_))
  exact⟨_,rfl,by rw[←nz];rfl,bf⟩
end
theorem DS{n:Nat}{xs:List AC}(aA:n≤900000)(ak:xs.all AC.aW=true)(ab:xs.length=2*n):o8 ah 153 [cF 2 n xs] fun v q=>∃ba,v=aQ ba∧q=⟨50,2,ba,n,xs⟩:=by
 refine DT rfl (fun v q h=>by obtain⟨ba,rfl,_⟩:=h;rfl) ?_;refine cG (f:=153) Tryz.func153 rfl (cn rfl) (by exact jW) ?_;(refine aT ?_);refine U7 4 rfl ?_;intro b aa;cases b with
 | true =>
  have aE:=aa rfl;subst aE;have h1:=mZ ab;subst h1;clear aa;refine nO 0 50 2 rfl ?_;(refine aT ?_)
  ((refine yA rfl (aY rfl aM) rfl rfl (gE _) ?_))
  exact⟨.slice none 0 0,rfl,rfl⟩
 | false =>
  clear aa;(refine aT ?_);refine QK 0 rfl rfl rfl rfl rfl (fun v0 qb => ?_);(refine aT ?_);refine mm 0 rfl rfl rfl rfl ?q1 ?q2 ak rfl (fun v1 jj => ?_)
  case q1=>exact iP (by show 0+n≤1000000;omega)
  case q2=>show (0+n)*16≤140737488355328;omega
  (refine aT ?_)
  ((refine yA rfl (aY rfl aM) rfl rfl (gE _) ?_))
  exact⟨v1,rfl,by rw[ue,ib]⟩
theorem Nx{n:Nat}{xs:List AC}(aA:n≤900000)(ak:xs.all AC.aW=true)(ab:xs.length=2*n):o8 ah 154 [cF 2 n xs] fun v q=>∃ba,v=aQ ba∧q=⟨53,2,ba,n,xs⟩:=by
 refine DT rfl (fun v q h=>by obtain⟨ba,rfl,_⟩:=h;rfl) ?_;refine cG (f:=154) Tryz.func154 rfl (cn rfl) (by exact jW) ?_;(refine aT ?_);refine U7 4 rfl ?_;intro b aa;cases b with
 | true =>
  have aE:=aa rfl;subst aE;have h1:=mZ ab;subst h1;clear aa;refine nO 0 53 2 rfl ?_;(refine aT ?_)
  ((refine yA rfl (aY rfl aM) rfl rfl (gE _) ?_))
  exact⟨.slice none 0 0,rfl,rfl⟩
 | false =>
  clear aa;(refine aT ?_);refine QK 0 rfl rfl rfl rfl rfl (fun v0 qb => ?_);(refine aT ?_);refine mm 0 rfl rfl rfl rfl ?q1 ?q2 ak rfl (fun v1 jj => ?_)
  case q1=>exact iP (by show 0+n≤1000000;omega)
  case q2=>show (0+n)*48≤140737488355328;omega
  (refine aT ?_)
  ((refine yA rfl (aY rfl aM) rfl rfl (gE _) ?_))
  exact⟨v1,rfl,by rw[ue,ib]⟩
abbrev lY(k rm ph I J T:Int)(dirty:Bool)(hv fv cv:Value):List AC:=[.c (.int .i64 k),.c (.int .i64 rm),.c (.int .i64 ph),.c (.int .i64 I),.c (.int .i64 J),.c (.int .i64 T),.c (.bool dirty),.c hv,.c fv,.c cv]
abbrev mz(hv fv cv:Value)(hot fnd:List aq)(ch:List (List aq×List Int)):aF:=upd (upd (bp 1 (jH hv hot)) 2 (jH fv fnd)) 3 (wz cv ch)
abbrev nc(hv fv cv:Value)(hot fnd:List aq)(ch:List (List aq×List Int))(R:aF):aF:=upd (upd (upd R 4 (jH hv hot)) 5 (jH fv fnd)) 6 (wz cv ch)
theorem ajV{hv fv cv:Value}{hot fnd:List aq}{ch:List (List aq×List Int)}{R:aF}:upd (nc hv fv cv hot fnd ch R) 6 (wz cv ch)=nc hv fv cv hot fnd ch R:=by
 funext k
 by_cases hX:k=6
 ·subst hX;rfl
 ·rw[bL _ _ hX]
theorem AG(ch:List (List aq×List Int)):(eB ch).length=2*ch.length:=by
 unfold eB;induction ch with
 | nil=>rfl
 | cons c l cf=>rw[List.flatMap_cons,cY,cf,hb];show 2+_=_;omega
theorem Ot(ch:List (List aq×List Int)):∀y∈eB ch,y.aW=true:=fun y ai=>by
 obtain⟨c,_,h⟩:=List.mem_flatMap.1 ai;simp only[qW,fg,sL,or_false] at h;rcases h with rfl|rfl <;> rfl
theorem Rk(l:List aq):∀y∈bY l,y.aW=true:=bZ.1 (tO l)
theorem Ov{ch:List (List aq×List Int)}{i:Nat}{V:List aq}{D:List Int}(h:ch[i]?=some (V,D)):eP (eB ch) (2*i) [.p (b3 2 V.length (bY V)),.p (b3 1 D.length (cw D))]=eB ch:=by
 have hi:=(bq.1 h).1
 have e:ch=ch.take i++(V,D)::ch.drop (i+1):=by
  conv=>lhs;rw[←kg i ch,jK hi,(bq.1 h).2]
 have aN:eB ch=eB (ch.take i)++([.p (b3 2 V.length (bY V)),.p (b3 1 D.length (cw D))]++eB (ch.drop (i+1))):=by
  conv=>lhs;rw[e]
  simp[eB,qW]
 have al:(eB (ch.take i)).length=2*i:=by rw[AG,dY];congr 1;omega
 rw[aN,Mk al];simp
def WK(hv fv cv bT dh da:Value)(k rm ph I J T:Int)(dirty:Bool)(hot fnd:List aq)(ch:List (List aq×List Int))(n:Nat)(R:aF)(az:List (Nat×ag))(aR:List (Nat×List AC)):Prop :=
 ∃(i:Nat) (ii:Int),i≤ch.length∧n=ch.length-i∧ii=i∧R=nc bT dh da hot fnd ch (mz hv fv cv hot fnd ch)∧az=[(1,.w (.one (.own 1 0))),(2,.w (.one (.own 2 0))),(18,aQ da),(19,aL ch.length),(20,aL ii)]∧aR=[(1,lY k rm ph I J T dirty bT dh da),(2,lY 0 0 0 0 0 0 false (.slice none 0 0) (.slice none 0 0) (.slice none 0 0))]
theorem afl{k rm ph I J T:Int}{dirty:Bool}{hv fv cv:Value}{hot fnd:List aq}{ch:List (List aq×List Int)}(aZ:hot.length≤900000)(aw:fnd.length≤900000)(ak:jS ch) :
  cg ah 83 [.w (.agg (lY k rm ph I J T dirty hv fv cv))] bC (mz hv fv cv hot fnd ch) fun bx aI ap=>∃bT dh da,bx = .w (.agg (lY k rm ph I J T dirty bT dh da))∧aI=bC∧ap=nc bT dh da hot fnd ch (mz hv fv cv hot fnd ch):=by
 have hlen:=ak.1;have dO:∀ys:List AC,ys.length=(jH hv hot).ys.length→ys.all AC.aW=true→o8 ah 153 [cF 2 hot.length ys] fun v q=>∃ba,v=aQ ba∧q=⟨50,2,ba,hot.length,ys⟩:=fun ys al ai=>DS aZ ai (by rw[al,ol,Nat.mul_comm]);have jr:∀ys:List AC,ys.length=(jH fv fnd).ys.length→ys.all AC.aW=true→o8 ah 153 [cF 2 fnd.length ys] fun v q=>∃ba,v=aQ ba∧q=⟨50,2,ba,fnd.length,ys⟩:=fun ys al ai=>DS aw ai (by rw[al,ol,Nat.mul_comm]);have jR:∀ys:List AC,ys.length=(wz cv ch).ys.length→ys.all AC.aW=true→o8 ah 154 [cF 2 ch.length ys] fun v q=>∃ba,v=aQ ba∧q=⟨53,2,ba,ch.length,ys⟩:=fun ys al ai=>Nx (by omega) ai (by rw[al,AG]);refine cG (f:=83) Tryz.func83 rfl (cn rfl) (by exact jW) ?_;(repeat first|(with_reducible apply iG (id:=1) [0,1,3,4,6,7,2,9,5,8,10,11,12,13,14] [7,10,13]);kernel_rfl;kernel_rfl;rfl|refine b9 ?_);refine Kp 1 4 (by decide) rfl rfl rfl rfl dO rfl (gE _) (Rk _) rfl (fun bT => ?_);(refine aT ?_);refine Kp 2 5 (by decide) rfl rfl rfl rfl jr rfl (gE _) (Rk _) rfl (fun dh => ?_)
 skip
 refine Kp 3 6 (by decide) rfl rfl rfl rfl jR rfl (gE _) (Ot _) rfl (fun da => ?_);(repeat first|refine b9 ?_|(with_reducible apply oK 6);(iterate 4 rfl);kernel_rfl;rfl);refine iH 33 (WK hv fv cv bT dh da k rm ph I J T dirty hot fnd ch) ch.length (nc bT dh da hot fnd ch (mz hv fv cv hot fnd ch)) _ [(1,lY k rm ph I J T dirty bT dh da),(2,lY 0 0 0 0 0 0 false (.slice none 0 0) (.slice none 0 0) (.slice none 0 0))] ⟨0,0,dk _,rfl,rfl,rfl,rfl,rfl⟩ (bc.refl _) rfl ⟨rfl,rfl,rfl,rfl,rfl,trivial⟩ ⟨rfl,rfl,trivial⟩ rfl ?_;rintro n R az aR ⟨i,ii,hi,rfl,ee,rfl,rfl,rfl⟩ bz;clear bz
 by_cases aj:i<ch.length
 ·obtain⟨V,D,g1⟩:∃V D,ch[i]?=some (V,D):=⟨_,_,bB aj⟩;obtain⟨jw,gA⟩:=ak.2 _ (cM g1);simp only at jw gA;obtain⟨jt,pa⟩:=AF (ii:=ii) ee g1;have a7:=Rr V D gA (by omega);have q2:ii<(ch.length:Int):=by omega
  have q3:0≤ii:=by omega
  have q4:0<ch.length:=by omega
  have aH:ii.toNat*2=2*i:=by omega
  have BB:ii.toNat*2+2≤(eB ch).length:=by rw[AG];omega
  have b6:eP (eB ch) (ii.toNat*2) [.p (b3 2 V.length (bY V)),.p (b3 1 D.length (cw D))]=eB ch:=by rw[aH];exact Ov g1
  (repeat first|(with_reducible apply iG (id:=5) [0,1,2,3,4,5,6] [4000000]);kernel_rfl;kernel_rfl;rfl|refine b9 ?_|refine gP ?_|(with_reducible apply ky 6);(iterate 4 rfl);(omega);(assumption);rfl;kernel_rfl;rfl|(with_reducible apply oL 6);(iterate 3 rfl);(assumption);assumption;rfl;kernel_rfl;rfl);refine yO 6 rfl rfl rfl rfl q4 rfl rfl BB rfl ?_;(refine aT ?_);refine⟨ch.length-(i+1),nc bT dh da hot fnd ch (mz hv fv cv hot fnd ch),_,[(1,lY k rm ph I J T dirty bT dh da),(2,lY 0 0 0 0 0 0 false (.slice none 0 0) (.slice none 0 0) (.slice none 0 0))],by omega,⟨i+1,ii+1,by omega,rfl,by omega,rfl,rfl,rfl⟩,fun k q ae => ?_,rfl,⟨rfl,rfl,rfl,rfl,rfl,trivial⟩,⟨rfl,rfl,trivial⟩,rfl⟩
  have eb:upd (nc bT dh da hot fnd ch (mz hv fv cv hot fnd ch)) 6 (⟨53,2,da,ch.length,eP (eB ch) (ii.toNat*2) [.p (b3 2 V.length (bY V)),.p (b3 1 D.length (cw D))]⟩:bE)=nc bT dh da hot fnd ch (mz hv fv cv hot fnd ch):=by
   rw[b6];exact ajV
  exact(congrFun eb k).trans ae
 ·have q2:¬ii<(ch.length:Int):=by omega
  (refine aT ?_)
  ((refine p7 rfl (c6 rfl rfl rfl aM) (bc.refl _) rfl (fun j q h => ?_) ?_))
  ·match j with
   | 0=>cases h
   | 1=>exact⟨_,rfl⟩
   | 2=>exact⟨_,rfl⟩
   | 3=>exact⟨_,rfl⟩
   | j+4=>cases h
  ·exact⟨bT,dh,da,rfl,rfl,rfl⟩
theorem ajN{b:Nat}{S:dV}{hv fv cv:Value}{hot fnd:List aq}{ch:List (List aq×List Int)}:bc (mz hv fv cv hot fnd ch) (eo b S hv fv cv hot fnd ch)
 | 0,_,h=>by cases h
 | 1,_,h=>h
 | 2,_,h=>h
 | 3,_,h=>h
 | k+4,_,h=>by cases h
theorem ajX{b:Nat}{S:dV}{hv fv cv bT dh da:Value}{hot fnd:List aq}{ch:List (List aq×List Int)}:bQ (nc bT dh da hot fnd ch (mz hv fv cv hot fnd ch)) (eo b S hv fv cv hot fnd ch)=nc bT dh da hot fnd ch (eo b S hv fv cv hot fnd ch):=by
 funext i
 match i with
 | 0=>rfl
 | 1=>rfl
 | 2=>rfl
 | 3=>rfl
 | 4=>rfl
 | 5=>rfl
 | 6=>rfl
 | i+7=>rfl
theorem ajW{hv fv cv:Value}{hot fnd:List aq}{ch:List (List aq×List Int)}{R:aF}:∀i r,R i=some r→∃bb,nc hv fv cv hot fnd ch R i=some bb:=fun i r h=>by
 by_cases pX:i=6
 ·subst pX;exact⟨_,bW _ _ _⟩
 ·by_cases jd:i=5
  ·subst jd;exact⟨_,rfl⟩
  ·by_cases eb:i=4
   ·subst eb;exact⟨_,rfl⟩
   ·exact⟨r,by unfold nc;rw[bL _ _ pX,bL _ _ jd,bL _ _ eb];exact h⟩
section
variable{E:List (Int×bN)}{r rm:Nat}
theorem ae8{s:bH.bh aq}(aZ:s.hot.length≤900000)(aw:s.fnd.length≤900000)(ak:jS s.ch){cs:List AC}{R:aF}(bf:ek E r rm s cs R) :
  cg ah 32 [nT] (cH 1000 cs) R (nh 1000 fun bx ay ap=>∃hv fv cv,bx = .w (.agg (lY r rm s.ph s.I s.J s.T s.dirty hv fv cv))∧ay=cs∧ap=nc hv fv cv s.hot s.fnd s.ch R):=by
 obtain⟨hv,fv,cv,b,S,lk,hS,dy,gX,rfl,rfl⟩:=id bf;have a7:=afl (k:=(r:Int)) (rm:=(rm:Int)) (ph:=(s.ph:Int)) (I:=(s.I:Int)) (J:=(s.J:Int)) (T:=(s.T:Int)) (dirty:=s.dirty) (hv:=hv) (fv:=fv) (cv:=cv) aZ aw ak;refine cG (f:=32) Tryz.func32 rfl (cn rfl) (by exact dn rfl) ?_;(refine aT ?_);refine QI (l:=_) (args:=[_]) rfl rfl rfl rfl a7 ajN rfl rfl ?_;rintro _ _ _ ⟨bT,dh,da,rfl,rfl,rfl⟩;refine⟨rfl,?_⟩;rw[ajX];(refine aT ?_)
 ((refine dA rfl (c6 rfl rfl rfl aM) rfl (bc.refl _) bf.closed rfl ajW ?_))
 exact⟨_,rfl,bT,dh,da,rfl,rfl,rfl⟩
end
instance an0:nn ah 28 95 5 40:=⟨by kernel_rfl⟩
abbrev MD:ag:=aQ (.func (.func 108) #[] #[])
theorem Tm{x y:Int}:aO ah 109 [bn x y] (bl (gK (x,y))):=by
 have cs:((if y<x then y else x) ≥ -134217728∧gK (x,y)=decide ((if y>x then y else x)<134217728))∨(¬(if y<x then y else x) ≥ -134217728∧gK (x,y)=false):=by
  by_cases h:(if y<x then y else x) ≥ -134217728
  ·refine .inl ⟨h,?_⟩;rw[o3,ot,decide_eq_true_iff];show ((_≤x∧x<_)∧_≤y∧y<_)↔_
   split at h <;> split <;> omega
  ·refine .inr ⟨h,?_⟩;cases aA:gK (x,y) with
   | false=>rfl
   | true =>
    obtain⟨⟨a1,a2⟩,a3,a4⟩:((_≤x∧x<_)∧_≤y∧y<_):=ot.1 aA
    split at h <;> omega
 rcases cs with ⟨h,e⟩|⟨h,e⟩
 all_goals
  rw[e];refine bo (f:=109) Tryz.func109 rfl rfl rfl rfl ?_;(repeat first|refine dc ?_|(with_reducible apply bR (c:=true));rfl;rfl;(exact b5 (by omega))|(with_reducible apply bR (c:=false));rfl;rfl;(exact cc (by omega)))
  ((refine bk rfl (aY rfl aM) ?_))
  exact ag.aU.refl _
abbrev ye(x:Int×bN):Bool := !(gK x.2.1&&gK x.2.2)
theorem aia{o a b c d:Int}:aO ah 108 [.w (.agg [.c (.int .i64 a),.c (.int .i64 b),.c (.int .i64 c),.c (.int .i64 d),.c (.int .i64 o)])] (bl (ye (o,(a,b),(c,d)))):=by
 have a7:=Tm (x:=a) (y:=b);have bK:=Tm (x:=c) (y:=d);unfold ye;simp only;cases h1:gK (a,b) with
 | true =>
  rw[h1] at a7;rw[pF];refine bo (f:=108) Tryz.func108 rfl rfl rfl rfl ?_;(refine cK ?_)
  ((refine bk rfl (aY rfl aM) ?_))
  exact ag.aU.refl _
 | false =>
  rw[h1] at a7;rw[Bool.false_and];refine bo (f:=108) Tryz.func108 rfl rfl rfl rfl ?_;(refine cK ?_)
  ((refine bk rfl (aY rfl aM) ?_))
  exact ag.aU.refl _
def uX:List (Int×bN)→Int→Int
 | [],_ => -1
 | p::l,i=>if ye p=true then i else uX l (i+1)
theorem Pp(p:Int×bN)(l:List (Int×bN))(i:Int):uX (p::l) i=if ye p=true then i else uX l (i+1):=rfl
theorem Po:∀(l:List (Int×bN)) (i:Int),0≤i→(decide (uX l i≥0)) = !jD (l.map Prod.snd)
 | [],i,h=>rfl
 | p::l,i,h=>by
  have cf:=Po l (i+1) (by omega);have e:jD ((p::l).map Prod.snd)=((gK p.2.1&&gK p.2.2)&&jD (l.map Prod.snd)):=rfl;rw[e,Pp];unfold ye;cases hp:(gK p.2.1&&gK p.2.2) with
  | false=>rw[if_pos (show (!false)=true from rfl),Bool.false_and];exact b5 h
  | true=>rw[if_neg (by decide),pF];exact cf
def W1(E:List (Int×bN))(k:Nat)(az:List (Nat×ag))(aR:List (Nat×List AC)):Prop :=
 ∃(i:Nat) (ii:Int),i≤E.length∧k=E.length-i∧ii=i∧uX E 0=uX (E.drop i) ii∧aR=[]∧az=[(0,sX E),(1,MD),(7,aL E.length),(8,aL ii)]
theorem aiC{E:List (Int×bN)}(ao:E.length≤4611686018427387904):aO ah 166 [sX E,MD] (aL (uX E 0)):=by
 refine bo (f:=166) Tryz.func166 rfl rfl rfl rfl ?_;(refine eK ?_);refine oE 19 (W1 E) E.length _ [] ⟨0,0,dk _,rfl,rfl,rfl,rfl,rfl⟩ rfl ⟨rfl,rfl,rfl,rfl,trivial⟩ trivial rfl ?_;rintro n az aR ⟨j,de,af,rfl,jy,gH,rfl,rfl⟩ bz;clear bz
 by_cases hp:j<E.length
 ·have p2:de<(E.length:Int):=by omega
  have p3:0≤de:=by omega
  obtain⟨o,a,b,c,d,g1⟩:∃o a b c d,E[j]?=some (o,(a,b),(c,d)):=⟨_,_,_,_,_,bB hp⟩;have jt:=AU jy g1;have hd:E.drop j=(o,(a,b),(c,d))::E.drop (j+1):=by rw[jK hp,(bq.1 g1).2]
  have gz:=aia (o:=o) (a:=a) (b:=b) (c:=c) (d:=d);rw[hd,Pp] at gH;cases aw:ye (o,(a,b),(c,d)) with
  | true =>
   rw[aw] at gH gz;rw[if_pos rfl] at gH;rw[gH];(refine cK ?_)
   ((refine bk rfl (aY rfl aM) ?_))
   exact ag.aU.refl _
  | false =>
   rw[aw] at gH gz;rw[if_neg (by simp)] at gH;(refine cK ?_);exact⟨E.length-(j+1),_,[],by omega,⟨j+1,de+1,hp,rfl,by omega,gH,rfl,rfl⟩,rfl,⟨rfl,rfl,rfl,rfl,trivial⟩,trivial,rfl⟩
 ·have e:j=E.length:=by omega
  subst e;rw[List.drop_length] at gH;rw[show uX [] de = -1 from rfl] at gH;rw[gH];(refine eK ?_)
  ((refine bk rfl (aY rfl aM) ?_))
  exact ag.aU.refl _
theorem aik{E:List (Int×bN)}(ao:E.length≤4611686018427387904):aO ah 107 [sX E,MD] (bl (!jD (E.map Prod.snd))):=by
 have gz:=aiC ao;rw[←Po E 0 (by decide)];refine bo (f:=107) Tryz.func107 rfl rfl rfl rfl ?_;(refine cK ?_)
 ((refine bk rfl (aY rfl aM) ?_))
 exact ag.aU.refl _
theorem Tc{E:List (Int×bN)}(ao:E.length≤4611686018427387904):aO ah 59 [sX E] (bl (jD (E.map Prod.snd))):=by
 have gz:=aik ao;have e:jD (E.map Prod.snd) = !(!jD (E.map Prod.snd)):=(Bool.not_not _).symm;rw[e];generalize (!jD (E.map Prod.snd))=q at *;refine bo (f:=59) Tryz.func59 rfl rfl rfl rfl ?_;(refine cK ?_)
 ((refine bk rfl (aY rfl aM) ?_))
 exact ag.aU.refl _
theorem Te{E:List (Int×bN)}(ao:E.length≤900000):aO ah 61 [sX E] (sX E):=by
 refine bo (f:=61) Tryz.func61 rfl rfl rfl rfl ?_;(refine eK ?_);refine Zj 4 rfl ?_;intro b aa;cases b with
 | true =>
  have aE:=mZ (aa rfl);subst aE;clear aa;(refine eK ?_)
  ((refine bk rfl (aY rfl aM) ?_))
  exact Lh 5
 | false =>
  clear aa;have z0:0+E.length=E.length:=ib _;(repeat first|(with_reducible apply YO);rfl;rfl|(with_reducible apply NC);(iterate 3 rfl);(exact iP (by omega));(omega);(assumption);(rfl);rfl|refine dc ?_)
  ((refine bk rfl (aY rfl aM) ?_))
  exact ag.aU.refl _
section
variable{P:Program}{f:FuncId}{args:List ag}{cs:List AC}{R0:aF}{Q:ag→List AC→aF→Prop}
theorem cg.at(k:Nat)(h:cg P f (nT::args) (cH 1000 cs) R0 (nh 1000 Q))(dx:args.all ag.aW=true)(ak:cs.all AC.aW=true)(aj:∀bx ds ap,Q bx ds ap→bx.aW=true∧ds.all AC.aW=true):cg P f (.w (.one (.own k 0))::args) (cH k cs) R0 (nh k Q):=by
 have h1:=h.bg (lZ 1000 k) (bS:=fun j=>j) (jQ:=fun j=>j) (fun _=>rfl) (fun _=>rfl)
 have aH:(ag.w (.one (.own 1000 0))::args).map (ag.bg (swp 1000 k)) = .w (.one (.own k 0))::args:=by
  have aN:args.map (ag.bg (swp 1000 k))=args:=by
   conv=>rhs;rw[←List.map_id args]
   exact nM fun x ab=>vF (bZ.1 dx x ab)
  rw[hO,aN];show ag.w (.one (.own (swp 1000 k 1000) 0))::args=_;rw[show swp 1000 k 1000=k by unfold swp;simp]
 rw[aH,y1 ak] at h1;refine⟨fun U ad W vs cb c9 cO=>(h1.call U ad W vs cb c9 cO).mono ?_⟩;rintro cr W' ⟨v,r,aI,ap,aV,cl,c4,⟨cp,m1,bd,⟨ds,rfl,nC⟩,rfl,rfl,rfl⟩,iV⟩;obtain⟨c1,c2⟩:=aj _ _ _ nC;rw[y1 c2,vF c1] at iV;exact⟨v,cp,cH k ds,bd,aV,cl,c4,⟨ds,rfl,nC⟩,iV⟩
end
def rB(k:Int):Nat:=(if k<0 then 0 else if 28<k then 28 else k).toNat
def rC(n:Int):Nat:=(rE n).toNat
theorem Un(n:Int):((rC n:Nat):Int)=rE n:=by unfold rC rE;(repeat split) <;> omega
theorem ajP(k:Int):((rB k:Nat):Int)=if 28<(if 0>k then 0 else k) then 28 else(if 0>k then 0 else k):=by unfold rB;(repeat split) <;> omega
abbrev iQ:Value := .slice none 0 0
theorem Sv{b:Nat}{S:dV}{q:bE}:eo b S iQ iQ iQ [] [] []=upd (upd (upd (upd (upd dP 1 ⟨50,2,iQ,0,[]⟩) 2 ⟨50,2,iQ,0,[]⟩) 3 ⟨53,2,iQ,0,[]⟩) 0 q) 0 (fp (bJ b) S):=by
 funext i
 match i with
 | 0=>rfl
 | 1=>rfl
 | 2=>rfl
 | 3=>rfl
 | i+4=>rfl
theorem ae2{E:List (Int×bN)}{k n:Int}(al:E.length≤300)(h:jD (E.map Prod.snd)=true):cg ah 16 [sX E,aL k,aL n] bC dP fun bx aI ap=>∃cs,bx = .w (.one (.own 24 0))∧aI=cH 24 cs∧ek E (rB k) (rC n) (iA (bt E (rB k) (rC n))) cs ap:=by
 have a7:=Tc (E:=E) (by omega);rw[h] at a7;have bK:=Rv n;have dZ:=Te (E:=E) (by omega);have hX:=ajP k
 by_cases aE:E=[]
 ·subst aE;refine cG (f:=16) Tryz.func16 rfl (cn rfl) (by exact jW) ?_;refine nO 1 50 2 rfl ?_;refine nO 2 50 2 rfl ?_;refine nO 3 53 2 rfl ?_;(refine oB ?_);refine Kr 0 rfl rfl rfl rfl bK rfl rfl (fun p S jA => ?_);obtain⟨b,rfl,hS⟩:=jA;rw[←Un n] at hS;have js:=Rx _ _ _ _ hS (by decide);(refine oB ?_);refine vi 0 rfl rfl rfl rfl js rfl rfl rfl (fun v S' h => ?_);obtain⟨rfl,ey⟩:=h;(refine aT ?_);have o9:=cg.at 24 (KN (E:=[]) (k:=(rB k:Int)) (rm:=(rC n:Int)) (ph:=0) (I:=0) (J:=0) (T:=0) (dirty:=false) (hv:=iQ) (fv:=iQ) (cv:=iQ) (b:=b) (lk := .c iQ) rfl 4) rfl rfl (fun bx ds ap h=>by obtain⟨rfl,rfl,_⟩:=h;exact⟨rfl,rfl⟩);rw[←hX];refine kz 24 rfl rfl rfl rfl o9 rfl rfl rfl rfl rfl ?_;(refine aT ?_)
  ((refine yB 24 rfl (aY rfl aM) rfl (bc.of_eq Sv) rfl rfl ?_))
  exact⟨_,rfl,rfl,iQ,iQ,iQ,b,S',.c iQ,ey,rfl,fun h=>(by cases h),rfl,rfl⟩
 ·have fB:¬(E.length:Int)=0:=fun aZ=>aE (mZ (by omega));refine cG (f:=16) Tryz.func16 rfl (cn rfl) (by exact jW) ?_;refine nO 1 50 2 rfl ?_;refine nO 2 50 2 rfl ?_;refine nO 3 53 2 rfl ?_;(refine oB ?_);refine Kr 0 rfl rfl rfl rfl bK rfl rfl (fun p S jA => ?_);obtain⟨b,rfl,hS⟩:=jA;rw[←Un n] at hS;have js:=Rx _ _ _ _ hS (by decide);(refine oB ?_);refine vi 0 rfl rfl rfl rfl js rfl rfl rfl (fun v S' h => ?_);obtain⟨rfl,ey⟩:=h;(refine aT ?_);rw[←hX]
  ((refine yB 24 rfl (aY rfl aM) rfl (bc.of_eq Sv) rfl rfl ?_))
  refine⟨_,rfl,rfl,iQ,iQ,iQ,b,S',.c iQ,ey,rfl,?_,?_,rfl⟩
  ·unfold iA;rw[if_neg (by rw[ik.n];omega)];intro h;cases h
  ·unfold iA;rw[if_neg (by rw[ik.n];omega)];rfl
def AR(a b c d e f a' b4 c' d' e' mf:Int):Bool:=decide (a=a')&&(decide (b=b4)&&(decide (c=c')&&(decide (d=d')&&(decide (e=e')&&decide (f=mf)))))
theorem aaI(n:Nat)(a b c d e f a' b4 c' d' e' mf:Int)(W:World):(Op.equalIn (n+1+1) 121 (.agg #[.int .i64 a,.int .i64 b,.int .i64 c,.int .i64 d,.int .i64 e,.int .i64 f]) (.agg #[.int .i64 a',.int .i64 b4,.int .i64 c',.int .i64 d',.int .i64 e',.int .i64 mf])).run ah W = .ok (AR a b c d e f a' b4 c' d' e' mf) W:=by
 have hu:ah.underlying 121=some (.array 6 3):=by kernel_rfl
 have hi:ah.underlying 3=some (.int .i64):=by kernel_rfl
 obtain⟨m,hm⟩:∃m,m=n+1:=⟨_,rfl⟩;rw[←hm,Op.equalIn];simp only[Sem.run_bind,run_underlying hu,Result.andThen_ok];rw[hm];have aS:(sizeOf 3).run ah W = .ok 1 W:=by go_simp
 have hp:∀(xs:Array Value) (off:Nat) (v:Value),xs[off]?=some v→(part 3 xs off).run ah W = .ok v W:=fun xs off v h=>by
  have aX:(isAgg 3).run ah W = .ok false W:=by
   unfold isAgg;simp only[Sem.run_bind,run_underlying hi,Result.andThen_ok,Sem.run_pure]
  unfold part;simp only[Sem.run_bind,aX,Result.andThen_ok,pz,if_false,h,Sem.run_pure]
 simp only[aS,Result.andThen_ok];rw[Std.Legacy.Range.forIn_eq_forIn_range'];unfold AR;have oW:=hp #[.int .i64 a,.int .i64 b,.int .i64 c,.int .i64 d,.int .i64 e,.int .i64 f] (0*1) (.int .i64 a) rfl;have c4:=hp #[.int .i64 a',.int .i64 b4,.int .i64 c',.int .i64 d',.int .i64 e',.int .i64 mf] (0*1) (.int .i64 a') rfl;have p1:=hp #[.int .i64 a,.int .i64 b,.int .i64 c,.int .i64 d,.int .i64 e,.int .i64 f] (1*1) (.int .i64 b) rfl;have q1:=hp #[.int .i64 a',.int .i64 b4,.int .i64 c',.int .i64 d',.int .i64 e',.int .i64 mf] (1*1) (.int .i64 b4) rfl;have p2:=hp #[.int .i64 a,.int .i64 b,.int .i64 c,.int .i64 d,.int .i64 e,.int .i64 f] (2*1) (.int .i64 c) rfl;have q2:=hp #[.int .i64 a',.int .i64 b4,.int .i64 c',.int .i64 d',.int .i64 e',.int .i64 mf] (2*1) (.int .i64 c') rfl;have p3:=hp #[.int .i64 a,.int .i64 b,.int .i64 c,.int .i64 d,.int .i64 e,.int .i64 f] (3*1) (.int .i64 d) rfl;have q3:=hp #[.int .i64 a',.int .i64 b4,.int .i64 c',.int .i64 d',.int .i64 e',.int .i64 mf] (3*1) (.int .i64 d') rfl;have p4:=hp #[.int .i64 a,.int .i64 b,.int .i64 c,.int .i64 d,.int .i64 e,.int .i64 f] (4*1) (.int .i64 e) rfl;have q4:=hp #[.int .i64 a',.int .i64 b4,.int .i64 c',.int .i64 d',.int .i64 e',.int .i64 mf] (4*1) (.int .i64 e') rfl;have xm:=hp #[.int .i64 a,.int .i64 b,.int .i64 c,.int .i64 d,.int .i64 e,.int .i64 f] (5*1) (.int .i64 f) rfl;have lV:=hp #[.int .i64 a',.int .i64 b4,.int .i64 c',.int .i64 d',.int .i64 e',.int .i64 mf] (5*1) (.int .i64 mf) rfl;rw[show List.range' [:6].start [:6].size [:6].step=[0,1,2,3,4,5] from rfl];simp only[List.forIn_cons,List.forIn_nil,Sem.run_bind,oW,c4,p1,q1,p2,q2,p3,q3,p4,q4,xm,lV,Result.andThen_ok,run_equalIn_int W n _ .i64 .i64 _ _ hi]
 by_cases aX:a=a'
 case neg=>simp[aX]
 subst aX;simp only[beq_self_eq_true,Bool.not_true,pz,if_false,Sem.run_pure,Sem.run_bind,oW,c4,p1,q1,p2,q2,p3,q3,p4,q4,xm,lV,Result.andThen_ok,run_equalIn_int W n _ .i64 .i64 _ _ hi]
 by_cases aa:b=b4
 case neg=>simp[aa]
 subst aa;simp only[beq_self_eq_true,Bool.not_true,pz,if_false,Sem.run_pure,Sem.run_bind,oW,c4,p1,q1,p2,q2,p3,q3,p4,q4,xm,lV,Result.andThen_ok,run_equalIn_int W n _ .i64 .i64 _ _ hi]
 by_cases ak:c=c'
 case neg=>simp[ak]
 subst ak;simp only[beq_self_eq_true,Bool.not_true,pz,if_false,Sem.run_pure,Sem.run_bind,oW,c4,p1,q1,p2,q2,p3,q3,p4,q4,xm,lV,Result.andThen_ok,run_equalIn_int W n _ .i64 .i64 _ _ hi]
 by_cases hd:d=d'
 case neg=>simp[hd]
 subst hd;simp only[beq_self_eq_true,Bool.not_true,pz,if_false,Sem.run_pure,Sem.run_bind,oW,c4,p1,q1,p2,q2,p3,q3,p4,q4,xm,lV,Result.andThen_ok,run_equalIn_int W n _ .i64 .i64 _ _ hi]
 by_cases he:e=e'
 case neg=>simp[he]
 subst he;simp only[beq_self_eq_true,Bool.not_true,pz,if_false,Sem.run_pure,Sem.run_bind,oW,c4,p1,q1,p2,q2,p3,q3,p4,q4,xm,lV,Result.andThen_ok,run_equalIn_int W n _ .i64 .i64 _ _ hi]
 by_cases aw:f=mf
 case neg=>simp[aw]
 subst aw;simp only[beq_self_eq_true,Bool.not_true,pz,if_false,Sem.run_pure,Sem.run_bind,oW,c4,p1,q1,p2,q2,p3,q3,p4,q4,xm,lV,Result.andThen_ok,run_equalIn_int W n _ .i64 .i64 _ _ hi];simp
abbrev v6(a b c d e f:Int):ag := .w (.agg [.c (.int .i64 a),.c (.int .i64 b),.c (.int .i64 c),.c (.int .i64 d),.c (.int .i64 e),.c (.int .i64 f)])
theorem aaJ:ah.eqGuardType ah.depth 121=false:=by kernel_rfl
theorem Yn{s:aB}{ops:Array Oper}{K:aB→Prop}{rest:List Oper}{ty:Nat}{pos:String}{after:Array Edge}{guard:Option (Nat×Bool)}{o dN:Nat}{x y:Operand}{a b c d e f a' b4 c' d' e' mf:Int}(hw:want ops ⟨some o,.binOp .eql 121 x y dN,ty,pos,after,guard⟩ s=some true)(ab:s.look x=some (v6 a b c d e f))(ai:s.look y=some (v6 a' b4 c' d' e' mf))(hd:Nat.blt o s.n=true)(h:bm ah ops K rest (s.put (some o) (bl (AR a b c d e f a' b4 c' d' e' mf)))):bm ah ops K (⟨some o,.binOp .eql 121 x y dN,ty,pos,after,guard⟩::rest) s :=
 wm hw ab ai rfl rfl (fun W=>EA aaJ) (fun W=>by rw[run_eql_struct,show (10000:Nat)=9998+1+1 from rfl,aaI];rfl) rfl hd h
abbrev alQ(k rm ph I J T:Int)(dirty:Bool)(hot fnd:List aq)(ch:List (List aq×List Int)):List AC:=[.c (.int .i64 k),.c (.int .i64 rm),.c (.int .i64 ph),.c (.int .i64 I),.c (.int .i64 J),.c (.int .i64 T),.c (.bool dirty),.p (b3 2 hot.length (bY hot)),.p (b3 2 fnd.length (bY fnd)),.p (b3 2 ch.length (eB ch))]
abbrev Db(k rm ph I J T:Int)(dirty:Bool)(hot fnd:List aq)(ch:List (List aq×List Int)):ag := .w (.agg (alQ k rm ph I J T dirty hot fnd ch))
theorem aiQ{k rm ph I J T:Int}{dirty:Bool}{hot fnd:List aq}{ch:List (List aq×List Int)}:aO ah 92 [Db k rm ph I J T dirty hot fnd ch] (v6 k rm ph I J T):=by
 refine bo (f:=92) Tryz.func92 rfl rfl rfl rfl ?_;(refine eK ?_)
 ((refine bk rfl (c6 rfl rfl rfl aM) ?_))
 exact ag.aU.refl _
abbrev MC:ag:=aQ (.func (.func 95) #[] #[])
def WT(L M:List (List aq×List Int))(k:Nat)(az:List (Nat×ag))(aR:List (Nat×List AC)):Prop :=
 ∃(i:Nat) (ii:Int),i≤L.length∧k=L.length-i∧ii=i∧aR=[]∧az=[(1,rI M),(2,MC),(15,rI L),(16,aL L.length),(17,aL ii)]
theorem ahE{L M:List (List aq×List Int)}(ak:jS L)(Js:L=M):aO ah 94 [rI L,rI M,MC] (bl true):=by
 have hlen:=ak.1;have h0:(L.length:Int)=M.length:=by rw[Js]
 refine bo (f:=94) Tryz.func94 rfl rfl rfl rfl ?_;(refine eK ?_);refine oE 32 (WT L M) L.length _ [] ⟨0,0,dk _,rfl,rfl,rfl,rfl⟩ rfl ⟨rfl,rfl,rfl,rfl,rfl,trivial⟩ trivial rfl ?_;rintro n az aR ⟨j,de,af,rfl,jy,rfl,rfl⟩ bz;clear bz
 by_cases hp:j<L.length
 ·have p2:de<(L.length:Int):=by omega
  have p3:0≤de:=by omega
  have p4:de<(M.length:Int):=by omega
  obtain⟨V,D,g1⟩:∃V D,L[j]?=some (V,D):=⟨_,_,bB hp⟩;have g2:M[j]?=some (V,D):=by rw[←Js];exact g1
  obtain⟨jw,gA⟩:=ak.2 _ (cM g1);simp only at jw gA;have jt:=yg jy g1;have pa:=yg jy g2;have a7:=ae6 V V D D gA (by omega) gA (by omega);rw[b5 rfl,b5 rfl] at a7;clear Js;(refine cK ?_);exact⟨L.length-(j+1),_,[],by omega,⟨j+1,de+1,hp,rfl,by omega,rfl,rfl⟩,rfl,⟨rfl,rfl,rfl,rfl,rfl,trivial⟩,trivial,rfl⟩
 ·have p2:¬de<(L.length:Int):=by omega
  (refine eK ?_)
  ((refine bk rfl (aY rfl aM) ?_))
  exact ag.aU.refl _
theorem ahD{L:List (List aq×List Int)}(ak:jS L):aO ah 94 [rI L,rI L,MC] (bl true):=ahE ak rfl
theorem ahY{k rm ph I J T:Int}{dirty:Bool}{hot fnd:List aq}{ch:List (List aq×List Int)}(aZ:hot.length≤1000000)(aw:fnd.length≤1000000)(ak:jS ch):aO ah 33 [Db k rm ph I J T dirty hot fnd ch,Db k rm ph I J T dirty hot fnd ch] (bl true):=by
 have a7:=aiQ (k:=k) (rm:=rm) (ph:=ph) (I:=I) (J:=J) (T:=T) (dirty:=dirty) (hot:=hot) (fnd:=fnd) (ch:=ch);have bK:=Ls (D:=hot) (E:=hot) aZ;have dZ:=Ls (D:=fnd) (E:=fnd) aw;have js:=ahD ak;rw[b5 rfl] at bK dZ;have fb:AR k rm ph I J T k rm ph I J T=true:=by unfold AR;simp
 refine bo (f:=33) Tryz.func33 rfl rfl rfl rfl ?_;(refine cK ?_);refine Yn rfl rfl rfl rfl ?_;rw[fb];have oG:(dirty==dirty)=true:=by simp
 have anq:decide (dirty=dirty)=true:=by simp
 (refine cK ?_)
 ((refine bk rfl (aY rfl aM) ?_))
 exact ag.aU.refl _
end Go.Proofs.YtklpfooafbjnpaaGreat
