/-
  My own texts,without what this claim does not need. My own text.
-/
import Derived.Test.YtklpfooafbjnpaaGreatSLRoomsK15
set_option maxRecDepth 100000
set_option maxHeartbeats 64000000
set_option linter.unusedVariables false
set_option linter.unusedSimpArgs false
set_option linter.unusedSectionVars false
open Go.Proofs.Tryz renaming prog → ah
namespace Go.Proofs.YtklpfooafbjnpaaGreat
open Go.RowKit
open bw
section
variable{E:List (Int×bP)}{r rm:Nat}
theorem UB{b:Nat}{S:dY}{hv fv cv v:Value}{hot fnd:List aq}{ch l:List (List aq×List Int)}:upd (eo b S hv fv cv hot fnd ch) 3 (wI v l)=eo b S hv fv v hot fnd l:=by
  funext i
  match i with
  | 0=>rfl
  | 1=>rfl
  | 2=>rfl
  | 3=>rfl
  | i+4=>rfl
theorem OG{ch:List (List aq×List Int)}{i:Nat}{ii:Int}{V:List aq}{D:List Int}(hi:ii=i)(h:i<ch.length):eP (eB ch) (ii.toNat*2) [.p (b4 2 V.length (bZ V)),.p (b4 1 D.length (cK D))]=eB (ch.set i (V,D)):=by
  subst hi;rw[kH];have e:ch=ch.take i++ch[i]::ch.drop (i+1):=by rw[←jP h,kh]
  have al:(eB (ch.take i)).length=i*2:=by
    have:=EW (f:=qZ) (z:=2) (fun _=>rfl) (ch.take i);unfold eB;rw[this,ea,qA (by omega)]
  have aH:eB ch=eB (ch.take i)++(qZ ch[i]++eB (ch.drop (i+1))):=(congrArg eB e).trans (by unfold eB;rw[sY,List.flatMap_cons]);rw[aH,Mt al,List.set_eq_take_append_cons_drop,if_pos h];simp[eB,qZ]
theorem abe{p q:aq}{bq:List aq}(aA:bq.Nodup):jR (ec (decide ((2:Int)^r*q.1<2^r*p.1)) (decide ((2:Int)^r*q.2<2^r*p.2))) bq=gq p q bq:=by
  rw[EU,EU];exact alS aA (by rw[List.filter_eq_self.2 (fun _ _=>rfl)])
theorem afS{s:bw.bf aq}{V:List aq}{D:List Int}{p q x:aq}(ao:r≤28)(ak:jW s.ch)(g1:s.ch[s.I]?=some (V,D))(g2:V[s.J]?=some p)(g3:V[s.J+1]?=some q)(g4:s.hot[s.T]?=some x)(e3:∀d∈D,1≤d∧d≤1048576)
    (hp:dZ r p.1 p.2=true) (aj:dZ r q.1 q.2=true) (hd:s.dirty=false) (aZ:s.hot.length≤1024) (Fw:s.fnd.length≤1024) (vj:(mJ (bo E r rm) p q x s.fnd).Nodup) (h7:s.ph=2):gU E r rm 74 [] s l0 (ud (bo E r rm) s (V,D) p q (mJ (bo E r rm) p q x s.fnd)):=by
  obtain⟨p1,p2⟩:=p;obtain⟨q1,q2⟩:=q;obtain⟨de,dj⟩:=x;obtain⟨iR,fE⟩:=ak.2 _ (cN g1);simp only at iR fE;have bh:=(bt.1 g1).1;have kX:=(bt.1 g3).1;have eS:=(bt.1 g4).1;have an:hj (r:Int) r:=⟨ao,.inr (.inr rfl)⟩;have a8:=LG (D:=D) g2 g3 (by omega);have bL:=ajb (E:=E.map Prod.snd) (R:=rm) ao (p:=(p1,p2)) (q:=(q1,q2)) (x:=(de,dj)) hp aj;have eb:=GB (uh an hp) (uh an aj);simp only at bL eb;have jx:=ahU (a1:=2^r*p1) (a2:=2^r*p2) (b1:=2^r*q1) (b2:=2^r*q2);obtain⟨kP,pd⟩:=AP (ii:=(s.I:Int)) rfl g1;have Xd:=aeJ (ii:=(s.T:Int)) rfl g4;have i0:(0:Int)≤(s.I:Int):=by omega
  have i1:(s.I:Int)<(s.ch.length:Int):=by omega
  have i2:0<s.ch.length:=by omega
  have t0:(0:Int)≤(s.T:Int):=by omega
  have t1:(s.T:Int)<(s.hot.length:Int):=by omega
  have t2:0<s.hot.length:=by omega
  have ach:(s.J:Int)≤1100:=by omega
  have ct:=ak.1
 
  have split:∀bq:List aq,bq=mJ (bo E r rm) (p1,p2) (q1,q2) (de,dj) s.fnd→bq≠[]→bq.length≤1100→aP ah 140 [fD bq,x0 (decide ((2:Int)^r*q1<2^r*p1)) (decide ((2:Int)^r*q2<2^r*p2))] (fD (gq (p1,p2) (q1,q2) bq)) ∧
      aP ah 139 [oF V D,aL s.J,fD (gq (p1,p2) (q1,q2) bq)] (.cl [.agg [.p (b4 2 (bw.dD V s.J (gq (p1,p2) (q1,q2) bq)).length (bZ (bw.dD V s.J (gq (p1,p2) (q1,q2) bq)))),.p (b4 1 (eL D s.J bq.length).length (cK (eL D s.J bq.length)))],.one (.c (.bool true))]):=by
    intro bq vk cA adk;have aA:bq.Nodup:=by rw[vk];exact vj
    have hlen:(gq (p1,p2) (q1,q2) bq).length=bq.length:=(Dd _ _ bq).length_eq;refine⟨?_,?_⟩
    · have:=aip (fx:=decide ((2:Int)^r*q1<2^r*p1)) (fy:=decide ((2:Int)^r*q2<2^r*p2)) 1100 bq adk (by omega)
      rw[abe (p:=(p1,p2)) (q:=(q1,q2)) aA] at this;exact this
    · have:=afo V D s.J (gq (p1,p2) (q1,q2) bq) iR fE (by omega) (by omega) e3
      have Kg:(gq (p1,p2) (q1,q2) bq).isEmpty=false:=by
        cases h:gq (p1,p2) (q1,q2) bq with
        | nil=>rw[h] at hlen;exact absurd (na hlen.symm) cA
        | cons a l=>rfl
      rw[Kg,hlen] at this;exact this
  rintro cs R kV;obtain⟨hv,fv,cv,b,S,lk,hS,dz,gZ,rfl,rfl⟩:=id kV;have dw:∀(I J T:Int) (fv:Value),(e4 E r rm s.ph I J T s.dirty hv fv cv b lk).all AC.aY=true:=fun I J T fv=>by simp only[kI,nP,dz];rfl
  unfold ud;simp only[show (bo E r rm).hD=gq from rfl];cases w6:kv (bo E r rm) (p1,p2) (q1,q2) (de,dj) with
  | true =>
    rw[w6] at bL;have I0:mJ (bo E r rm) (p1,p2) (q1,q2) (de,dj) s.fnd=s.fnd++[(de,dj)]:=by unfold mJ;rw[w6];rfl
    rw[I0] at split ⊢;have adl:(s.fnd++[(de,dj)]).length≤1100:=by rw[cZ,List.length_singleton];omega
    have cA:s.fnd++[(de,dj)]≠[]:=by simp
    obtain⟨pc,Ab⟩:=split _ rfl cA adl;clear split vj w6;refine cD (f:=74) Tryz.func74 rfl (cm rfl) (by exact dl rfl) ?_;(repeat first|(with_reducible apply dI (id:=1) [10,0,1,2,3,4,5,6,7,8,9,11]);kernel_rfl;kernel_rfl;rfl|(with_reducible apply dI (id:=2) [6,0,1,2,3,4,5,7]);kernel_rfl;kernel_rfl;rfl|(with_reducible apply dI (id:=3) [10,0,1,2,3,4,5,6,7,8,9,11]);kernel_rfl;kernel_rfl;rfl|(with_reducible apply dI (id:=4) [0,1,2,3,4,5,6]);kernel_rfl;kernel_rfl;rfl|(with_reducible apply hf (id:=5) [0,1,2,3,4,5,6,7,8,9,10] [3000048]);kernel_rfl;kernel_rfl;rfl|refine cc ?_|refine gz ?_|(with_reducible apply ky 1);(iterate 4 rfl);(omega);(assumption);rfl;kernel_rfl;rfl|(with_reducible apply ky 3);(iterate 4 rfl);(omega);(assumption);rfl;kernel_rfl;rfl|(with_reducible apply oP 1);(iterate 3 rfl);(assumption);assumption;rfl;kernel_rfl;rfl|(with_reducible apply oP 3);(iterate 3 rfl);(assumption);assumption;rfl;kernel_rfl;rfl);refine mT 2 rfl rfl rfl rfl ?q1 ?q2 rfl rfl (fun v1 jD => ?_)
    case q1=>exact js (by show s.fnd.length+1≤1000000;omega)
    case q2=>show (s.fnd.length+1)*16≤140737488355328;omega
    (repeat first|(with_reducible apply dI (id:=7) [0,1,2,3,4,5,6,7,8,9]);kernel_rfl;kernel_rfl;rfl|refine cc ?_|(with_reducible apply oO 1);(iterate 4 rfl);kernel_rfl;rfl);refine G5 (eo b S hv v1 cv s.hot (s.fnd++[(de,dj)]) s.ch) (bd.of_eq ake.symm) ?_
    by_cases ve:s.T+1<s.hot.length
    · rw[if_pos ve]
      have Bs:(s.T:Int)+1<(s.hot.length:Int):=by omega
      have gb:ek E r rm {s with fnd:=s.fnd++[(de,dj)],T:=s.T+1} (e4 E r rm s.ph s.I s.J ((s.T:Int)+1) s.dirty hv v1 cv b lk) (eo b S hv v1 cv s.hot (s.fnd++[(de,dj)]) s.ch):=⟨hv,v1,cv,b,S,lk,hS,dz,gZ,rfl,rfl⟩;(refine aR ?_)
      ((refine dF rfl aM rfl (bd.refl _) gb.closed rfl fJ ?_))
      exact⟨_,rfl,rfl,gb⟩
    · rw[if_neg ve,if_neg cA]
      have Bs:¬(s.T:Int)+1<(s.hot.length:Int):=by omega
      have Kg:¬((s.fnd++[(de,dj)]).length:Int)=0:=fun h=>cA (na (by omega));refine Vk 2 1000 9 (jL v1 (s.fnd++[(de,dj)])) rfl rfl rfl ?_;refine oE 2 50 2 rfl ?_
      refine G5 (eo b S hv (.slice none 0 0) cv s.hot [] s.ch) (fun k q ae=>by
        match k with
        | 0=>exact ae
        | 1=>exact ae
        | 2=>exact ae
        | 3=>exact ae
        | k+4=>cases ae) ?_
      have gb:ek E r rm {s with T:=0,fnd:=[],ch:=s.ch.set s.I (bw.dD V s.J (gq (p1,p2) (q1,q2) (s.fnd++[(de,dj)])),eL D s.J (s.fnd++[(de,dj)]).length)} (e4 E r rm s.ph s.I s.J 0 s.dirty hv (.slice none 0 0) cv b lk) (eo b S hv (.slice none 0 0) cv s.hot [] (s.ch.set s.I (bw.dD V s.J (gq (p1,p2) (q1,q2) (s.fnd++[(de,dj)])),eL D s.J (s.fnd++[(de,dj)]).length))):=⟨hv,_,cv,b,S,lk,hS,dz,(fun h=>absurd (h7.symm.trans (show s.ph=3 from h)) (by decide)),rfl,rfl⟩
      have lz:upd (eo b S hv (.slice none 0 0) cv s.hot [] s.ch) 3 ⟨53,2,cv,s.ch.length,eP (eB s.ch) ((s.I:Int).toNat*2) [.p (b4 2 (bw.dD V s.J (gq (p1,p2) (q1,q2) (s.fnd++[(de,dj)]))).length (bZ (bw.dD V s.J (gq (p1,p2) (q1,q2) (s.fnd++[(de,dj)]))))),.p (b4 1 (eL D s.J (s.fnd++[(de,dj)]).length).length (cK (eL D s.J (s.fnd++[(de,dj)]).length)))]⟩=eo b S hv (.slice none 0 0) cv s.hot [] (s.ch.set s.I (bw.dD V s.J (gq (p1,p2) (q1,q2) (s.fnd++[(de,dj)])),eL D s.J (s.fnd++[(de,dj)]).length)):=by
        rw[OG rfl bh,show s.ch.length=(s.ch.set s.I (bw.dD V s.J (gq (p1,p2) (q1,q2) (s.fnd++[(de,dj)])),eL D s.J (s.fnd++[(de,dj)]).length)).length from(List.length_set ..).symm];exact UB
      generalize y3:bw.dD V s.J (gq (p1,p2) (q1,q2) (s.fnd++[(de,dj)]))=ND at *;generalize B2:eL D s.J (s.fnd++[(de,dj)]).length=x6 at *;generalize Rd:gq (p1,p2) (q1,q2) (s.fnd++[(de,dj)])=L' at *;(repeat first|(with_reducible apply hf (id:=12) [0,1,2,3,4,5,6,7,8,9,10,11,12,13,14,15,16,17,18,19,20,21,22,23,24,25,26,27,28,29,30,31,32] [4000000]);kernel_rfl;kernel_rfl;rfl|refine cc ?_|refine gz ?_|(with_reducible apply ky 3);(iterate 4 rfl);(omega);(assumption);rfl;kernel_rfl;rfl);refine yZ 3 rfl rfl rfl rfl i2 rfl rfl kP.1 rfl ?_;(refine aR ?_)
      ((refine dF rfl aM rfl (bd.of_eq lz.symm) gb.closed rfl fJ ?_))
      exact⟨_,rfl,rfl,gb⟩
  | false =>
    rw[w6] at bL;have I0:mJ (bo E r rm) (p1,p2) (q1,q2) (de,dj) s.fnd=s.fnd:=by unfold mJ;rw[w6];rfl
    rw[I0] at split ⊢;have anF:=eS
    by_cases cA:s.fnd=[]
    · clear split vj w6
      have cz:({s with fnd:=s.fnd}:bw.bf aq)=s:=rfl;have aF:(s.fnd.length:Int)=0:=by rw[cA];rfl
      have eV:=RV (E:=E) (r:=r) (rm:=rm) (s:={s with T:=0,fnd:=[],J:=s.J+1}) hd rfl ak bh (by show s.J+1≤1100;omega) h7;have kW:ek E r rm {s with T:=0,fnd:=[],J:=s.J+1} (e4 E r rm s.ph s.I ((s.J:Int)+1) 0 s.dirty hv fv cv b lk) (eo b S hv fv cv s.hot s.fnd s.ch):=⟨hv,fv,cv,b,S,lk,hS,dz,gZ,rfl,by rw[cA]⟩
      by_cases ve:s.T+1<s.hot.length
      · rw[if_pos ve]
        have Bs:(s.T:Int)+1<(s.hot.length:Int):=by omega
        have gb:ek E r rm {s with fnd:=s.fnd,T:=s.T+1} (e4 E r rm s.ph s.I s.J ((s.T:Int)+1) s.dirty hv fv cv b lk) (eo b S hv fv cv s.hot s.fnd s.ch):=⟨hv,fv,cv,b,S,lk,hS,dz,gZ,rfl,rfl⟩;refine cD (f:=74) Tryz.func74 rfl (cm rfl) (by exact dl rfl) ?_;(repeat first|(with_reducible apply dI (id:=1) [10,0,1,2,3,4,5,6,7,8,9,11]);kernel_rfl;kernel_rfl;rfl|(with_reducible apply dI (id:=2) [6,0,1,2,3,4,5,7]);kernel_rfl;kernel_rfl;rfl|(with_reducible apply dI (id:=3) [10,0,1,2,3,4,5,6,7,8,9,11]);kernel_rfl;kernel_rfl;rfl|(with_reducible apply dI (id:=4) [0,1,2,3,4,5,6]);kernel_rfl;kernel_rfl;rfl|(with_reducible apply dI (id:=7) [0,1,2,3,4,5,6,7,8,9]);kernel_rfl;kernel_rfl;rfl|refine cc ?_|refine gz ?_|(with_reducible apply oO 1);(iterate 4 rfl);kernel_rfl;rfl|(with_reducible apply ky 1);(iterate 4 rfl);(omega);(assumption);rfl;kernel_rfl;rfl|(with_reducible apply ky 3);(iterate 4 rfl);(omega);(assumption);rfl;kernel_rfl;rfl|(with_reducible apply oP 1);(iterate 3 rfl);(assumption);assumption;rfl;kernel_rfl;rfl|(with_reducible apply oP 3);(iterate 3 rfl);(assumption);assumption;rfl;kernel_rfl;rfl)
        ((refine dF rfl aM rfl (bd.refl _) gb.closed rfl fJ ?_))
        exact⟨_,rfl,rfl,gb⟩
      · rw[if_neg ve,if_pos cA]
        have Bs:¬(s.T:Int)+1<(s.hot.length:Int):=by omega
        refine cD (f:=74) Tryz.func74 rfl (cm rfl) (by exact dl rfl) ?_;(repeat first|(with_reducible apply dI (id:=1) [10,0,1,2,3,4,5,6,7,8,9,11]);kernel_rfl;kernel_rfl;rfl|(with_reducible apply dI (id:=2) [6,0,1,2,3,4,5,7]);kernel_rfl;kernel_rfl;rfl|(with_reducible apply dI (id:=3) [10,0,1,2,3,4,5,6,7,8,9,11]);kernel_rfl;kernel_rfl;rfl|(with_reducible apply dI (id:=4) [0,1,2,3,4,5,6]);kernel_rfl;kernel_rfl;rfl|(with_reducible apply dI (id:=7) [0,1,2,3,4,5,6,7,8,9]);kernel_rfl;kernel_rfl;rfl|refine cc ?_|refine gz ?_|(with_reducible apply oO 1);(iterate 4 rfl);kernel_rfl;rfl|(with_reducible apply oO 2);(iterate 4 rfl);kernel_rfl;rfl|(with_reducible apply ky 1);(iterate 4 rfl);(omega);(assumption);rfl;kernel_rfl;rfl|(with_reducible apply ky 3);(iterate 4 rfl);(omega);(assumption);rfl;kernel_rfl;rfl|(with_reducible apply oP 1);(iterate 3 rfl);(assumption);assumption;rfl;kernel_rfl;rfl|(with_reducible apply oP 3);(iterate 3 rfl);(assumption);assumption;rfl;kernel_rfl;rfl);refine kb rfl rfl rfl rfl rfl rfl rfl rfl eV kW (fun ay ap Jw => ?_);(refine aR ?_);obtain⟨FP,E0,ED,dh,Ar,F9,Fc,FC,FB,rfl,rfl⟩:=id Jw
        ((refine dF rfl aM rfl (bd.refl _) Jw.closed rfl fJ ?_))
        exact⟨_,rfl,rfl,Jw⟩
    obtain⟨pc,Ab⟩:=split _ rfl cA (by omega);clear split vj w6;refine cD (f:=74) Tryz.func74 rfl (cm rfl) (by exact dl rfl) ?_;(repeat first|(with_reducible apply dI (id:=1) [10,0,1,2,3,4,5,6,7,8,9,11]);kernel_rfl;kernel_rfl;rfl|(with_reducible apply dI (id:=2) [6,0,1,2,3,4,5,7]);kernel_rfl;kernel_rfl;rfl|(with_reducible apply dI (id:=3) [10,0,1,2,3,4,5,6,7,8,9,11]);kernel_rfl;kernel_rfl;rfl|(with_reducible apply dI (id:=4) [0,1,2,3,4,5,6]);kernel_rfl;kernel_rfl;rfl|(with_reducible apply dI (id:=7) [0,1,2,3,4,5,6,7,8,9]);kernel_rfl;kernel_rfl;rfl|refine cc ?_|refine gz ?_|(with_reducible apply oO 1);(iterate 4 rfl);kernel_rfl;rfl|(with_reducible apply ky 1);(iterate 4 rfl);(omega);(assumption);rfl;kernel_rfl;rfl|(with_reducible apply ky 3);(iterate 4 rfl);(omega);(assumption);rfl;kernel_rfl;rfl|(with_reducible apply oP 1);(iterate 3 rfl);(assumption);assumption;rfl;kernel_rfl;rfl|(with_reducible apply oP 3);(iterate 3 rfl);(assumption);assumption;rfl;kernel_rfl;rfl)
    by_cases ve:s.T+1<s.hot.length
    · rw[if_pos ve]
      have Bs:(s.T:Int)+1<(s.hot.length:Int):=by omega
      have gb:ek E r rm {s with fnd:=s.fnd,T:=s.T+1} (e4 E r rm s.ph s.I s.J ((s.T:Int)+1) s.dirty hv fv cv b lk) (eo b S hv fv cv s.hot (s.fnd) s.ch):=⟨hv,fv,cv,b,S,lk,hS,dz,gZ,rfl,rfl⟩;(refine aR ?_)
      ((refine dF rfl aM rfl (bd.refl _) gb.closed rfl fJ ?_))
      exact⟨_,rfl,rfl,gb⟩
    · rw[if_neg ve,if_neg cA]
      have Bs:¬(s.T:Int)+1<(s.hot.length:Int):=by omega
      have Kg:¬((s.fnd).length:Int)=0:=fun h=>cA (na (by omega));refine Vk 2 1000 9 (jL fv (s.fnd)) rfl rfl rfl ?_;refine oE 2 50 2 rfl ?_
      refine G5 (eo b S hv (.slice none 0 0) cv s.hot [] s.ch) (fun k q ae=>by
        match k with
        | 0=>exact ae
        | 1=>exact ae
        | 2=>exact ae
        | 3=>exact ae
        | k+4=>cases ae) ?_
      have gb:ek E r rm {s with T:=0,fnd:=[],ch:=s.ch.set s.I (bw.dD V s.J (gq (p1,p2) (q1,q2) (s.fnd)),eL D s.J (s.fnd).length)} (e4 E r rm s.ph s.I s.J 0 s.dirty hv (.slice none 0 0) cv b lk) (eo b S hv (.slice none 0 0) cv s.hot [] (s.ch.set s.I (bw.dD V s.J (gq (p1,p2) (q1,q2) (s.fnd)),eL D s.J (s.fnd).length))):=⟨hv,_,cv,b,S,lk,hS,dz,(fun h=>absurd (h7.symm.trans (show s.ph=3 from h)) (by decide)),rfl,rfl⟩
      have lz:upd (eo b S hv (.slice none 0 0) cv s.hot [] s.ch) 3 ⟨53,2,cv,s.ch.length,eP (eB s.ch) ((s.I:Int).toNat*2) [.p (b4 2 (bw.dD V s.J (gq (p1,p2) (q1,q2) (s.fnd))).length (bZ (bw.dD V s.J (gq (p1,p2) (q1,q2) (s.fnd))))),.p (b4 1 (eL D s.J (s.fnd).length).length (cK (eL D s.J (s.fnd).length)))]⟩=eo b S hv (.slice none 0 0) cv s.hot [] (s.ch.set s.I (bw.dD V s.J (gq (p1,p2) (q1,q2) (s.fnd)),eL D s.J (s.fnd).length)):=by
        rw[OG rfl bh,show s.ch.length=(s.ch.set s.I (bw.dD V s.J (gq (p1,p2) (q1,q2) s.fnd),eL D s.J s.fnd.length)).length from(List.length_set ..).symm];exact UB
      generalize y3:bw.dD V s.J (gq (p1,p2) (q1,q2) (s.fnd))=ND at *;generalize B2:eL D s.J (s.fnd).length=x6 at *;generalize Rd:gq (p1,p2) (q1,q2) (s.fnd)=L' at *;(repeat first|(with_reducible apply hf (id:=12) [0,1,2,3,4,5,6,7,8,9,10,11,12,13,14,15,16,17,18,19,20,21,22,23,24,25,26,27,28,29,30,31,32] [4000000]);kernel_rfl;kernel_rfl;rfl|refine cc ?_|refine gz ?_|(with_reducible apply ky 3);(iterate 4 rfl);(omega);(assumption);rfl;kernel_rfl;rfl);refine yZ 3 rfl rfl rfl rfl i2 rfl rfl kP.1 rfl ?_;(refine aR ?_)
      ((refine dF rfl aM rfl (bd.of_eq lz.symm) gb.closed rfl fJ ?_))
      exact⟨_,rfl,rfl,gb⟩
end
section
variable{P:Program}{R:aE}{s:aB}{ops:Array Oper}{dr:Option (List Nat)}{ty:Nat}{pos:String}{after:Array Edge}{guard:Option (Nat×Bool)}{K:aE→aB→Prop}{rest:List Oper}
theorem BS{bs:List Value}{dst:Option Nat}{f:FuncId}{g:Operand}{az:Array TypeId}{l:List Operand}{args:List ag}{m0:Mem}{R0:aE}{Post:ag→Mem→aE→Prop} [E:Enters P f](hw:want ops ⟨dst,.call ⟨.value g,l.toArray,az⟩,ty,pos,after,guard⟩ s=some true)(hm:dA dr ⟨dst,.call ⟨.value g,l.toArray,az⟩,ty,pos,after,guard⟩=true)
  (aw:s.look g=some (aQ (.func (.func f) bs.toArray #[]))) (aa:bs.all El=true) (aV:bs.map (fun b=>some (zm b))++l.map s.look=args.map some) (hp:cg P f args m0 R0 Post) (aD:∀x∈args,∀j,x.owns j→∃cs,m0 j=some cs) (lx:∀k cs,m0 k=some cs→s.mem k=some cs∧(pL dr k=true∨∀r aI ap,Post r aI ap→aI k=some cs)) (ao:bd R0 R) (fu:∀k cs x j,m0 k=some cs→x∈cs→x.owns j→∃ay,m0 j=some ay) (hd:ks dst s.n=true)
  (h:∀r aI ap,Post r aI ap→(∀k ay,aI k=some ay→(∃cs,m0 k=some cs)∨(s.mem k=none∧k<s.n))∧cJ P ops dr K rest (bK ap R) ((s.over aI).put dst r)):cJ P ops dr K (⟨dst,.call ⟨.value g,l.toArray,az⟩,ty,pos,after,guard⟩::rest) R s:=by
 refine⟨true,hw,IP hd,.inr (.inr (.inr (.inr (.inl ⟨rfl,hm,f,args,m0,R0,Post,⟨⟨_,g,rfl,rfl,.inl ⟨bs,aw,?_,aa⟩⟩,E.h⟩,hp,aD,lx,ao,fu,fun r aI ap h1 _ _ _=>h r aI ap h1⟩))))⟩;simpa using aV
theorem ZD(g e off:Nat)(cs:List AC):oy g off=kK (ew g e cs).v off:=by
 show oy g off = .pointer (some ((⟨g,0,none⟩:Addr).add off));rw[D7,iF]
theorem px{x:Operand}{d lt off g e:Nat}{cs:List AC}{c1:AC}(i:Nat) [T:e7 P lt false 1](hi:R i=some (ew g e cs))(hw:want ops ⟨some d,.load lt x,ty,pos,after,guard⟩ s=some true)(ab:s.look x=some (aQ (oy g off)))(aT:cs[off]?=some c1)(ak:(ag.w (.one c1)).aY=true)(ao:vN ops dr (some d)=true)(hd:Nat.blt d s.n=true)(h:cJ P ops dr K rest R (s.put (some d) (.w (.one c1)))):cJ P ops dr K (⟨some d,.load lt x,ty,pos,after,guard⟩::rest) R s :=
 BU i hi hw (by rw[ab,ZD g e off cs]) Nat.one_pos aT ak ao hd h
end
theorem qc{P:Program}{fn:Func}{l:List ResultVar}{xs:List bG}{R R0 bg:aE}{s:aB}{Post:ag→Mem→aE→Prop}(ao:fn.results=l.toArray)(h:l.map (gS P s)=xs.map some)(an:bd bg R)(ab:(packed xs).aY=true)(aF:∀i r,R0 i=some r→∃bb,bg i=some bb)(hp:Post (packed xs) bB bg):tO P fn bB R0 Post R s :=
 ⟨xs,packed xs,bB,bg,by rw[ao];exact h,.refl _,hp,fun k c h=>(by cases h),an,fun j af=>absurd af (ag.c9 ab j),fun k c x j h=>(by cases h),fun k c h=>(by cases h),aF⟩
theorem ek.pU{E:List (Int×bP)}{r rm:Nat}{s:bw.bf aq}{cs:List AC}{R:aE}(h:ek E r rm s cs R):R 9=none∧cs.all AC.aY=true∧0<cs.length:=by
 refine⟨?_,h.closed,?_⟩
 ·obtain⟨_,_,_,_,_,_,_,_,_,_,rfl⟩:=h;rfl
 ·obtain⟨_,_,_,_,_,_,_,_,_,rfl,_⟩:=h;exact gE _
section
variable{E:List (Int×bP)}{r rm:Nat}
theorem G0{f:FuncId}{s s1:bw.bf aq}{v:ag}{cs:List AC}{R:aE}(tU:v.aY=true)(hp:gU E r rm f [] s v s1)(bh:ek E r rm s cs R)(g e:Nat):cg ah f [aQ (bJ g)] bB (upd R 9 (ew g e cs)) fun bz aI ap=>∃ay bg e',(bz=v∧ek E r rm s1 ay bg)∧aI=bB∧ap=upd bg 9 (ew g e' ay):=by
 have h:=(hp cs R bh).Hk 9 g e rfl bh.pU.2.1 bh.pU.2.2 bh.pU.1 (fun bz aI ap aj=>by
  obtain⟨ay,rfl,rfl,aj⟩:=aj;exact⟨tU,aj.pU.1,ay,rfl,aj.pU.2.1,aj.pU.2.2⟩)
 refine⟨fun U ad W vs cb da cM=>(h.call U ad W vs cb da cM).mono ?_⟩;rintro cz W' ⟨v1,cf,aI,ap,aW,cn,c5,⟨ay,bg,e',⟨ga,he,aj⟩,rfl,rfl⟩,iZ⟩
 have:ga=ay:=by
  have h1:cG 1000 ay 1000=some ay:=by unfold cG;exact bX _ _ _
  rw[he] at h1;exact(ib h1).2.symm
 subst this;exact⟨v1,cf,bB,_,aW,cn,c5,⟨ga,bg,e',aj,rfl,rfl⟩,iZ⟩
theorem GZ{f:FuncId}{args:List ag}{s s1:bw.bf aq}{v:ag}(tU:v.aY=true)(dy:args.all ag.aY=true)(h:∀cs R,ek E r rm s cs R→∀g e,cg ah f (aQ (bJ g)::args) bB (upd R 9 (ew g e cs)) fun bz aI ap=>∃ay bg e',(bz=v∧ek E r rm s1 ay bg)∧aI=bB∧ap=upd bg 9 (ew g e' ay)):gU E r rm f args s v s1:=by
 intro cs R bh;refine cg.V0 9 (fun g e => ?_) dy bh.pU.2.1 bh.pU.2.2 bh.pU.1 (fun bz ay ap aj => ?_)
 ·refine⟨fun U ad W vs cb da cM=>((h cs R bh g e).call U ad W vs cb da cM).mono ?_⟩;rintro cz W' ⟨v1,cf,aI,ap,aW,cn,c5,⟨ay,bg,e',aj,rfl,rfl⟩,iZ⟩;exact⟨v1,cf,bB,_,aW,cn,c5,⟨ay,bg,e',⟨ay,rfl,aj⟩,rfl,rfl⟩,iZ⟩
 ·obtain⟨ga,he,rfl,aj⟩:=aj
  have:ga=ay:=by
   have h1:cG 1000 ay 1000=some ay:=by unfold cG;exact bX _ _ _
   rw[he] at h1;exact(ib h1).2.symm
  subst this;exact⟨tU,aj.pU.1,aj.pU.2.1,aj.pU.2.2⟩
theorem GX{s s1:bw.bf aq}{cs ay:List AC}{R ap:aE}{g e e':Nat}(h:ek E r rm s cs R)(aK:ek E r rm s1 ay ap):∀i q,upd R 9 (ew g e cs) i=some q→∃cH,upd ap 9 (ew g e' ay) i=some cH:=by
 obtain⟨_,_,_,_,_,_,_,_,_,_,rfl⟩:=h;obtain⟨_,_,_,_,_,_,_,_,_,_,rfl⟩:=aK;intro i q aj
 by_cases lr:i=9
 ·subst lr;exact⟨_,bX _ _ _⟩
 ·rw[bN _ _ lr] at aj;obtain⟨cH,lS⟩:=fJ i q aj;exact⟨cH,by rw[bN _ _ lr];exact lS⟩
theorem GY{s s1:bw.bf aq}{cs ay:List AC}{R ap:aE}{g e e':Nat}(h:ek E r rm s cs R)(aK:ek E r rm s1 ay ap):bK (upd ap 9 (ew g e' ay)) (upd R 9 (ew g e cs))=upd ap 9 (ew g e' ay):=by
 have aD:=h.bK aK;funext i
 by_cases lr:i=9
 ·subst lr;exact(fC (bX _ _ _)).trans (bX _ _ _).symm
 ·have:bK ap R i=ap i:=congrFun aD i;unfold bK at this ⊢;rw[bN _ _ lr,bN _ _ lr];exact this
theorem aft{s s1:bw.bf aq}(h7:s.ph=0)(hp:gU E r rm 72 [] s l0 s1):gU E r rm 22 [] s (bl true) s1:=by
 refine GZ rfl rfl fun cs R bh g e => ?_;have a8:=G0 rfl hp bh g e;obtain⟨ph,I,J,T,dirty,hot,fnd,ch⟩:=s;obtain rfl:ph=0:=h7;obtain⟨hv,fv,cv,b,S,lk,hS,dz,gZ,rfl,rfl⟩:=id bh;refine cD (f:=22) Tryz.func22 rfl (cm rfl) (by exact jy) ?_;(refine aR ?_);refine px 9 rfl rfl rfl rfl rfl rfl rfl ?_;(refine aR ?_);refine px 9 rfl rfl rfl rfl rfl rfl rfl ?_;(refine aR ?_);refine BS (bs:=[bJ g]) (args:=[aQ (bJ g)]) (l:=[]) rfl rfl rfl rfl rfl a8 (fun x ab j af=>by simp at ab;subst ab;exact absurd af (gP _ j)) (fun k c h=>by cases h) (bd.refl _) (fun k c x j h=>by cases h) rfl (fun bz aI ap aj => ?_);obtain⟨ay,bg,e',⟨rfl,cd⟩,rfl,rfl⟩:=aj;refine⟨fun k c h=>(by cases h),?_⟩;rw[GY bh cd,sU];(refine aR ?_)
 ((refine qc rfl (aX rfl aM) (bd.refl _) rfl (GX bh cd) ?_))
 exact⟨ay,bg,e',⟨rfl,cd⟩,rfl,rfl⟩
theorem afu{s s1:bw.bf aq}(h7:s.ph=1)(hp:gU E r rm 73 [] s l0 s1):gU E r rm 22 [] s (bl true) s1:=by
 refine GZ rfl rfl fun cs R bh g e => ?_;have a8:=G0 rfl hp bh g e;obtain⟨ph,I,J,T,dirty,hot,fnd,ch⟩:=s;obtain rfl:ph=1:=h7;obtain⟨hv,fv,cv,b,S,lk,hS,dz,gZ,rfl,rfl⟩:=id bh;refine cD (f:=22) Tryz.func22 rfl (cm rfl) (by exact jy) ?_;(refine aR ?_);refine px 9 rfl rfl rfl rfl rfl rfl rfl ?_;(refine aR ?_);refine px 9 rfl rfl rfl rfl rfl rfl rfl ?_;(refine aR ?_);refine BS (bs:=[bJ g]) (args:=[aQ (bJ g)]) (l:=[]) rfl rfl rfl rfl rfl a8 (fun x ab j af=>by simp at ab;subst ab;exact absurd af (gP _ j)) (fun k c h=>by cases h) (bd.refl _) (fun k c x j h=>by cases h) rfl (fun bz aI ap aj => ?_);obtain⟨ay,bg,e',⟨rfl,cd⟩,rfl,rfl⟩:=aj;refine⟨fun k c h=>(by cases h),?_⟩;rw[GY bh cd,sU];(refine aR ?_)
 ((refine qc rfl (aX rfl aM) (bd.refl _) rfl (GX bh cd) ?_))
 exact⟨ay,bg,e',⟨rfl,cd⟩,rfl,rfl⟩
theorem afv{s s1:bw.bf aq}(h7:s.ph=2)(hp:gU E r rm 74 [] s l0 s1):gU E r rm 22 [] s (bl true) s1:=by
 refine GZ rfl rfl fun cs R bh g e => ?_;have a8:=G0 rfl hp bh g e;obtain⟨ph,I,J,T,dirty,hot,fnd,ch⟩:=s;obtain rfl:ph=2:=h7;obtain⟨hv,fv,cv,b,S,lk,hS,dz,gZ,rfl,rfl⟩:=id bh;refine cD (f:=22) Tryz.func22 rfl (cm rfl) (by exact jy) ?_;(refine aR ?_);refine px 9 rfl rfl rfl rfl rfl rfl rfl ?_;(refine aR ?_);refine px 9 rfl rfl rfl rfl rfl rfl rfl ?_;(refine aR ?_);refine BS (bs:=[bJ g]) (args:=[aQ (bJ g)]) (l:=[]) rfl rfl rfl rfl rfl a8 (fun x ab j af=>by simp at ab;subst ab;exact absurd af (gP _ j)) (fun k c h=>by cases h) (bd.refl _) (fun k c x j h=>by cases h) rfl (fun bz aI ap aj => ?_);obtain⟨ay,bg,e',⟨rfl,cd⟩,rfl,rfl⟩:=aj;refine⟨fun k c h=>(by cases h),?_⟩;rw[GY bh cd,sU];(refine aR ?_)
 ((refine qc rfl (aX rfl aM) (bd.refl _) rfl (GX bh cd) ?_))
 exact⟨ay,bg,e',⟨rfl,cd⟩,rfl,rfl⟩
theorem afw{s s1:bw.bf aq}(h7:s.ph=3)(hp:gU E r rm 75 [] s l0 s1):gU E r rm 22 [] s (bl true) s1:=by
 refine GZ rfl rfl fun cs R bh g e => ?_;have a8:=G0 rfl hp bh g e;obtain⟨ph,I,J,T,dirty,hot,fnd,ch⟩:=s;obtain rfl:ph=3:=h7;obtain⟨hv,fv,cv,b,S,lk,hS,dz,gZ,rfl,rfl⟩:=id bh;refine cD (f:=22) Tryz.func22 rfl (cm rfl) (by exact jy) ?_;(refine aR ?_);refine px 9 rfl rfl rfl rfl rfl rfl rfl ?_;(refine aR ?_);refine px 9 rfl rfl rfl rfl rfl rfl rfl ?_;(refine aR ?_);refine BS (bs:=[bJ g]) (args:=[aQ (bJ g)]) (l:=[]) rfl rfl rfl rfl rfl a8 (fun x ab j af=>by simp at ab;subst ab;exact absurd af (gP _ j)) (fun k c h=>by cases h) (bd.refl _) (fun k c x j h=>by cases h) rfl (fun bz aI ap aj => ?_);obtain⟨ay,bg,e',⟨rfl,cd⟩,rfl,rfl⟩:=aj;refine⟨fun k c h=>(by cases h),?_⟩;rw[GY bh cd,sU];(refine aR ?_)
 ((refine qc rfl (aX rfl aM) (bd.refl _) rfl (GX bh cd) ?_))
 exact⟨ay,bg,e',⟨rfl,cd⟩,rfl,rfl⟩
theorem RQ{s:bw.bf aq}(h7:4≤s.ph)(anU:s.ph≤5):gU E r rm 22 [] s (bl false) s:=by
 intro cs R bh;obtain⟨hv,fv,cv,b,S,lk,hS,dz,gZ,rfl,rfl⟩:=id bh;have aJ:(s.ph:Int)≥4:=by omega
 refine cD (f:=22) Tryz.func22 rfl (cm rfl) (by exact dl rfl) ?_;(refine aR ?_)
 ((refine dF rfl (aX rfl aM) rfl (bd.refl _) bh.closed rfl fJ ?_))
 exact⟨_,rfl,rfl,bh⟩
end
section
variable{E:List (Int×bP)}{r rm:Nat}
abbrev DU(E:List (Int×bP))(r rm:Nat)(s:bw.bf aq):Prop:=iO (bo E r rm) (sR (E.map Prod.snd) r) s
structure hX (E:List (Int×bP)) (r rm:Nat):Prop where
 r:r≤28
 near:jG (E.map Prod.snd)=true
 len:E.length≤300
 pos:1≤rm
 room:rm≤1024
theorem hX.ok(h:hX E r rm):lm (bo E r rm) (sR (E.map Prod.snd) r):=akl h.r h.near
theorem hX.n(E:List (Int×bP))(r rm:Nat):(bo E r rm).n=E.length:=jN ..
theorem hX.wK(h:hX E r rm){s:bw.bf aq}(aa:iN (bo E r rm) s)(al:lL (bo E r rm) (sR (E.map Prod.snd) r) s):jW s.ch:=by
 have hlen:=al.len;rw[hX.n] at hlen;refine⟨by have:=h.len;omega,fun c ak => ?_⟩;obtain⟨i,hi⟩:=kF ak;have h1:=(IK h.ok aa al ak).1;have h2:(bo E r rm).R=rm:=rfl;have:=h.room;exact⟨(al.jf i c hi).len,by omega⟩
theorem hX.hot(h:hX E r rm){s:bw.bf aq}(aa:iN (bo E r rm) s):s.hot.length≤1024:=by
 have h1:=aa.room;have h2:(bo E r rm).R=rm:=rfl;have:=h.room;omega
theorem afs{s:bw.bf aq}(h:hX E r rm)(bh:DU E r rm s):gU E r rm 22 [] s (bl (decide (s.ph<4))) (dn (bo E r rm) s):=by
 obtain⟨aa,aF|h1|h2|ar|aJ|bR⟩:=bh
 ·have e:dn (bo E r rm) s=q5 (bo E r rm) s:=by simp only[dn,aF.ph]
  rw[e,aF.ph];have hi:=aF.I;rw[hX.n] at hi;exact aft aF.ph (afP h.r h.near h.len hi aF.dirty aF.fnd (h.hot aa) aF.ph)
 ·have e:dn (bo E r rm) s=rA (bo E r rm) s:=by simp only[dn,h1.ph]
  rw[e,h1.ph];have hi:=h1.J;rw[hX.n] at hi;exact afu h1.ph (afR h.r h.near h.len h1.wq hi h1.dirty h1.fnd (h.hot aa) h1.ph)
 ·obtain⟨c,p,q,g1,g2,g3,au⟩:=h2.link;have g4:=bE h2.T;generalize s.hot[s.T]'h2.T=x at g4
  have e:dn (bo E r rm) s=ud (bo E r rm) s c p q (mJ (bo E r rm) p q x s.fnd):=by
   simp only[dn,h2.ph,zC,g1,g2,g3,g4]
  rw[e,h2.ph];have ak:=h2.laid.jf _ _ g1;have hd:=IK h.ok aa h2.laid (cN g1);have an:(bo E r rm).R=rm:=rfl;have anX:=h.room;obtain⟨V,D⟩:=c;have hp:=aa.hn _ (ak.hot p (cN g2));have aj:=aa.hn _ (ak.hot q (cN g3));have aZ:=h.hot aa
  have vj:(mJ (bo E r rm) p q x s.fnd)=(s.hot.take (s.T+1)).filter (kv (bo E r rm) p q):=by
   rw[Ps g4,au];unfold mJ
   split <;> simp[*]
  refine afv h2.ph (afS h.r (h.wK aa h2.laid) g1 g2 g3 g4 (fun d tL => ?_) hp aj h2.dirty aZ ?_ ?_ h2.ph)
  ·have:=hd.2 d tL;omega
  ·rw[au];refine eO (List.length_filter_le ..) ?_;rw[ea];omega
  ·rw[vj];exact(aa.nd.sublist (List.take_sublist ..)).filter _
 ·have e:dn (bo E r rm) s=sM (bo E r rm) s:=by simp only[dn,ar.ph]
  rw[e,ar.ph];have ak:=h.wK aa ar.laid;refine afw ar.ph (afQ h.r ak ?_ ar.wq ar.J (fun l al => ?_) ar.fnd (h.hot aa) ar.ph)
  ·have:=ar.J;cases yJ:s.ch with
   | nil=>rw[yJ] at this;simp[bi] at this
   | cons=>exact gE _
  ·obtain⟨_,a1,a2⟩:=F8 h.ok ar.laid al;exact⟨aa.hn _ a1,aa.hn _ a2⟩
 ·have e:dn (bo E r rm) s=s:=by simp only[dn,aJ.ph]
  rw[e,aJ.ph];exact RQ (by rw[aJ.ph];decide) (by rw[aJ.ph];decide)
 ·have e:dn (bo E r rm) s=s:=by simp only[dn,bR.ph]
  rw[e,bR.ph];exact RQ (by rw[bR.ph];decide) (by rw[bR.ph];decide)
end
structure dJ where
 k:Nat
 st:Nat
 s:bw.bf aq
section
variable{E:List (Int×bP)}{rm:Nat}
def gN(E:List (Int×bP))(rm k:Nat):dJ:=⟨k,0,gO (bo E k rm)⟩
def fQ(E:List (Int×bP))(rm:Nat)(l:dJ):dJ :=
 if 4≤l.s.ph then l else if (dn (bo E l.k rm) l.s).ph=5 then ⟨l.k+1,l.st+1,gO (bo E (l.k+1) rm)⟩ else ⟨l.k,l.st+1,dn (bo E l.k rm) l.s⟩
def e5(E:List (Int×bP))(rm:Nat):Nat→dJ→Nat×dJ
 | 0,l=>(0,l)
 | n+1,l=>if 4≤l.s.ph then(0,l) else((e5 E rm n (fQ E rm l)).1+1,(e5 E rm n (fQ E rm l)).2)
theorem akK{l:dJ}(h:4≤l.s.ph):∀n,e5 E rm n l=(0,l)
 | 0=>rfl
 | n+1=>if_pos h
structure iM (E:List (Int×bP)) (rm:Nat) (l:dJ):Prop where
 fit:hX E l.k rm
 inv:DU E l.k rm l.s
 Ls:l.s.ph≠5
 last:l.k=28→l.s.ph=4∨∃m,One (bo E 28 rm) (0,0) m l.s
theorem iM.up{l:dJ}(h:iM E rm l)(aJ:¬ 4≤l.s.ph)(bR:(dn (bo E l.k rm) l.s).ph=5):l.k<28:=by
 have ae:=h.fit.r;rcases ie l.k 28 with q|q
 ·exact q
 ·have e:l.k=28:=by omega
  rcases h.last e with q4|⟨m,Bl⟩
  ·omega
  ·have nA:=h.fit;have hinv:=h.inv;rw[e] at nA hinv bR;have Bm:One (bo E 28 rm) (0,0) (m+1) l.s:=⟨Bl.hot,Bl.left.imp (fun x=>⟨x.1,Nat.le_succ_of_le x.2⟩) fun y=>y.imp (fun x=>⟨x.1,Nat.le_succ_of_le x.2⟩) id⟩;have:=(VK nA.ok (UO nA.near nA.pos) hinv Bm).left;omega
theorem ahI(aA:0<E.length):∃m,One (bo E 28 rm) (0,0) m (gO (bo E 28 rm)):=by
 refine⟨(bo E 28 rm).n+(bo E 28 rm).n*(bo E 28 rm).n,fun x ab=>(by cases ab),.inl ⟨if_neg (by rw[hX.n];omega),?_⟩⟩;show (bo E 28 rm).n-0+(bo E 28 rm).n*(bo E 28 rm).n≤(bo E 28 rm).n+(bo E 28 rm).n*(bo E 28 rm).n;omega
theorem zh{k:Nat}(au:hX E k rm):iM E rm (gN E rm k):=by
 have cz:(gO (bo E k rm)).ph=if E.length=0 then 4 else 0:=by
  show (if (bo E k rm).n=0 then 4 else 0)=_;rw[hX.n]
 refine⟨au,Gn _ _,?_,fun ae => ?_⟩
 ·show (gO (bo E k rm)).ph≠5;rw[cz];split <;> omega
 ·have ae:k=28:=ae;subst ae
  by_cases aF:E.length=0
  ·left;show (gO (bo E 28 rm)).ph=4;rw[cz,if_pos aF]
  ·exact .inr (ahI (by omega))
theorem iM.step{l:dJ}(h:iM E rm l):iM E rm (fQ E rm l):=by
 unfold fQ
 by_cases aJ:4≤l.s.ph
 ·rw[if_pos aJ];exact h
 ·rw[if_neg aJ]
  by_cases bR:(dn (bo E l.k rm) l.s).ph=5
  ·rw[if_pos bR];have ae:=h.up aJ bR;exact⟨⟨ae,h.fit.near,h.fit.len,h.fit.pos,h.fit.room⟩,Gn _ _,(zh (E:=E) (rm:=rm) (k:=l.k+1) ⟨ae,h.fit.near,h.fit.len,h.fit.pos,h.fit.room⟩).Ls,(zh (E:=E) (rm:=rm) (k:=l.k+1) ⟨ae,h.fit.near,h.fit.len,h.fit.pos,h.fit.room⟩).last⟩
  ·rw[if_neg bR];refine⟨h.fit,(vV h.fit.ok h.inv).1,bR,fun ae => ?_⟩;have ae:l.k=28:=ae;rcases h.last ae with q4|⟨m,Bl⟩
   ·omega
   ·have nA:=h.fit;have hinv:=h.inv;rw[ae] at nA hinv;show (dn (bo E l.k rm) l.s).ph=4∨∃m,One (bo E 28 rm) (0,0) m (dn (bo E l.k rm) l.s);rw[ae];exact .inr ⟨m,VK nA.ok (UO nA.near nA.pos) hinv ⟨Bl.hot,Bl.left.imp (fun x=>⟨x.1,Nat.le_succ_of_le x.2⟩) fun y=>y.imp (fun x=>⟨x.1,Nat.le_succ_of_le x.2⟩) id⟩⟩
def qX(n rm:Nat):Nat:=8*(rm+2)*((n*rm+1)*(n*rm+1))
def pz(E:List (Int×bP))(rm:Nat)(l:dJ):Nat:=(28-l.k)*qX E.length rm+eK (bo E l.k rm) l.s
theorem SK(k:Nat)(ao:1≤rm):eK (bo E k rm) (gO (bo E k rm))≤qX E.length rm:=by
 have:=ahc (bo E k rm) (show 0<rm by omega);rw[hX.n] at this;exact this
theorem iM.less{l:dJ}(h:iM E rm l)(aJ:¬ 4≤l.s.ph):pz E rm (fQ E rm l)<pz E rm l:=by
 have vp:=(vV h.fit.ok h.inv).2.1 (by omega);unfold fQ;rw[if_neg aJ]
 by_cases bR:(dn (bo E l.k rm) l.s).ph=5
 ·rw[if_pos bR];have ae:=h.up aJ bR;have aA:=SK (E:=E) (l.k+1) h.fit.pos;unfold pz;show (28-(l.k+1))*qX E.length rm+eK (bo E (l.k+1) rm) (gO (bo E (l.k+1) rm))<_;rw[show 28-l.k=(28-(l.k+1))+1 by omega,lX,Nat.one_mul];omega
 ·rw[if_neg bR];unfold pz;show (28-l.k)*qX E.length rm+eK (bo E l.k rm) (dn (bo E l.k rm) l.s)<_;omega
theorem L8:∀(n:Nat) {l:dJ},iM E rm l→iM E rm (e5 E rm n l).2
 | 0,l,h=>h
 | n+1,l,h=>by
  unfold e5
  split
  ·exact h
  ·exact L8 n h.step
theorem U9:∀(n:Nat) (l:dJ),(e5 E rm n l).1≤n
 | 0,l=>cF 0
 | n+1,l=>by
  unfold e5
  split
  ·exact dq _
  ·exact Nat.succ_le_succ (U9 n _)
theorem VL{l:dJ}(aJ:¬ 4≤l.s.ph):(fQ E rm l).st=l.st+1:=by
 unfold fQ;rw[if_neg aJ];split <;> rfl
theorem alT{l:dJ}:l.k≤(fQ E rm l).k:=by
 unfold fQ
 split
 ·exact cF _
 ·split
  ·exact Nat.le_succ _
  ·exact cF _
theorem L9:∀(n:Nat) (l:dJ),(e5 E rm n l).2.st=l.st+(e5 E rm n l).1∧l.k≤(e5 E rm n l).2.k
 | 0,l=>⟨rfl,cF _⟩
 | n+1,l=>by
  unfold e5
  split
  ·exact⟨rfl,cF _⟩
  ·rename_i aJ;obtain⟨h1,h2⟩:=L9 n (fQ E rm l);rw[VL aJ] at h1;exact⟨by show (e5 E rm n (fQ E rm l)).2.st=l.st+((e5 E rm n (fQ E rm l)).1+1);omega,eO alT h2⟩
theorem Va:∀(n:Nat) {l:dJ},iM E rm l→(e5 E rm n l).1+pz E rm (e5 E rm n l).2≤pz E rm l
 | 0,l,_=>by show 0+_≤_;rw[iF];exact cF _
 | n+1,l,h=>by
  unfold e5
  split
  ·show 0+_≤_;rw[iF];exact cF _
  ·rename_i aJ;have h1:=Va n h.step;have h2:=h.less aJ;show (e5 E rm n (fQ E rm l)).1+1+pz E rm (e5 E rm n (fQ E rm l)).2≤pz E rm l;omega
theorem U7:∀(n:Nat) {l:dJ},iM E rm l→pz E rm l≤n→(e5 E rm n l).2.s.ph=4
 | 0,l,h,aA=>by
  have bR:=h.Ls
  have hle:l.s.ph≤5:=by
   obtain⟨_,q|q|q|q|q|q⟩:=h.inv <;> (have:=q.ph;omega)
  by_cases aJ:4≤l.s.ph
  ·show l.s.ph=4;omega
  ·have:=h.less aJ;omega
 | n+1,l,h,aA=>by
  unfold e5
  split
  ·rename_i aJ;have bR:=h.Ls
   have hle:l.s.ph≤5:=by
    obtain⟨_,q|q|q|q|q|q⟩:=h.inv <;> (have:=q.ph;omega)
   show l.s.ph=4;omega
  ·rename_i aJ;have:=h.less aJ;exact U7 n h.step (by omega)
theorem SJ{k:Nat}(au:hX E k rm):pz E rm (gN E rm k)≤29*qX E.length rm:=by
 have:=SK (E:=E) k au.pos;have h2:(28-k)*qX E.length rm≤28*qX E.length rm:=ig _ (by omega);unfold pz gN;show (28-k)*qX E.length rm+eK (bo E k rm) (gO (bo E k rm))≤_;omega
end
section
variable{E:List (Int×bP)}{r rm:Nat}
theorem KV{s:bw.bf aq}:gU E r rm 23 [] s (aL s.ph) s:=by
 intro cs R bh;obtain⟨hv,fv,cv,b,S,lk,hS,dz,gZ,rfl,rfl⟩:=id bh;refine cD (f:=23) Tryz.func23 rfl (cm rfl) (by exact dl rfl) ?_;(refine aR ?_)
 ((refine dF rfl (aX rfl aM) rfl (bd.refl _) bh.closed rfl fJ ?_))
 exact⟨_,rfl,rfl,bh⟩
def wN(ch:List (List aq×List Int)):Int:=ch.foldl (fun a c=>max a (mI c.2)) 0
theorem aar{ch:List (List aq×List Int)}{k:Nat}{c:List aq×List Int}(h:ch[k]?=some c):wN (ch.take (k+1))=max (wN (ch.take k)) (mI c.2):=by
 have ae:=(bt.1 h).1
 have e:ch.take (k+1)=ch.take k++[c]:=by
  rw[kJ ae,(bt.1 h).2]
 unfold wN;rw[e,List.foldl_append];rfl
def W5(E:List (Int×bP))(r rm:Nat)(s:bw.bf aq)(hv fv cv:Value)(b:Nat)(S:dY)(lk:AC)(n:Nat)(R:aE)(az:List (Nat×ag))(aS:List (Nat×List AC)):Prop :=
 ∃(k:Nat) (dc d:Int),k≤s.ch.length∧n=s.ch.length-k∧dc=k∧d=wN (s.ch.take k)∧R=eo b S hv fv cv s.hot s.fnd s.ch∧az=[(3,aL d),(10,aQ cv),(11,aL s.ch.length),(12,aL dc)]∧aS=[(1000,e4 E r rm s.ph s.I s.J s.T s.dirty hv fv cv b lk)]
theorem ae8{s:bw.bf aq}(ak:jW s.ch):gU E r rm 24 [] s (aL (wN s.ch)) s:=by
 intro cs R bh;obtain⟨hv,fv,cv,b,S,lk,hS,dz,gZ,rfl,rfl⟩:=id bh;refine cD (f:=24) Tryz.func24 rfl (cm rfl) (by exact dl rfl) ?_;(repeat first|refine cc ?_|(with_reducible apply oO 3);(iterate 4 rfl);kernel_rfl;rfl);refine jv 22 (W5 E r rm s hv fv cv b S lk) s.ch.length (eo b S hv fv cv s.hot s.fnd s.ch) _ [(1000,e4 E r rm s.ph s.I s.J s.T s.dirty hv fv cv b lk)] ⟨0,0,0,dq _,rfl,rfl,rfl,rfl,rfl,rfl⟩ (bd.refl _) rfl ⟨rfl,rfl,rfl,rfl,trivial⟩ ⟨rfl,trivial⟩ ?_ ?_
 ·cases lk <;> first|rfl|cases dz
 rintro n R az aS ⟨k,dc,d,ae,rfl,jk,nz,rfl,rfl,rfl⟩ bC;clear bC;have hlen:=ak.1
 by_cases aj:k<s.ch.length
 ·obtain⟨V,D,g1⟩:∃V D,s.ch[k]?=some (V,D):=⟨_,_,bE aj⟩;obtain⟨iR,fE⟩:=ak.2 _ (cN g1);simp only at iR fE;obtain⟨kP,pd⟩:=AP (ii:=dc) jk g1;have q2:dc<(s.ch.length:Int):=by omega
  have q3:0≤dc:=by omega
  have q4:0<s.ch.length:=by omega
  have aC:=aar g1;rw[←nz,show max d (mI (V,D).2)=if mI D>d then mI D else d by show max d (mI D)=_;split <;> omega] at aC;have a8:=RI V D fE (by omega);(repeat first|refine cc ?_|refine gz ?_|(with_reducible apply ky 3);(iterate 4 rfl);(omega);(assumption);rfl;kernel_rfl;rfl|(with_reducible apply oP 3);(iterate 3 rfl);(assumption);assumption;rfl;kernel_rfl;rfl);refine⟨s.ch.length-(k+1),eo b S hv fv cv s.hot s.fnd s.ch,_,[(1000,e4 E r rm s.ph s.I s.J s.T s.dirty hv fv cv b lk)],by omega,⟨k+1,dc+1,_,by omega,rfl,by omega,aC.symm,rfl,rfl,rfl⟩,bd.refl _,rfl,⟨rfl,rfl,rfl,rfl,trivial⟩,⟨rfl,trivial⟩,?_⟩;cases lk <;> first|rfl|cases dz
 ·have q2:¬dc<(s.ch.length:Int):=by omega
  have cz:s.ch.take k=s.ch:=gp (by omega);rw[cz] at nz;(refine aR ?_)
  ((refine dF rfl (aX rfl aM) rfl (bd.refl _) bh.closed rfl fJ ?_))
  exact⟨_,rfl,by rw[←nz];rfl,bh⟩
end
theorem D2{n:Nat}{xs:List AC}(aA:n≤900000)(ak:xs.all AC.aY=true)(ab:xs.length=2*n):pb ah 153 [cE 2 n xs] fun v q=>∃ba,v=aQ ba∧q=⟨50,2,ba,n,xs⟩:=by
 refine D4 rfl (fun v q h=>by obtain⟨ba,rfl,_⟩:=h;rfl) ?_;refine cD (f:=153) Tryz.func153 rfl (cm rfl) (by exact jy) ?_;(refine aR ?_);refine Vn 4 rfl ?_;intro b aa;cases b with
 | true =>
  have aF:=aa rfl;subst aF;have h1:=na ab;subst h1;clear aa;refine oE 0 50 2 rfl ?_;(refine aR ?_)
  ((refine yN rfl (aX rfl aM) rfl rfl (gE _) ?_))
  exact⟨.slice none 0 0,rfl,rfl⟩
 | false =>
  clear aa;(refine aR ?_);refine QW 0 rfl rfl rfl rfl rfl (fun v0 qg => ?_);(refine aR ?_);refine mT 0 rfl rfl rfl rfl ?q1 ?q2 ak rfl (fun v1 jD => ?_)
  case q1=>exact js (by show 0+n≤1000000;omega)
  case q2=>show (0+n)*16≤140737488355328;omega
  (refine aR ?_)
  ((refine yN rfl (aX rfl aM) rfl rfl (gE _) ?_))
  exact⟨v1,rfl,by rw[ur,iF]⟩
theorem NI{n:Nat}{xs:List AC}(aA:n≤900000)(ak:xs.all AC.aY=true)(ab:xs.length=2*n):pb ah 154 [cE 2 n xs] fun v q=>∃ba,v=aQ ba∧q=⟨53,2,ba,n,xs⟩:=by
 refine D4 rfl (fun v q h=>by obtain⟨ba,rfl,_⟩:=h;rfl) ?_;refine cD (f:=154) Tryz.func154 rfl (cm rfl) (by exact jy) ?_;(refine aR ?_);refine Vn 4 rfl ?_;intro b aa;cases b with
 | true =>
  have aF:=aa rfl;subst aF;have h1:=na ab;subst h1;clear aa;refine oE 0 53 2 rfl ?_;(refine aR ?_)
  ((refine yN rfl (aX rfl aM) rfl rfl (gE _) ?_))
  exact⟨.slice none 0 0,rfl,rfl⟩
 | false =>
  clear aa;(refine aR ?_);refine QW 0 rfl rfl rfl rfl rfl (fun v0 qg => ?_);(refine aR ?_);refine mT 0 rfl rfl rfl rfl ?q1 ?q2 ak rfl (fun v1 jD => ?_)
  case q1=>exact js (by show 0+n≤1000000;omega)
  case q2=>show (0+n)*48≤140737488355328;omega
  (refine aR ?_)
  ((refine yN rfl (aX rfl aM) rfl rfl (gE _) ?_))
  exact⟨v1,rfl,by rw[ur,iF]⟩
abbrev lY(k rm ph I J T:Int)(dirty:Bool)(hv fv cv:Value):List AC:=[.c (.int .i64 k),.c (.int .i64 rm),.c (.int .i64 ph),.c (.int .i64 I),.c (.int .i64 J),.c (.int .i64 T),.c (.bool dirty),.c hv,.c fv,.c cv]
abbrev mw(hv fv cv:Value)(hot fnd:List aq)(ch:List (List aq×List Int)):aE:=upd (upd (br 1 (jL hv hot)) 2 (jL fv fnd)) 3 (wI cv ch)
abbrev nc(hv fv cv:Value)(hot fnd:List aq)(ch:List (List aq×List Int))(R:aE):aE:=upd (upd (upd R 4 (jL hv hot)) 5 (jL fv fnd)) 6 (wI cv ch)
theorem akh{hv fv cv:Value}{hot fnd:List aq}{ch:List (List aq×List Int)}{R:aE}:upd (nc hv fv cv hot fnd ch R) 6 (wI cv ch)=nc hv fv cv hot fnd ch R:=by
 funext k
 by_cases hZ:k=6
 ·subst hZ;rfl
 ·rw[bN _ _ hZ]
theorem AQ(ch:List (List aq×List Int)):(eB ch).length=2*ch.length:=by
 unfold eB;induction ch with
 | nil=>rfl
 | cons c l bY=>rw[List.flatMap_cons,cZ,bY,hP];show 2+_=_;omega
theorem OE(ch:List (List aq×List Int)):∀y∈eB ch,y.aY=true:=fun y ai=>by
 obtain⟨c,_,h⟩:=List.mem_flatMap.1 ai;simp only[qZ,fi,sZ,or_false] at h;rcases h with rfl|rfl <;> rfl
theorem Rw(l:List aq):∀y∈bZ l,y.aY=true:=b6.1 (ub l)
theorem OH{ch:List (List aq×List Int)}{i:Nat}{V:List aq}{D:List Int}(h:ch[i]?=some (V,D)):eP (eB ch) (2*i) [.p (b4 2 V.length (bZ V)),.p (b4 1 D.length (cK D))]=eB ch:=by
 have hi:=(bt.1 h).1
 have e:ch=ch.take i++(V,D)::ch.drop (i+1):=by
  conv=>lhs;rw[←kh i ch,jP hi,(bt.1 h).2]
 have aN:eB ch=eB (ch.take i)++([.p (b4 2 V.length (bZ V)),.p (b4 1 D.length (cK D))]++eB (ch.drop (i+1))):=by
  conv=>lhs;rw[e]
  simp[eB,qZ]
 have al:(eB (ch.take i)).length=2*i:=by rw[AQ,ea];congr 1;omega
 rw[aN,Mt al];simp
def W0(hv fv cv bU di db:Value)(k rm ph I J T:Int)(dirty:Bool)(hot fnd:List aq)(ch:List (List aq×List Int))(n:Nat)(R:aE)(az:List (Nat×ag))(aS:List (Nat×List AC)):Prop :=
 ∃(i:Nat) (ii:Int),i≤ch.length∧n=ch.length-i∧ii=i∧R=nc bU di db hot fnd ch (mw hv fv cv hot fnd ch)∧az=[(1,.w (.one (.own 1 0))),(2,.w (.one (.own 2 0))),(18,aQ db),(19,aL ch.length),(20,aL ii)]∧aS=[(1,lY k rm ph I J T dirty bU di db),(2,lY 0 0 0 0 0 0 false (.slice none 0 0) (.slice none 0 0) (.slice none 0 0))]
theorem afC{k rm ph I J T:Int}{dirty:Bool}{hv fv cv:Value}{hot fnd:List aq}{ch:List (List aq×List Int)}(aZ:hot.length≤900000)(au:fnd.length≤900000)(ak:jW ch) :
  cg ah 83 [.w (.agg (lY k rm ph I J T dirty hv fv cv))] bB (mw hv fv cv hot fnd ch) fun bz aI ap=>∃bU di db,bz = .w (.agg (lY k rm ph I J T dirty bU di db))∧aI=bB∧ap=nc bU di db hot fnd ch (mw hv fv cv hot fnd ch):=by
 have hlen:=ak.1;have dC:∀ys:List AC,ys.length=(jL hv hot).ys.length→ys.all AC.aY=true→pb ah 153 [cE 2 hot.length ys] fun v q=>∃ba,v=aQ ba∧q=⟨50,2,ba,hot.length,ys⟩:=fun ys al ai=>D2 aZ ai (by rw[al,ot,Nat.mul_comm]);have gG:∀ys:List AC,ys.length=(jL fv fnd).ys.length→ys.all AC.aY=true→pb ah 153 [cE 2 fnd.length ys] fun v q=>∃ba,v=aQ ba∧q=⟨50,2,ba,fnd.length,ys⟩:=fun ys al ai=>D2 au ai (by rw[al,ot,Nat.mul_comm]);have jb:∀ys:List AC,ys.length=(wI cv ch).ys.length→ys.all AC.aY=true→pb ah 154 [cE 2 ch.length ys] fun v q=>∃ba,v=aQ ba∧q=⟨53,2,ba,ch.length,ys⟩:=fun ys al ai=>NI (by omega) ai (by rw[al,AQ]);refine cD (f:=83) Tryz.func83 rfl (cm rfl) (by exact jy) ?_;(repeat first|(with_reducible apply hf (id:=1) [0,1,3,4,6,7,2,9,5,8,10,11,12,13,14] [7,10,13]);kernel_rfl;kernel_rfl;rfl|refine cc ?_);refine Kw 1 4 (by decide) rfl rfl rfl rfl dC rfl (gE _) (Rw _) rfl (fun bU => ?_);(refine aR ?_);refine Kw 2 5 (by decide) rfl rfl rfl rfl gG rfl (gE _) (Rw _) rfl (fun di => ?_)
 skip
 refine Kw 3 6 (by decide) rfl rfl rfl rfl jb rfl (gE _) (OE _) rfl (fun db => ?_);(repeat first|refine cc ?_|(with_reducible apply oO 6);(iterate 4 rfl);kernel_rfl;rfl);refine jv 33 (W0 hv fv cv bU di db k rm ph I J T dirty hot fnd ch) ch.length (nc bU di db hot fnd ch (mw hv fv cv hot fnd ch)) _ [(1,lY k rm ph I J T dirty bU di db),(2,lY 0 0 0 0 0 0 false (.slice none 0 0) (.slice none 0 0) (.slice none 0 0))] ⟨0,0,dq _,rfl,rfl,rfl,rfl,rfl⟩ (bd.refl _) rfl ⟨rfl,rfl,rfl,rfl,rfl,trivial⟩ ⟨rfl,rfl,trivial⟩ rfl ?_;rintro n R az aS ⟨i,ii,hi,rfl,eu,rfl,rfl,rfl⟩ bC;clear bC
 by_cases aj:i<ch.length
 ·obtain⟨V,D,g1⟩:∃V D,ch[i]?=some (V,D):=⟨_,_,bE aj⟩;obtain⟨iR,fE⟩:=ak.2 _ (cN g1);simp only at iR fE;obtain⟨kP,pd⟩:=AP (ii:=ii) eu g1;have a8:=RH V D fE (by omega);have q2:ii<(ch.length:Int):=by omega
  have q3:0≤ii:=by omega
  have q4:0<ch.length:=by omega
  have aH:ii.toNat*2=2*i:=by omega
  have BL:ii.toNat*2+2≤(eB ch).length:=by rw[AQ];omega
  have ck:eP (eB ch) (ii.toNat*2) [.p (b4 2 V.length (bZ V)),.p (b4 1 D.length (cK D))]=eB ch:=by rw[aH];exact OH g1
  (repeat first|(with_reducible apply hf (id:=5) [0,1,2,3,4,5,6] [4000000]);kernel_rfl;kernel_rfl;rfl|refine cc ?_|refine gz ?_|(with_reducible apply ky 6);(iterate 4 rfl);(omega);(assumption);rfl;kernel_rfl;rfl|(with_reducible apply oP 6);(iterate 3 rfl);(assumption);assumption;rfl;kernel_rfl;rfl);refine yZ 6 rfl rfl rfl rfl q4 rfl rfl BL rfl ?_;(refine aR ?_);refine⟨ch.length-(i+1),nc bU di db hot fnd ch (mw hv fv cv hot fnd ch),_,[(1,lY k rm ph I J T dirty bU di db),(2,lY 0 0 0 0 0 0 false (.slice none 0 0) (.slice none 0 0) (.slice none 0 0))],by omega,⟨i+1,ii+1,by omega,rfl,by omega,rfl,rfl,rfl⟩,fun k q ae => ?_,rfl,⟨rfl,rfl,rfl,rfl,rfl,trivial⟩,⟨rfl,rfl,trivial⟩,rfl⟩
  have eg:upd (nc bU di db hot fnd ch (mw hv fv cv hot fnd ch)) 6 (⟨53,2,db,ch.length,eP (eB ch) (ii.toNat*2) [.p (b4 2 V.length (bZ V)),.p (b4 1 D.length (cK D))]⟩:bF)=nc bU di db hot fnd ch (mw hv fv cv hot fnd ch):=by
   rw[ck];exact akh
  exact(congrFun eg k).trans ae
 ·have q2:¬ii<(ch.length:Int):=by omega
  (refine aR ?_)
  ((refine qc rfl (c7 rfl rfl rfl aM) (bd.refl _) rfl (fun j q h => ?_) ?_))
  ·match j with
   | 0=>cases h
   | 1=>exact⟨_,rfl⟩
   | 2=>exact⟨_,rfl⟩
   | 3=>exact⟨_,rfl⟩
   | j+4=>cases h
  ·exact⟨bU,di,db,rfl,rfl,rfl⟩
theorem aj9{b:Nat}{S:dY}{hv fv cv:Value}{hot fnd:List aq}{ch:List (List aq×List Int)}:bd (mw hv fv cv hot fnd ch) (eo b S hv fv cv hot fnd ch)
 | 0,_,h=>by cases h
 | 1,_,h=>h
 | 2,_,h=>h
 | 3,_,h=>h
 | k+4,_,h=>by cases h
theorem akj{b:Nat}{S:dY}{hv fv cv bU di db:Value}{hot fnd:List aq}{ch:List (List aq×List Int)}:bK (nc bU di db hot fnd ch (mw hv fv cv hot fnd ch)) (eo b S hv fv cv hot fnd ch)=nc bU di db hot fnd ch (eo b S hv fv cv hot fnd ch):=by
 funext i
 match i with
 | 0=>rfl
 | 1=>rfl
 | 2=>rfl
 | 3=>rfl
 | 4=>rfl
 | 5=>rfl
 | 6=>rfl
 | i+7=>rfl
theorem aki{hv fv cv:Value}{hot fnd:List aq}{ch:List (List aq×List Int)}{R:aE}:∀i r,R i=some r→∃bb,nc hv fv cv hot fnd ch R i=some bb:=fun i r h=>by
 by_cases p5:i=6
 ·subst p5;exact⟨_,bX _ _ _⟩
 ·by_cases jh:i=5
  ·subst jh;exact⟨_,rfl⟩
  ·by_cases eg:i=4
   ·subst eg;exact⟨_,rfl⟩
   ·exact⟨r,by unfold nc;rw[bN _ _ p5,bN _ _ jh,bN _ _ eg];exact h⟩
section
variable{E:List (Int×bP)}{r rm:Nat}
theorem afp{s:bw.bf aq}(aZ:s.hot.length≤900000)(au:s.fnd.length≤900000)(ak:jW s.ch){cs:List AC}{R:aE}(bh:ek E r rm s cs R) :
  cg ah 32 [nT] (cG 1000 cs) R (nh 1000 fun bz ay ap=>∃hv fv cv,bz = .w (.agg (lY r rm s.ph s.I s.J s.T s.dirty hv fv cv))∧ay=cs∧ap=nc hv fv cv s.hot s.fnd s.ch R):=by
 obtain⟨hv,fv,cv,b,S,lk,hS,dz,gZ,rfl,rfl⟩:=id bh;have a8:=afC (k:=(r:Int)) (rm:=(rm:Int)) (ph:=(s.ph:Int)) (I:=(s.I:Int)) (J:=(s.J:Int)) (T:=(s.T:Int)) (dirty:=s.dirty) (hv:=hv) (fv:=fv) (cv:=cv) aZ au ak;refine cD (f:=32) Tryz.func32 rfl (cm rfl) (by exact dl rfl) ?_;(refine aR ?_);refine QU (l:=_) (args:=[_]) rfl rfl rfl rfl a8 aj9 rfl rfl ?_;rintro _ _ _ ⟨bU,di,db,rfl,rfl,rfl⟩;refine⟨rfl,?_⟩;rw[akj];(refine aR ?_)
 ((refine dF rfl (c7 rfl rfl rfl aM) rfl (bd.refl _) bh.closed rfl aki ?_))
 exact⟨_,rfl,bU,di,db,rfl,rfl,rfl⟩
end
instance aok:nm ah 28 95 5 40:=⟨by kernel_rfl⟩
abbrev MM:ag:=aQ (.func (.func 108) #[] #[])
theorem TB{x y:Int}:aP ah 109 [bn x y] (bl (gM (x,y))):=by
 have cs:((if y<x then y else x) ≥ -134217728∧gM (x,y)=decide ((if y>x then y else x)<134217728))∨(¬(if y<x then y else x) ≥ -134217728∧gM (x,y)=false):=by
  by_cases h:(if y<x then y else x) ≥ -134217728
  ·refine .inl ⟨h,?_⟩;rw[o6,ox,decide_eq_true_iff];show ((_≤x∧x<_)∧_≤y∧y<_)↔_
   split at h <;> split <;> omega
  ·refine .inr ⟨h,?_⟩;cases aA:gM (x,y) with
   | false=>rfl
   | true =>
    obtain⟨⟨a1,a2⟩,a3,a4⟩:((_≤x∧x<_)∧_≤y∧y<_):=ox.1 aA
    split at h <;> omega
 rcases cs with ⟨h,e⟩|⟨h,e⟩
 all_goals
  rw[e];refine bp (f:=109) Tryz.func109 rfl rfl rfl rfl ?_;(repeat first|refine dd ?_|(with_reducible apply bT (c:=true));rfl;rfl;(exact b5 (by omega))|(with_reducible apply bT (c:=false));rfl;rfl;(exact b8 (by omega)))
  ((refine bk rfl (aX rfl aM) ?_))
  exact ag.aU.refl _
abbrev yr(x:Int×bP):Bool := !(gM x.2.1&&gM x.2.2)
theorem aiy{o a b c d:Int}:aP ah 108 [.w (.agg [.c (.int .i64 a),.c (.int .i64 b),.c (.int .i64 c),.c (.int .i64 d),.c (.int .i64 o)])] (bl (yr (o,(a,b),(c,d)))):=by
 have a8:=TB (x:=a) (y:=b);have bL:=TB (x:=c) (y:=d);unfold yr;simp only;cases h1:gM (a,b) with
 | true =>
  rw[h1] at a8;rw[pH];refine bp (f:=108) Tryz.func108 rfl rfl rfl rfl ?_;(refine cI ?_)
  ((refine bk rfl (aX rfl aM) ?_))
  exact ag.aU.refl _
 | false =>
  rw[h1] at a8;rw[Bool.false_and];refine bp (f:=108) Tryz.func108 rfl rfl rfl rfl ?_;(refine cI ?_)
  ((refine bk rfl (aX rfl aM) ?_))
  exact ag.aU.refl _
def u6:List (Int×bP)→Int→Int
 | [],_ => -1
 | p::l,i=>if yr p=true then i else u6 l (i+1)
theorem PD(p:Int×bP)(l:List (Int×bP))(i:Int):u6 (p::l) i=if yr p=true then i else u6 l (i+1):=rfl
theorem PC:∀(l:List (Int×bP)) (i:Int),0≤i→(decide (u6 l i≥0)) = !jG (l.map Prod.snd)
 | [],i,h=>rfl
 | p::l,i,h=>by
  have bY:=PC l (i+1) (by omega);have e:jG ((p::l).map Prod.snd)=((gM p.2.1&&gM p.2.2)&&jG (l.map Prod.snd)):=rfl;rw[e,PD];unfold yr;cases hp:(gM p.2.1&&gM p.2.2) with
  | false=>rw[if_pos (show (!false)=true from rfl),Bool.false_and];exact b5 h
  | true=>rw[if_neg (by decide),pH];exact bY
def Xg(E:List (Int×bP))(k:Nat)(az:List (Nat×ag))(aS:List (Nat×List AC)):Prop :=
 ∃(i:Nat) (ii:Int),i≤E.length∧k=E.length-i∧ii=i∧u6 E 0=u6 (E.drop i) ii∧aS=[]∧az=[(0,td E),(1,MM),(7,aL E.length),(8,aL ii)]
theorem aiZ{E:List (Int×bP)}(ao:E.length≤4611686018427387904):aP ah 166 [td E,MM] (aL (u6 E 0)):=by
 refine bp (f:=166) Tryz.func166 rfl rfl rfl rfl ?_;(refine eI ?_);refine oI 19 (Xg E) E.length _ [] ⟨0,0,dq _,rfl,rfl,rfl,rfl,rfl⟩ rfl ⟨rfl,rfl,rfl,rfl,trivial⟩ trivial rfl ?_;rintro n az aS ⟨j,dB,af,rfl,k0,gJ,rfl,rfl⟩ bC;clear bC
 by_cases hp:j<E.length
 ·have p2:dB<(E.length:Int):=by omega
  have p3:0≤dB:=by omega
  obtain⟨o,a,b,c,d,g1⟩:∃o a b c d,E[j]?=some (o,(a,b),(c,d)):=⟨_,_,_,_,_,bE hp⟩;have kP:=A3 k0 g1;have hd:E.drop j=(o,(a,b),(c,d))::E.drop (j+1):=by rw[jP hp,(bt.1 g1).2]
  have fL:=aiy (o:=o) (a:=a) (b:=b) (c:=c) (d:=d);rw[hd,PD] at gJ;cases au:yr (o,(a,b),(c,d)) with
  | true =>
   rw[au] at gJ fL;rw[if_pos rfl] at gJ;rw[gJ];(refine cI ?_)
   ((refine bk rfl (aX rfl aM) ?_))
   exact ag.aU.refl _
  | false =>
   rw[au] at gJ fL;rw[if_neg (by simp)] at gJ;(refine cI ?_);exact⟨E.length-(j+1),_,[],by omega,⟨j+1,dB+1,hp,rfl,by omega,gJ,rfl,rfl⟩,rfl,⟨rfl,rfl,rfl,rfl,trivial⟩,trivial,rfl⟩
 ·have e:j=E.length:=by omega
  subst e;rw[List.drop_length] at gJ;rw[show u6 [] dB = -1 from rfl] at gJ;rw[gJ];(refine eI ?_)
  ((refine bk rfl (aX rfl aM) ?_))
  exact ag.aU.refl _
theorem aiH{E:List (Int×bP)}(ao:E.length≤4611686018427387904):aP ah 107 [td E,MM] (bl (!jG (E.map Prod.snd))):=by
 have fL:=aiZ ao;rw[←PC E 0 (by decide)];refine bp (f:=107) Tryz.func107 rfl rfl rfl rfl ?_;(refine cI ?_)
 ((refine bk rfl (aX rfl aM) ?_))
 exact ag.aU.refl _
theorem Tr{E:List (Int×bP)}(ao:E.length≤4611686018427387904):aP ah 59 [td E] (bl (jG (E.map Prod.snd))):=by
 have fL:=aiH ao;have e:jG (E.map Prod.snd) = !(!jG (E.map Prod.snd)):=(Bool.not_not _).symm;rw[e];generalize (!jG (E.map Prod.snd))=q at *;refine bp (f:=59) Tryz.func59 rfl rfl rfl rfl ?_;(refine cI ?_)
 ((refine bk rfl (aX rfl aM) ?_))
 exact ag.aU.refl _
theorem Tt{E:List (Int×bP)}(ao:E.length≤900000):aP ah 61 [td E] (td E):=by
 refine bp (f:=61) Tryz.func61 rfl rfl rfl rfl ?_;(refine eI ?_);refine Zw 4 rfl ?_;intro b aa;cases b with
 | true =>
  have aF:=na (aa rfl);subst aF;clear aa;(refine eI ?_)
  ((refine bk rfl (aX rfl aM) ?_))
  exact Lq 5
 | false =>
  clear aa;have z0:0+E.length=E.length:=iF _;(repeat first|(with_reducible apply Y0);rfl;rfl|(with_reducible apply NN);(iterate 3 rfl);(exact js (by omega));(omega);(assumption);(rfl);rfl|refine dd ?_)
  ((refine bk rfl (aX rfl aM) ?_))
  exact ag.aU.refl _
section
variable{P:Program}{f:FuncId}{args:List ag}{cs:List AC}{R0:aE}{Q:ag→List AC→aE→Prop}
theorem cg.at(k:Nat)(h:cg P f (nT::args) (cG 1000 cs) R0 (nh 1000 Q))(dy:args.all ag.aY=true)(ak:cs.all AC.aY=true)(aj:∀bz ds ap,Q bz ds ap→bz.aY=true∧ds.all AC.aY=true):cg P f (.w (.one (.own k 0))::args) (cG k cs) R0 (nh k Q):=by
 have h1:=h.bc (lZ 1000 k) (bO:=fun j=>j) (jV:=fun j=>j) (fun _=>rfl) (fun _=>rfl)
 have aH:(ag.w (.one (.own 1000 0))::args).map (ag.bc (swp 1000 k)) = .w (.one (.own k 0))::args:=by
  have aN:args.map (ag.bc (swp 1000 k))=args:=by
   conv=>rhs;rw[←List.map_id args]
   exact nN fun x ab=>vO (b6.1 dy x ab)
  rw[hQ,aN];show ag.w (.one (.own (swp 1000 k 1000) 0))::args=_;rw[show swp 1000 k 1000=k by unfold swp;simp]
 rw[aH,zd ak] at h1;refine⟨fun U ad W vs cb da cM=>(h1.call U ad W vs cb da cM).mono ?_⟩;rintro cz W' ⟨v,r,aI,ap,aW,cn,c5,⟨cf,m1,bg,⟨ds,rfl,nC⟩,rfl,rfl,rfl⟩,iZ⟩;obtain⟨c1,c2⟩:=aj _ _ _ nC;rw[zd c2,vO c1] at iZ;exact⟨v,cf,cG k ds,bg,aW,cn,c5,⟨ds,rfl,nC⟩,iZ⟩
end
def rH(k:Int):Nat:=(if k<0 then 0 else if 28<k then 28 else k).toNat
def rI(n:Int):Nat:=(rK n).toNat
theorem UD(n:Int):((rI n:Nat):Int)=rK n:=by unfold rI rK;(repeat split) <;> omega
theorem akb(k:Int):((rH k:Nat):Int)=if 28<(if 0>k then 0 else k) then 28 else(if 0>k then 0 else k):=by unfold rH;(repeat split) <;> omega
abbrev jH:Value := .slice none 0 0
theorem SL{b:Nat}{S:dY}{q:bF}:eo b S jH jH jH [] [] []=upd (upd (upd (upd (upd dW 1 ⟨50,2,jH,0,[]⟩) 2 ⟨50,2,jH,0,[]⟩) 3 ⟨53,2,jH,0,[]⟩) 0 q) 0 (fp (bJ b) S):=by
 funext i
 match i with
 | 0=>rfl
 | 1=>rfl
 | 2=>rfl
 | 3=>rfl
 | i+4=>rfl
theorem afj{E:List (Int×bP)}{k n:Int}(al:E.length≤300)(h:jG (E.map Prod.snd)=true):cg ah 16 [td E,aL k,aL n] bB dW fun bz aI ap=>∃cs,bz = .w (.one (.own 24 0))∧aI=cG 24 cs∧ek E (rH k) (rI n) (gO (bo E (rH k) (rI n))) cs ap:=by
 have a8:=Tr (E:=E) (by omega);rw[h] at a8;have bL:=RN n;have eb:=Tt (E:=E) (by omega);have hZ:=akb k
 by_cases aF:E=[]
 ·subst aF;refine cD (f:=16) Tryz.func16 rfl (cm rfl) (by exact jy) ?_;refine oE 1 50 2 rfl ?_;refine oE 2 50 2 rfl ?_;refine oE 3 53 2 rfl ?_;(refine nU ?_);refine Ky 0 rfl rfl rfl rfl bL rfl rfl (fun p S jC => ?_);obtain⟨b,rfl,hS⟩:=jC;rw[←UD n] at hS;have jx:=RP _ _ _ _ hS (by decide);(refine nU ?_);refine vr 0 rfl rfl rfl rfl jx rfl rfl rfl (fun v S' h => ?_);obtain⟨rfl,ez⟩:=h;(refine aR ?_);have pc:=cg.at 24 (KW (E:=[]) (k:=(rH k:Int)) (rm:=(rI n:Int)) (ph:=0) (I:=0) (J:=0) (T:=0) (dirty:=false) (hv:=jH) (fv:=jH) (cv:=jH) (b:=b) (lk := .c jH) rfl 4) rfl rfl (fun bz ds ap h=>by obtain⟨rfl,rfl,_⟩:=h;exact⟨rfl,rfl⟩);rw[←hZ];refine kz 24 rfl rfl rfl rfl pc rfl rfl rfl rfl rfl ?_;(refine aR ?_)
  ((refine w0 24 rfl (aX rfl aM) rfl (bd.of_eq SL) rfl rfl ?_))
  exact⟨_,rfl,rfl,jH,jH,jH,b,S',.c jH,ez,rfl,fun h=>(by cases h),rfl,rfl⟩
 ·have fA:¬(E.length:Int)=0:=fun aZ=>aF (na (by omega));refine cD (f:=16) Tryz.func16 rfl (cm rfl) (by exact jy) ?_;refine oE 1 50 2 rfl ?_;refine oE 2 50 2 rfl ?_;refine oE 3 53 2 rfl ?_;(refine nU ?_);refine Ky 0 rfl rfl rfl rfl bL rfl rfl (fun p S jC => ?_);obtain⟨b,rfl,hS⟩:=jC;rw[←UD n] at hS;have jx:=RP _ _ _ _ hS (by decide);(refine nU ?_);refine vr 0 rfl rfl rfl rfl jx rfl rfl rfl (fun v S' h => ?_);obtain⟨rfl,ez⟩:=h;(refine aR ?_);rw[←hZ]
  ((refine w0 24 rfl (aX rfl aM) rfl (bd.of_eq SL) rfl rfl ?_))
  refine⟨_,rfl,rfl,jH,jH,jH,b,S',.c jH,ez,rfl,?_,?_,rfl⟩
  ·unfold gO;rw[if_neg (by rw[hX.n];omega)];intro h;cases h
  ·unfold gO;rw[if_neg (by rw[hX.n];omega)];rfl
def A1(a b c d e f a' b0 c' d' e' mc:Int):Bool:=decide (a=a')&&(decide (b=b0)&&(decide (c=c')&&(decide (d=d')&&(decide (e=e')&&decide (f=mc)))))
theorem aaW(n:Nat)(a b c d e f a' b0 c' d' e' mc:Int)(W:World):(Op.equalIn (n+1+1) 121 (.agg #[.int .i64 a,.int .i64 b,.int .i64 c,.int .i64 d,.int .i64 e,.int .i64 f]) (.agg #[.int .i64 a',.int .i64 b0,.int .i64 c',.int .i64 d',.int .i64 e',.int .i64 mc])).run ah W = .ok (A1 a b c d e f a' b0 c' d' e' mc) W:=by
 have hu:ah.underlying 121=some (.array 6 3):=by kernel_rfl
 have hi:ah.underlying 3=some (.int .i64):=by kernel_rfl
 obtain⟨m,hm⟩:∃m,m=n+1:=⟨_,rfl⟩;rw[←hm,Op.equalIn];simp only[Sem.run_bind,run_underlying hu,Result.andThen_ok];rw[hm];have aT:(sizeOf 3).run ah W = .ok 1 W:=by go_simp
 have hp:∀(xs:Array Value) (off:Nat) (v:Value),xs[off]?=some v→(part 3 xs off).run ah W = .ok v W:=fun xs off v h=>by
  have aV:(isAgg 3).run ah W = .ok false W:=by
   unfold isAgg;simp only[Sem.run_bind,run_underlying hi,Result.andThen_ok,Sem.run_pure]
  unfold part;simp only[Sem.run_bind,aV,Result.andThen_ok,pB,if_false,h,Sem.run_pure]
 simp only[aT,Result.andThen_ok];rw[Std.Legacy.Range.forIn_eq_forIn_range'];unfold A1;have oZ:=hp #[.int .i64 a,.int .i64 b,.int .i64 c,.int .i64 d,.int .i64 e,.int .i64 f] (0*1) (.int .i64 a) rfl;have c5:=hp #[.int .i64 a',.int .i64 b0,.int .i64 c',.int .i64 d',.int .i64 e',.int .i64 mc] (0*1) (.int .i64 a') rfl;have p1:=hp #[.int .i64 a,.int .i64 b,.int .i64 c,.int .i64 d,.int .i64 e,.int .i64 f] (1*1) (.int .i64 b) rfl;have q1:=hp #[.int .i64 a',.int .i64 b0,.int .i64 c',.int .i64 d',.int .i64 e',.int .i64 mc] (1*1) (.int .i64 b0) rfl;have p2:=hp #[.int .i64 a,.int .i64 b,.int .i64 c,.int .i64 d,.int .i64 e,.int .i64 f] (2*1) (.int .i64 c) rfl;have q2:=hp #[.int .i64 a',.int .i64 b0,.int .i64 c',.int .i64 d',.int .i64 e',.int .i64 mc] (2*1) (.int .i64 c') rfl;have p3:=hp #[.int .i64 a,.int .i64 b,.int .i64 c,.int .i64 d,.int .i64 e,.int .i64 f] (3*1) (.int .i64 d) rfl;have q3:=hp #[.int .i64 a',.int .i64 b0,.int .i64 c',.int .i64 d',.int .i64 e',.int .i64 mc] (3*1) (.int .i64 d') rfl;have p4:=hp #[.int .i64 a,.int .i64 b,.int .i64 c,.int .i64 d,.int .i64 e,.int .i64 f] (4*1) (.int .i64 e) rfl;have q4:=hp #[.int .i64 a',.int .i64 b0,.int .i64 c',.int .i64 d',.int .i64 e',.int .i64 mc] (4*1) (.int .i64 e') rfl;have xA:=hp #[.int .i64 a,.int .i64 b,.int .i64 c,.int .i64 d,.int .i64 e,.int .i64 f] (5*1) (.int .i64 f) rfl;have lV:=hp #[.int .i64 a',.int .i64 b0,.int .i64 c',.int .i64 d',.int .i64 e',.int .i64 mc] (5*1) (.int .i64 mc) rfl;rw[show List.range' [:6].start [:6].size [:6].step=[0,1,2,3,4,5] from rfl];simp only[List.forIn_cons,List.forIn_nil,Sem.run_bind,oZ,c5,p1,q1,p2,q2,p3,q3,p4,q4,xA,lV,Result.andThen_ok,run_equalIn_int W n _ .i64 .i64 _ _ hi]
 by_cases aV:a=a'
 case neg=>simp[aV]
 subst aV;simp only[beq_self_eq_true,Bool.not_true,pB,if_false,Sem.run_pure,Sem.run_bind,oZ,c5,p1,q1,p2,q2,p3,q3,p4,q4,xA,lV,Result.andThen_ok,run_equalIn_int W n _ .i64 .i64 _ _ hi]
 by_cases aa:b=b0
 case neg=>simp[aa]
 subst aa;simp only[beq_self_eq_true,Bool.not_true,pB,if_false,Sem.run_pure,Sem.run_bind,oZ,c5,p1,q1,p2,q2,p3,q3,p4,q4,xA,lV,Result.andThen_ok,run_equalIn_int W n _ .i64 .i64 _ _ hi]
 by_cases ak:c=c'
 case neg=>simp[ak]
 subst ak;simp only[beq_self_eq_true,Bool.not_true,pB,if_false,Sem.run_pure,Sem.run_bind,oZ,c5,p1,q1,p2,q2,p3,q3,p4,q4,xA,lV,Result.andThen_ok,run_equalIn_int W n _ .i64 .i64 _ _ hi]
 by_cases hd:d=d'
 case neg=>simp[hd]
 subst hd;simp only[beq_self_eq_true,Bool.not_true,pB,if_false,Sem.run_pure,Sem.run_bind,oZ,c5,p1,q1,p2,q2,p3,q3,p4,q4,xA,lV,Result.andThen_ok,run_equalIn_int W n _ .i64 .i64 _ _ hi]
 by_cases he:e=e'
 case neg=>simp[he]
 subst he;simp only[beq_self_eq_true,Bool.not_true,pB,if_false,Sem.run_pure,Sem.run_bind,oZ,c5,p1,q1,p2,q2,p3,q3,p4,q4,xA,lV,Result.andThen_ok,run_equalIn_int W n _ .i64 .i64 _ _ hi]
 by_cases au:f=mc
 case neg=>simp[au]
 subst au;simp only[beq_self_eq_true,Bool.not_true,pB,if_false,Sem.run_pure,Sem.run_bind,oZ,c5,p1,q1,p2,q2,p3,q3,p4,q4,xA,lV,Result.andThen_ok,run_equalIn_int W n _ .i64 .i64 _ _ hi];simp
abbrev v6(a b c d e f:Int):ag := .w (.agg [.c (.int .i64 a),.c (.int .i64 b),.c (.int .i64 c),.c (.int .i64 d),.c (.int .i64 e),.c (.int .i64 f)])
theorem aaX:ah.eqGuardType ah.depth 121=false:=by kernel_rfl
theorem Yz{s:aB}{ops:Array Oper}{K:aB→Prop}{rest:List Oper}{ty:Nat}{pos:String}{after:Array Edge}{guard:Option (Nat×Bool)}{o dQ:Nat}{x y:Operand}{a b c d e f a' b0 c' d' e' mc:Int}(hw:want ops ⟨some o,.binOp .eql 121 x y dQ,ty,pos,after,guard⟩ s=some true)(ab:s.look x=some (v6 a b c d e f))(ai:s.look y=some (v6 a' b0 c' d' e' mc))(hd:Nat.blt o s.n=true)(h:bm ah ops K rest (s.put (some o) (bl (A1 a b c d e f a' b0 c' d' e' mc)))):bm ah ops K (⟨some o,.binOp .eql 121 x y dQ,ty,pos,after,guard⟩::rest) s :=
 wB hw ab ai rfl rfl (fun W=>EM aaX) (fun W=>by rw[run_eql_struct,show (10000:Nat)=9998+1+1 from rfl,aaW];rfl) rfl hd h
abbrev amc(k rm ph I J T:Int)(dirty:Bool)(hot fnd:List aq)(ch:List (List aq×List Int)):List AC:=[.c (.int .i64 k),.c (.int .i64 rm),.c (.int .i64 ph),.c (.int .i64 I),.c (.int .i64 J),.c (.int .i64 T),.c (.bool dirty),.p (b4 2 hot.length (bZ hot)),.p (b4 2 fnd.length (bZ fnd)),.p (b4 2 ch.length (eB ch))]
abbrev x2(k rm ph I J T:Int)(dirty:Bool)(hot fnd:List aq)(ch:List (List aq×List Int)):ag := .w (.agg (amc k rm ph I J T dirty hot fnd ch))
theorem ajd{k rm ph I J T:Int}{dirty:Bool}{hot fnd:List aq}{ch:List (List aq×List Int)}:aP ah 92 [x2 k rm ph I J T dirty hot fnd ch] (v6 k rm ph I J T):=by
 refine bp (f:=92) Tryz.func92 rfl rfl rfl rfl ?_;(refine eI ?_)
 ((refine bk rfl (c7 rfl rfl rfl aM) ?_))
 exact ag.aU.refl _
abbrev ML:ag:=aQ (.func (.func 95) #[] #[])
def W8(L M:List (List aq×List Int))(k:Nat)(az:List (Nat×ag))(aS:List (Nat×List AC)):Prop :=
 ∃(i:Nat) (ii:Int),i≤L.length∧k=L.length-i∧ii=i∧aS=[]∧az=[(1,rR M),(2,ML),(15,rR L),(16,aL L.length),(17,aL ii)]
theorem ah1{L M:List (List aq×List Int)}(ak:jW L)(Jy:L=M):aP ah 94 [rR L,rR M,ML] (bl true):=by
 have hlen:=ak.1;have h4:(L.length:Int)=M.length:=by rw[Jy]
 refine bp (f:=94) Tryz.func94 rfl rfl rfl rfl ?_;(refine eI ?_);refine oI 32 (W8 L M) L.length _ [] ⟨0,0,dq _,rfl,rfl,rfl,rfl⟩ rfl ⟨rfl,rfl,rfl,rfl,rfl,trivial⟩ trivial rfl ?_;rintro n az aS ⟨j,dB,af,rfl,k0,rfl,rfl⟩ bC;clear bC
 by_cases hp:j<L.length
 ·have p2:dB<(L.length:Int):=by omega
  have p3:0≤dB:=by omega
  have p4:dB<(M.length:Int):=by omega
  obtain⟨V,D,g1⟩:∃V D,L[j]?=some (V,D):=⟨_,_,bE hp⟩;have g2:M[j]?=some (V,D):=by rw[←Jy];exact g1
  obtain⟨iR,fE⟩:=ak.2 _ (cN g1);simp only at iR fE;have kP:=yu k0 g1;have pd:=yu k0 g2;have a8:=afn V V D D fE (by omega) fE (by omega);rw[b5 rfl,b5 rfl] at a8;clear Jy;(refine cI ?_);exact⟨L.length-(j+1),_,[],by omega,⟨j+1,dB+1,hp,rfl,by omega,rfl,rfl⟩,rfl,⟨rfl,rfl,rfl,rfl,rfl,trivial⟩,trivial,rfl⟩
 ·have p2:¬dB<(L.length:Int):=by omega
  (refine eI ?_)
  ((refine bk rfl (aX rfl aM) ?_))
  exact ag.aU.refl _
theorem ah0{L:List (List aq×List Int)}(ak:jW L):aP ah 94 [rR L,rR L,ML] (bl true):=ah1 ak rfl
theorem aim{k rm ph I J T:Int}{dirty:Bool}{hot fnd:List aq}{ch:List (List aq×List Int)}(aZ:hot.length≤1000000)(au:fnd.length≤1000000)(ak:jW ch):aP ah 33 [x2 k rm ph I J T dirty hot fnd ch,x2 k rm ph I J T dirty hot fnd ch] (bl true):=by
 have a8:=ajd (k:=k) (rm:=rm) (ph:=ph) (I:=I) (J:=J) (T:=T) (dirty:=dirty) (hot:=hot) (fnd:=fnd) (ch:=ch);have bL:=LB (D:=hot) (E:=hot) aZ;have eb:=LB (D:=fnd) (E:=fnd) au;have jx:=ah0 ak;rw[b5 rfl] at bL eb;have fb:A1 k rm ph I J T k rm ph I J T=true:=by unfold A1;simp
 refine bp (f:=33) Tryz.func33 rfl rfl rfl rfl ?_;(refine cI ?_);refine Yz rfl rfl rfl rfl ?_;rw[fb];have oK:(dirty==dirty)=true:=by simp
 have anL:decide (dirty=dirty)=true:=by simp
 (refine cI ?_)
 ((refine bk rfl (aX rfl aM) ?_))
 exact ag.aU.refl _
end Go.Proofs.YtklpfooafbjnpaaGreat
