/-
  My own texts,without what this claim does not need. My own text.
-/
import Derived.Test.YtklpfooafbjnpaaGreatSLRoomsK17
set_option maxRecDepth 100000
set_option maxHeartbeats 64000000
set_option linter.unusedVariables false
set_option linter.unusedSimpArgs false
set_option linter.unusedSectionVars false
open Go.Proofs.Tryz renaming prog → ah
namespace Go.Proofs.YtklpfooafbjnpaaGreat
open Go.RowKit
open bw
section
variable{E:List (Int×bP)}{k rm ph I J T rr:Int}{dirty:Bool}{hot fnd L:List aq}{ch:List (List aq×List Int)}{b:Nat}
theorem afN(al:L.length≤1100)(x y:Int){S:dY}(hS:iq rr L (bJ b) S)(g e:Nat):cg ah 260 [bn x y,.w (.one (.p (pf [.c (bJ g)])))] bB (ih b S g e (fr E k rm ph I J T dirty hot fnd ch b)) fun bz aI ap=>aI=bB∧∃S' e',bz=bl (!qj L x y)∧iq rr L (bJ b) S'∧ap=ih b S' g e' (fr E k rm ph I J T dirty hot fnd ch b):=by
 have eU:=U5 (cs:=fr E k rm ph I J T dirty hot fnd ch b) rfl rfl rfl (gE _) (afL al x y) hS g e;obtain⟨v,hv⟩:∃v,v=decide (0≤hy L x y):=⟨_,rfl⟩;rw[show qj L x y=v from hv.symm];rw[←hv] at eU
 have a8:cg ah 257 [aQ (bJ g),bn x y] bB (ih b S g e (fr E k rm ph I J T dirty hot fnd ch b)) fun bz aI ap=>aI=bB∧∃S' e',bz=bl v∧iq rr L (bJ b) S'∧ap=ih b S' g e' (fr E k rm ph I J T dirty hot fnd ch b) :=
  eU.imp (by rintro bz aI ap ⟨S',e',⟨h1,h2⟩,ar,aJ⟩;exact⟨ar,S',e',h1,h2,aJ⟩)
 refine cD (f:=260) Tryz.func260 rfl (cm rfl) (by exact jy) ?_;(refine aR ?_);refine mU rfl rfl rfl rfl a8 (bd.refl _) rfl rfl ?_;rintro _ ap ⟨S',e',rfl,ez,rfl⟩;rw[zE];(refine aR ?_)
 ((refine qc rfl (aX rfl aM) (bd.refl _) rfl xN ?_))
 exact⟨rfl,S',e',rfl,ez,rfl⟩
abbrev MN(g:Nat):ag := .w (.one (.p (l4 (.func 260) [.p (pf [.c (bJ g)])])))
def tD(L:List aq):List aq→Int→Int
 | [],_ => -1
 | q::l,i=>if (!qj L q.1 q.2)=true then i else tD L l (i+1)
theorem PE(L:List aq):∀(l:List aq) (i:Int),0≤i→decide (tD L l i≥0)=l.any (fun q => !qj L q.1 q.2)
 | [],i,_=>rfl
 | q::l,i,h=>by
  have bY:=PE L l (i+1) (by omega);rw[List.any_cons];show decide ((if (!qj L q.1 q.2)=true then i else tD L l (i+1))≥0)=_;cases hp:(!qj L q.1 q.2) with
  | true=>rw[if_pos rfl,Bool.true_or];exact b5 h
  | false=>rw[if_neg (by decide),Bool.false_or];exact bY
def Xh(L V:List aq)(rr:Int)(b g:Nat)(cs:List AC)(n:Nat)(R:aE)(az:List (Nat×ag))(aS:List (Nat×List AC)):Prop :=
 ∃(i:Nat) (ii:Int) (S:dY) (e:Nat),i≤V.length∧n=V.length-i∧ii=i∧tD L V 0=tD L (V.drop i) ii∧iq rr L (bJ b) S∧R=ih b S g e cs∧az=[(0,fD V),(1,MN g),(7,aL V.length),(8,aL ii)]∧aS=[]
theorem afJ(al:L.length≤1100){V:List aq}(mM:V.length≤1100){S:dY}(hS:iq rr L (bJ b) S)(g e:Nat):cg ah 301 [fD V,MN g] bB (ih b S g e (fr E k rm ph I J T dirty hot fnd ch b)) fun bz aI ap=>aI=bB∧∃S' e',bz=aL (tD L V 0)∧iq rr L (bJ b) S'∧ap=ih b S' g e' (fr E k rm ph I J T dirty hot fnd ch b):=by
 refine cD (f:=301) Tryz.func301 rfl (cm rfl) (by exact jy) ?_;(refine aR ?_);refine jv 19 (Xh L V rr b g (fr E k rm ph I J T dirty hot fnd ch b)) V.length (ih b S g e (fr E k rm ph I J T dirty hot fnd ch b)) _ [] ⟨0,0,S,e,dq _,rfl,rfl,rfl,hS,rfl,rfl,rfl⟩ (bd.refl _) rfl ⟨rfl,rfl,rfl,rfl,trivial⟩ trivial rfl ?_;clear hS;rintro n R az aS ⟨j,dB,ko,aH,af,rfl,k0,gJ,hS,rfl,rfl,rfl⟩ bC;clear bC
 by_cases hp:j<V.length
 ·have p2:dB<(V.length:Int):=by omega
  have p3:0≤dB:=by omega
  obtain⟨x,y,g1⟩:∃x y,V[j]?=some (x,y):=⟨_,_,bE hp⟩;have hh:=oR k0 g1;have hd:V.drop j=(x,y)::V.drop (j+1):=by rw[jP hp,(bt.1 g1).2]
  have a8:=afN (E:=E) (k:=k) (rm:=rm) (ph:=ph) (I:=I) (J:=J) (T:=T) (dirty:=dirty) (hot:=hot) (fnd:=fnd) (ch:=ch) al x y hS g aH;rw[hd,show tD L ((x,y)::V.drop (j+1)) dB=if (!qj L x y)=true then dB else tD L (V.drop (j+1)) (dB+1) from rfl] at gJ;cases au:(!qj L x y) with
  | true =>
   rw[au] at gJ a8;rw[if_pos rfl] at gJ;rw[gJ];(refine aR ?_);refine QZ rfl rfl rfl rfl a8 (bd.refl _) rfl rfl ?_;rintro _ ap ⟨S',e',rfl,ez,rfl⟩;rw[zE];(refine aR ?_)
   ((refine qc rfl (aX rfl aM) (bd.refl _) rfl xN ?_))
   exact⟨rfl,S',e',rfl,ez,rfl⟩
  | false =>
   rw[au] at gJ a8;rw[if_neg (by decide)] at gJ;(refine aR ?_);refine QZ rfl rfl rfl rfl a8 (bd.refl _) rfl rfl ?_;rintro _ ap ⟨S',e',rfl,ez,rfl⟩;rw[zE];(refine aR ?_);exact⟨V.length-(j+1),_,_,[],by omega,⟨j+1,dB+1,S',e',hp,rfl,by omega,gJ,ez,rfl,rfl,rfl⟩,bd.refl _,rfl,⟨rfl,rfl,rfl,rfl,trivial⟩,trivial,rfl⟩
 ·have lO:j=V.length:=by omega
  subst lO;rw[List.drop_length] at gJ;rw[show tD L [] dB = -1 from rfl] at gJ;rw[gJ];(refine aR ?_)
  ((refine qc rfl (aX rfl aM) (bd.refl _) rfl xN ?_))
  exact⟨rfl,ko,aH,rfl,hS,rfl⟩
theorem afE(al:L.length≤1100){V:List aq}(mM:V.length≤1100){S:dY}(hS:iq rr L (bJ b) S)(g e:Nat):cg ah 259 [fD V,MN g] bB (ih b S g e (fr E k rm ph I J T dirty hot fnd ch b)) fun bz aI ap=>aI=bB∧∃S' e',bz=bl (V.any fun q => !qj L q.1 q.2)∧iq rr L (bJ b) S'∧ap=ih b S' g e' (fr E k rm ph I J T dirty hot fnd ch b):=by
 have a8:=afJ (E:=E) (k:=k) (rm:=rm) (ph:=ph) (I:=I) (J:=J) (T:=T) (dirty:=dirty) (hot:=hot) (fnd:=fnd) (ch:=ch) al mM hS g e;rw[←PE L V 0 (by decide)];refine cD (f:=259) Tryz.func259 rfl (cm rfl) (by exact jy) ?_;(refine aR ?_);refine mU rfl rfl rfl rfl a8 (bd.refl _) rfl rfl ?_;rintro _ ap ⟨S',e',rfl,ez,rfl⟩;rw[zE];(refine aR ?_)
 ((refine qc rfl (aX rfl aM) (bd.refl _) rfl xN ?_))
 exact⟨rfl,S',e',rfl,ez,rfl⟩
end
section
variable{E:List (Int×bP)}{k rm ph I J T rr:Int}{dirty:Bool}{hot fnd L:List aq}{ch:List (List aq×List Int)}{b:Nat}
theorem agP{f:FuncId}{args:List ag}{cs:List AC}{v:ag}(tU:v.aY=true)(dy:args.all ag.aY=true)(dE:cs.all AC.aY=true)(ct:0<cs.length)(hp:r2 f args cs v cs)(g e:Nat):cg ah f (aQ (bJ g)::args) bB (upd dW 9 (ew g e cs)) fun bz aI ap=>aI=bB∧∃e',bz=v∧ap=upd dW 9 (ew g e' cs):=by
 have h:=cg.Hk 9 g e hp dy dE ct rfl (fun bz aI ap aj=>by
  obtain⟨ds,rfl,rfl,rfl,rfl⟩:=aj;exact⟨tU,rfl,_,rfl,dE,ct⟩)
 refine⟨fun U ad W vs cb da cM=>(h.call U ad W vs cb da cM).mono ?_⟩;rintro cz W' ⟨v1,cf,aI,ap,aW,cn,c5,⟨ay,bg,e',⟨ga,he,rfl,rfl,rfl⟩,rfl,rfl⟩,iZ⟩;obtain rfl:=Lb he;exact⟨_,cf,bB,_,aW,cn,c5,⟨rfl,e',rfl,rfl⟩,iZ⟩
theorem ahO{b:Nat}{S:dY}{g e e':Nat}{cs:List AC}:bK (upd dW 9 (ew g e' cs)) (ih b S g e cs)=ih b S g e' cs:=by
 funext i
 by_cases h:i=9
 ·subst h;rw[fC (bX _ _ _)];exact(bX _ _ _).symm
 ·rw[gy (show upd dW 9 (ew g e' cs) i=none from bN _ _ h)];unfold ih;rw[bN _ _ h,bN _ _ h]
theorem agh{b:Nat}{S:dY}{g e:Nat}{cs:List AC}:bd (upd dW 9 (ew g e cs)) (ih b S g e cs):=fun i r h=>by
 by_cases EH:i=9
 ·subst EH;exact h
 ·rw[bN _ _ EH] at h;cases h
structure Nk (r:Nat) (L:List aq) (e:Int×bP) (c:List aq×List Int):Prop where
 sK:c.1.length≤1100
 K2:c.2.length≤1100
 Rm:∀v∈c.1,DK v
 OY:∀d∈c.2,0≤d∧d≤9223372036854775807
 rt:xK r c.1 c.2=true
 first:c.1[0]?=some (ca e.2.1.1 r,ca e.2.1.2 r)
 last:c.1[c.1.length-1]?=some (ca e.2.2.1 r,ca e.2.2.2 r)
 deep:mI c.2≤(c.2.length:Int)
 hot:(c.1.any fun q => !qj L q.1 q.2)=false
def XB(E:List (Int×bP))(k rm ph I J T:Int)(dirty:Bool)(hot fnd:List aq)(ch:List (List aq×List Int))(b:Nat)(rr:Int)(L:List aq)(g:Nat)(n:Nat)(R:aE)(az:List (Nat×ag))(aS:List (Nat×List AC)):Prop :=
 ∃(i:Nat) (ii:Int) (S:dY) (e:Nat),i≤ch.length∧n=ch.length-i∧ii=i∧iq rr L (bJ b) S∧R=ih b S g e (fr E k rm ph I J T dirty hot fnd ch b)∧az=[(1,.w (.one (.p (pf [.c (bJ g)])))),(3,aQ (oy g 1)),(25,rR ch),(26,aL ch.length),(27,aL ii)]∧aS=[]
theorem afx(r8:M7)(r9:M6){r:Nat}(ao:r≤28)(ae:k=r)(aA:jG (E.map Prod.snd)=true)(fA:E.length≤1000)(al:L.length≤1100)(hlen:ch.length=E.length)(adD:∀(i:Nat) e c,E[i]?=some e→ch[i]?=some c→Nk r L e c):pS 210 [] (fr E k rm ph I J T dirty hot fnd ch b) rr L b (bl true):=by
 refine U4 rfl rfl rfl (gE _) fun S hS g e => ?_;have anQ:(ch.length:Int)=(E.length:Int):=by omega
 refine Fj (f:=210) Tryz.func210 rfl (cm rfl) (by exact jy) (Mc ?_);refine n9 (Bc ?_);(refine aR ?_);refine me ?_;refine abB 1 _ rfl rfl ?_;refine Bc ?_;(repeat first|(with_reducible apply dI (id:=2) [0,1,2,3,4,5,6,7,8,9,10]);kernel_rfl;kernel_rfl;rfl|refine cc ?_);refine px 9 rfl rfl rfl rfl rfl rfl rfl ?_;(refine aR ?_);refine px 9 rfl rfl rfl rfl rfl rfl rfl ?_;(refine aR ?_);refine px 9 rfl rfl rfl rfl rfl rfl rfl ?_;(refine aR ?_);refine jv 78 (XB E k rm ph I J T dirty hot fnd ch b rr L g) ch.length (ih b S g e (fr E k rm ph I J T dirty hot fnd ch b)) _ [] ⟨0,0,S,e,dq _,rfl,rfl,hS,rfl,rfl,rfl⟩ (bd.refl _) rfl ⟨rfl,rfl,rfl,rfl,rfl,trivial⟩ trivial rfl ?_;clear hS;rintro n R az aS ⟨i,ii,ko,aH,hi,rfl,eu,hS,rfl,rfl,rfl⟩ bC;clear bC
 by_cases aj:i<ch.length
 ·have q2:ii<(ch.length:Int):=by omega
  have q3:0≤ii:=by omega
  obtain⟨o,p1,p2,c1,c2,g1⟩:∃o p1 p2 c1 c2,E[i]?=some (o,(p1,p2),(c1,c2)):=⟨_,_,_,_,_,bE (by omega)⟩;obtain⟨V,D,g2⟩:∃V D,ch[i]?=some (V,D):=⟨_,_,bE aj⟩;obtain⟨sK,K2,Rm,OY,rt,fst,agt,deep,aC⟩:=adD i _ _ g1 g2;have kP:=yu eu g2;simp only at kP
  have QF:gM (p1,p2)=true∧gM (c1,c2)=true:=by
   unfold jG at aA;have:=b6.1 aA ((p1,p2),(c1,c2)) (fS.2 ⟨_,cN g1,rfl⟩);simpa [ef] using this
  have eU:=agP (cs:=fr E k rm ph I J T dirty hot fnd ch b) rfl rfl rfl (gE _) (afF (E:=E) (k:=k) (rm:=rm) (ph:=ph) (I:=I) (J:=J) (T:=T) (dirty:=dirty) (hot:=hot) (fnd:=fnd) (ch:=ch) (b:=b) ao ae g1 QF.1 QF.2) g aH;rw[show ((i:Nat):Int)=ii by omega] at eU;have a8:=r8 V D r ao sK K2 Rm OY;have bL:=r9 V D sK K2;rw[rt,←ae] at a8;have oe:0<V.length:=(bt.1 fst).1;have pd:=oR (j:=0) (i:=0) rfl fst;have Xd:=oR (j:=(V.length:Int)-1) (i:=V.length-1) (by omega) agt;have aov:(V.length:Int)≤1100:=by have:V.length≤1100:=sK;omega
  have aou:(0:Int)<(V.length:Int):=by omega
  have ang:¬mI D>(D.length:Int):=by have:mI D≤(D.length:Int):=deep;omega
  generalize mI D=anf at *;generalize ca p1 r=a at *;generalize ca p2 r=a' at *;generalize ca c1 r=c at *;generalize ca c2 r=c' at *;have fG:(!dK a a' a a')=false:=by simp[dK]
  have gC:(!dK c c' c c')=false:=by simp[dK]
  (refine aR ?_);refine mU rfl rfl rfl rfl eU agh rfl rfl ?_;rintro _ ap ⟨aN,rfl,rfl⟩;rw[ahO];(repeat first|(with_reducible apply dI (id:=8) [0,1,2,3,4,5,6,7,8,9,10,11,12,13,14,15,16,17,18,19,20,21,22,23,24,25,26,27,28,29,30,31,32,33,34]);kernel_rfl;kernel_rfl;rfl|refine cc ?_);refine px 9 rfl rfl rfl rfl rfl rfl rfl ?_;(repeat first|refine cc ?_|(with_reducible apply eY);rfl;(repeat first|refine iI ?_|refine fs ?_|refine Ea (xs:=[_]) (cs:=[_]) rfl rfl rfl rfl ?_|(with_reducible apply bT (c:=false));rfl;rfl;(assumption));(with_reducible apply dR));have eb:=afE (E:=E) (k:=k) (rm:=rm) (ph:=ph) (I:=I) (J:=J) (T:=T) (dirty:=dirty) (hot:=hot) (fnd:=fnd) (ch:=ch) al sK hS g aN;rw[aC] at eb;refine mU rfl rfl rfl rfl eb (bd.refl _) rfl rfl ?_;rintro _ ap ⟨yi,ck,rfl,Bq,rfl⟩;rw[zE];(refine aR ?_);exact⟨ch.length-(i+1),_,_,[],by omega,⟨i+1,ii+1,yi,ck,aj,rfl,by omega,Bq,rfl,rfl,rfl⟩,bd.refl _,rfl,⟨rfl,rfl,rfl,rfl,rfl,trivial⟩,trivial,rfl⟩
 ·have q2:¬ii<(ch.length:Int):=by omega
  (refine aR ?_)
  ((refine qc rfl (aX rfl aM) (bd.refl _) rfl xN ?_))
  exact⟨ko,aH,⟨rfl,hS⟩,rfl,rfl⟩
end
def W1(hv fv cv:Value)(k rm ph I J T:Int)(dirty:Bool)(hot fnd:List aq)(ch:List (List aq×List Int))(n:Nat)(R:aE)(az:List (Nat×ag))(aS:List (Nat×List AC)):Prop :=
 ∃(i:Nat) (ii:Int),i≤ch.length∧n=ch.length-i∧ii=i∧R=mw hv fv cv hot fnd ch∧az=[(1,.w (.one (.own 1 0))),(2,.w (.one (.own 2 0))),(18,aQ cv),(19,aL ch.length),(20,aL ii)]∧aS=[(1,lY k rm ph I J T dirty hv fv cv),(2,lY 0 0 0 0 0 0 false (.slice none 0 0) (.slice none 0 0) (.slice none 0 0))]
theorem aj8{hv fv cv:Value}{hot fnd:List aq}{ch:List (List aq×List Int)}:upd (mw hv fv cv hot fnd ch) 3 (wI cv ch)=mw hv fv cv hot fnd ch:=by
 funext k
 by_cases hZ:k=3
 ·subst hZ;rfl
 ·rw[bN _ _ hZ]
theorem afD{k rm ph I J T:Int}{dirty:Bool}{hot fnd:List aq}{ch:List (List aq×List Int)}(aZ:hot.length≤900000)(au:fnd.length≤900000)(ak:jW ch) :
  cg ah 83 [x2 k rm ph I J T dirty hot fnd ch] bB dW fun bz aI ap=>aI=bB∧∃hv fv cv,bz = .w (.agg (lY k rm ph I J T dirty hv fv cv))∧ap=mw hv fv cv hot fnd ch:=by
 have hlen:=ak.1;have dC:=D2 aZ (ub hot) (by rw[ot,Nat.mul_comm]);have gG:=D2 au (ub fnd) (by rw[ot,Nat.mul_comm]);have jb:=NI (n:=ch.length) (xs:=eB ch) (by omega) (b6.2 (OE ch)) (AQ ch);refine cD (f:=83) Tryz.func83 rfl (cm rfl) (by exact jy) ?_;(repeat first|(with_reducible apply hf (id:=1) [0,1,3,4,6,7,2,9,5,8,10,11,12,13,14] [7,10,13]);kernel_rfl;kernel_rfl;rfl|refine cc ?_);refine FN 1 rfl rfl rfl rfl dC rfl rfl (fun v q h => ?_);obtain⟨bU,rfl,rfl⟩:=h;(refine aR ?_);refine FN 2 rfl rfl rfl rfl gG rfl rfl (fun v q h => ?_);obtain⟨di,rfl,rfl⟩:=h
 skip
 refine FN 3 rfl rfl rfl rfl jb rfl rfl (fun v q h => ?_);obtain⟨db,rfl,rfl⟩:=h;(repeat first|refine cc ?_|(with_reducible apply oO 3);(iterate 4 rfl);kernel_rfl;rfl);refine jv 33 (W1 bU di db k rm ph I J T dirty hot fnd ch) ch.length (mw bU di db hot fnd ch) _ [(1,lY k rm ph I J T dirty bU di db),(2,lY 0 0 0 0 0 0 false (.slice none 0 0) (.slice none 0 0) (.slice none 0 0))] ⟨0,0,dq _,rfl,rfl,rfl,rfl,rfl⟩ (bd.refl _) rfl ⟨rfl,rfl,rfl,rfl,rfl,trivial⟩ ⟨rfl,rfl,trivial⟩ rfl ?_;rintro n R az aS ⟨i,ii,hi,rfl,eu,rfl,rfl,rfl⟩ bC;clear bC
 by_cases aj:i<ch.length
 ·obtain⟨V,D,g1⟩:∃V D,ch[i]?=some (V,D):=⟨_,_,bE aj⟩;obtain⟨iR,fE⟩:=ak.2 _ (cN g1);simp only at iR fE;obtain⟨kP,pd⟩:=AP (ii:=ii) eu g1;have a8:=RH V D fE (by omega);have q2:ii<(ch.length:Int):=by omega
  have q3:0≤ii:=by omega
  have q4:0<ch.length:=by omega
  have aH:ii.toNat*2=2*i:=by omega
  have BL:ii.toNat*2+2≤(eB ch).length:=by rw[AQ];omega
  have ck:eP (eB ch) (ii.toNat*2) [.p (b4 2 V.length (bZ V)),.p (b4 1 D.length (cK D))]=eB ch:=by rw[aH];exact OH g1
  (repeat first|(with_reducible apply hf (id:=5) [0,1,2,3,4,5,6] [4000000]);kernel_rfl;kernel_rfl;rfl|refine cc ?_|refine gz ?_|(with_reducible apply ky 3);(iterate 4 rfl);(omega);(assumption);rfl;kernel_rfl;rfl|(with_reducible apply oP 3);(iterate 3 rfl);(assumption);assumption;rfl;kernel_rfl;rfl);refine yZ 3 rfl rfl rfl rfl q4 rfl rfl BL rfl ?_;(refine aR ?_);refine⟨ch.length-(i+1),mw bU di db hot fnd ch,_,[(1,lY k rm ph I J T dirty bU di db),(2,lY 0 0 0 0 0 0 false (.slice none 0 0) (.slice none 0 0) (.slice none 0 0))],by omega,⟨i+1,ii+1,by omega,rfl,by omega,rfl,rfl,rfl⟩,fun k q ae => ?_,rfl,⟨rfl,rfl,rfl,rfl,rfl,trivial⟩,⟨rfl,rfl,trivial⟩,rfl⟩
  have eg:upd (mw bU di db hot fnd ch) 3 (⟨53,2,db,ch.length,eP (eB ch) (ii.toNat*2) [.p (b4 2 V.length (bZ V)),.p (b4 1 D.length (cK D))]⟩:bF)=mw bU di db hot fnd ch:=by
   rw[ck];exact aj8
  exact(congrFun eg k).trans ae
 ·have q2:¬ii<(ch.length:Int):=by omega
  (refine aR ?_)
  ((refine qc rfl (c7 rfl rfl rfl aM) (bd.refl _) rfl (fun j q h=>by cases h) ?_))
  exact⟨rfl,bU,di,db,rfl,rfl⟩
theorem aka{b:Nat}{S:dY}{hv fv cv:Value}{hot fnd:List aq}{ch:List (List aq×List Int)}:bK (mw hv fv cv hot fnd ch) (br 0 (fp (bJ b) S))=eo b S hv fv cv hot fnd ch:=by
 funext i
 match i with
 | 0=>rfl
 | 1=>rfl
 | 2=>rfl
 | 3=>rfl
 | i+4=>rfl
section
variable{E:List (Int×bP)}{r rm:Nat}
def DV(K:Nat)(E:List (Int×bP))(r rm:Nat)(s:bw.bf aq):Prop :=
 cg ah 28 [td E,rT r rm s] bB dW fun bz aI ap=>∃cs,bz = .cl [.one (.own K 0),.one (.c (.bool true))]∧aI=cG K cs∧ek E r rm s cs ap
theorem afh{s:bw.bf aq}(au:hX E r rm)(aZ:s.hot.length≤1100)(vj:s.fnd.length≤900000)(ak:jW s.ch)(ar:s.ph≠3)(Q5:nR r rm [] s.hot=true)
  (hp:∀b,pS 82 [] (fr E r rm s.ph s.I s.J s.T s.dirty s.hot s.fnd s.ch b) rm s.hot b (bl true)):DV 33 E r rm s:=by
 have a8:=Tr (E:=E) (by have:=au.len;omega);rw[au.near] at a8;have bL:=GD (k:=(r:Int));have g1:(decide ((0:Int)≤(r:Int))&&decide ((r:Int)≤28))=true:=by have:=au.r;simp;omega
 rw[g1] at bL;have eb:=Tt (E:=E) (by have:=au.len;omega);have jx:=RN (rm:Int);have pc:=afD (k:=(r:Int)) (rm:=(rm:Int)) (ph:=(s.ph:Int)) (I:=(s.I:Int)) (J:=(s.J:Int)) (T:=(s.T:Int)) (dirty:=s.dirty) (hot:=s.hot) (fnd:=s.fnd) (ch:=s.ch) (by omega) vj ak;have q1:¬(rm:Int)<1:=by have:=au.pos;omega
 have q2:¬(rm:Int)>1024:=by have:=au.room;omega
 have q3:¬(s.ph:Int)=3:=by omega
 have EH:rK (rm:Int)=rm:=by have:=au.pos;have:=au.room;unfold rK;(repeat split) <;> omega
 have ae:hj (r:Int) r:=⟨au.r,.inr (.inr rfl)⟩;refine cD (f:=28) Tryz.func28 rfl (cm rfl) (by exact jy) ?_;(repeat first|(with_reducible apply hf (id:=3) [0,1,2,3,4,5,6,7,8] [31]);kernel_rfl;kernel_rfl;rfl|refine cc ?_|(with_reducible apply eY);rfl;(repeat first|refine iI ?_|refine fs ?_|(with_reducible apply bT (c:=false));rfl;rfl;(exact b8 (by omega)));(with_reducible apply dR));refine Ky 0 rfl rfl rfl rfl jx rfl rfl (fun p S jC => ?_);obtain⟨b,rfl,hS⟩:=jC;rw[EH] at hS;(refine aR ?_);have Ab:=cg.at 33 (afT (E:=E) (k:=(r:Int)) (rm:=(rm:Int)) (ph:=(s.ph:Int)) (I:=(s.I:Int)) (J:=(s.J:Int)) (T:=(s.T:Int)) (dirty:=s.dirty) (fnd:=s.fnd) (ch:=s.ch) ae aZ S hS) rfl rfl (fun bz ds ap aj=>by obtain⟨rfl,rfl,_⟩:=aj;exact⟨rfl,rfl⟩);refine oN 33 rfl rfl rfl rfl Ab rfl rfl (bd.refl _) rfl rfl rfl ?_;rintro _ _ _ ⟨rfl,rfl,tk,L',Bp,ack,rfl⟩;obtain rfl:=ack Q5;rw[show bK (br 0 (fp (bJ b) tk)) (upd dW 0 (fp (bJ b) S))=br 0 (fp (bJ b) tk) from CG,Q5];(refine aR ?_);have M5:=cg.at 33 (hp b tk Bp) rfl rfl (fun bz ds ap aj=>by obtain⟨rfl,rfl,_⟩:=aj;exact⟨rfl,rfl⟩);refine oN 33 rfl rfl rfl rfl M5 rfl rfl (bd.refl _) rfl rfl rfl ?_;rintro _ _ _ ⟨rfl,rfl,yi,Bq,rfl⟩;rw[CG];(refine aR ?_);refine mU rfl rfl rfl rfl pc (fun i r h=>by cases h) rfl rfl ?_;rintro _ ap ⟨hv,fv,cv,rfl,rfl⟩;rw[aka];(refine aR ?_)
 ((refine w0 33 rfl (aX rfl (aX rfl aM)) rfl (bd.refl _) rfl rfl ?_))
 exact⟨_,rfl,rfl,hv,fv,cv,b,yi,.c jH,Bq,rfl,fun h=>absurd h ar,rfl,rfl⟩
end
section
variable{P:Program}{f:FuncId}{args:List ag}
theorem cg.agM{k:Nat}(i:Nat){Q:List AC→aE→Prop}(h:cg P f args bB dW fun v aI ap=>∃cs,v = .cl [.one (.own k 0),.one (.c (.bool true))]∧aI=cG k cs∧Q cs ap)(aj:∀cs ap,Q cs ap→cs.all AC.aY=true∧0<cs.length∧ap i=none) :
  cg P f args bB dW fun v aI ap=>aI=bB∧∃g e cs bg,Q cs bg∧v = .cl [.one (.c (bJ g)),.one (.c (.bool true))]∧ap=upd bg i (ew g e cs):=by
 refine⟨fun U ad W vs cb da cM=>(h.call U ad W vs cb da cM).mono ?_⟩;rintro cz W' ⟨v,r,aI,ap,aW,cn,rfl,⟨cs,rfl,rfl,nC⟩,hI,oj,ha,bD,cp,cO,cP,aa⟩;obtain⟨c1,c2,jg⟩:=aj _ _ nC;obtain⟨e,wk⟩:=Ek (aW:=aW) c2 c1 jg hI;obtain⟨xs,rfl,al,ab⟩:=oj;refine⟨_,.cl [.one (.c (bJ (aW k))),.one (.c (.bool true))],bB,_,aW,cn,rfl,⟨rfl,aW k,e,cs,ap,nC,rfl,rfl⟩,wk,⟨xs,rfl,al,fun i x v h1 h2 => ?_⟩,fun j af=>absurd af (ag.c9 rfl j),fun k cs h=>(by cases h),fun i r h=>(by cases h),cO,fun b cQ=>cP b ((su c2 jg rfl).2 cQ),aa⟩
 match i,h1 with
 | 0,h1=>cases h1;exact⟨ab 0 _ v rfl h2,rfl⟩
 | 1,h1=>cases h1;exact ab 1 _ v rfl h2
end
section
variable{A B:List (List cj)}{op fill rung cap:Int}{r:Nat}
theorem afb{s:bw.bf aq}{st:Nat}(cr:A.length≤900000)(cY:B.length≤900000)(ao:∀r∈A++B,r.length≤900000)(h:ir A B op fill rung cap=0)(gi:(st:Int)≤iU (cL A B).length cap)(ae:rung≤(r:Int))(bR:s.ph≠5)(dm:DV 33 (cL A B) r cap.toNat s):pQ 65 df (cL A B) cap.toNat 54 [.w (.agg (h9 A B op fill rung cap)),aL st,rT r cap.toNat s] vF ⟨r,st,s⟩:=by
 obtain⟨⟨a0,a1⟩,⟨iP,b1⟩,c0,c1,wV,PW⟩:=wJ h;obtain⟨si,rfl⟩:∃si:Nat,cap=si:=⟨cap.toNat,by omega⟩;rw[kH] at *;have a8:=Gy (op:=op) (fill:=fill) (rung:=rung) (cap:=(si:Int)) (A:=A) (B:=B) (by omega) (by omega) (fun r q=>by have:=ao r q;omega);have bL:=LA (op:=op) (fill:=fill) (rung:=rung) (cap:=(si:Int)) cr cY (fun r q=>ao r (sW _ q)) (fun r q=>ao r (xD _ q)) (by rw[sd];omega);have eb:=Tp (n:=((cL A B).length:Int)) (rm:=(si:Int)) (by omega) (by rw[sd];omega) iP b1;have jx:=cg.agM 4 (Q:=fun cs ap=>ek (cL A B) r si s cs ap) dm fun cs ap bh=>⟨bh.closed,bh.ia,bh.ke 4 (cF _)⟩;have q1:¬(st:Int)<0:=by omega
 have q2:¬(st:Int)>iU (cL A B).length (si:Int):=by omega
 have q3:¬(r:Int)<rung:=by omega
 have q4:¬(s.ph:Int)=5:=by omega
 have lV:(!decide ((si:Int)=(si:Int)))=false:=by simp
 rw[h] at a8;generalize iU (cL A B).length (si:Int)=fu at *;refine cD (f:=54) Tryz.func54 rfl (cm rfl) (by exact jy) ?_;(repeat first|refine cc ?_|(with_reducible apply eY);rfl;(repeat first|refine iI ?_|refine fs ?_|(with_reducible apply bT (c:=false));rfl;rfl;(first|assumption|exact b8 (by omega)));(with_reducible apply dR));refine mU rfl rfl rfl rfl jx (fun i r h=>by cases h) rfl rfl ?_;rintro _ ap ⟨g,e,cs,bg,bh,rfl,rfl⟩;rw[CH];(refine aR ?_)
 ((refine w0 65 rfl (aX rfl (aX rfl aM)) rfl (bd.refl _) rfl rfl ?_))
 exact⟨_,_,rfl,rfl,rfl,g,e,cs,bg,bh,rfl,rfl⟩
theorem afa{s:bw.bf aq}{st:Nat}(cr:A.length≤900000)(cY:B.length≤900000)(ao:∀r∈A++B,r.length≤900000)(h:ir A B op fill rung cap=0)(gi:(st:Int)≤iU (cL A B).length cap)(ae:rung≤(r:Int))(bR:s.ph≠5)(dm:DV 33 (cL A B) r cap.toNat s)(j:Nat){bO:Nat→Nat}(fe:∀j,bO (bO j)=j):pQ j bO (cL A B) cap.toNat 54 [.w (.agg (h9 A B op fill rung cap)),aL st,rT r cap.toNat s] vF ⟨r,st,s⟩:=(afb cr cY ao h gi ae bR dm).tO9 rfl Tl j fe
theorem ah8{s:bw.bf aq}{rm:Nat}(cr:A.length≤900000)(cY:B.length≤900000)(ao:∀r∈A++B,r.length≤900000)(h:ir A B op fill rung cap=0):aP ah 54 [.w (.agg (h9 A B op fill rung cap)),aL (-1),rT r rm s] (.cl [.one (.c (.pointer none)),.one (.c (.int .i64 141))]):=by
 obtain⟨⟨a0,a1⟩,⟨iP,b1⟩,c0,c1,wV,PW⟩:=wJ h;have a8:=Gy (op:=op) (fill:=fill) (rung:=rung) (cap:=cap) (A:=A) (B:=B) (by omega) (by omega) (fun r q=>by have:=ao r q;omega);have bL:=LA (op:=op) (fill:=fill) (rung:=rung) (cap:=cap) cr cY (fun r q=>ao r (sW _ q)) (fun r q=>ao r (xD _ q)) (by rw[sd];omega);rw[h] at a8;refine bp (f:=54) Tryz.func54 rfl rfl rfl rfl ?_;(refine cI ?_)
 ((refine bk rfl (aX rfl (aX rfl aM)) ?_))
 exact ag.aU.refl _
end
theorem aeK{r:Nat}{v:aq}(h:dZ r v.1 v.2=true):DK v:=by
 obtain⟨_,au⟩:=ES r;unfold dZ wi at h;simp only[ef,cU] at h;unfold DK;omega
section
variable{E:List (Int×bP)}{r rm:Nat}
theorem af5{s:bw.bf aq}(hw:hX E r rm)(aa:iN (bo E r rm) s)(al:lL (bo E r rm) (sR (E.map Prod.snd) r) s):∀(i:Nat) e c,E[i]?=some e→s.ch[i]?=some c→Nk r s.hot e c:=by
 rintro i ⟨o,⟨a,b⟩,⟨c,d⟩⟩ ⟨V,D⟩ fA hi;have ae:=al.jf i _ hi;obtain⟨g1,_⟩:=ae.gI;simp only at g1;obtain⟨w1,w2,w3,zT,MQ,MR⟩:=g1;have yJ:=(hw.wK aa al).2 _ (cN hi);simp only at yJ;have Fm:=(IK hw.ok aa al (cN hi)).2;simp only at Fm;have an:(bo E r rm).R=rm:=rfl;rw[an] at Fm;have j9:=hw.room;have Qh:=ae.deep;simp only at Qh
 have O6:(E.map Prod.snd).getD i lq=((a,b),(c,d)):=by
  rw[xG,dG,fA];rfl
 have J0:=ae.head;have BD:=ae.last
 have IR:(bo E r rm).P i=(ca a r,ca b r):=by
  show lU r ((E.map Prod.snd).getD i lq).1=_;rw[O6];rfl
 have IU:(bo E r rm).Q i=(ca c r,ca d r):=by
  show lU r ((E.map Prod.snd).getD i lq).2=_;rw[O6];rfl
 rw[IR] at J0;rw[IU] at BD;simp only at J0 BD;refine⟨yJ.2,by have:=yJ.1;have:=yJ.2;show D.length≤1100;omega,fun v hv=>aeK (w3 v hv),fun e he=>by have:=Fm e he;omega,U3 ⟨w1,w2,w3,zT,fun e he=>by have:=Fm e he;omega,MQ,MR⟩,by rw[←List.head?_eq_getElem?];exact J0,by rw[←List.getLast?_eq_getElem?];exact BD,?_,?_⟩
 ·exact(aaz (D:=D) (m:=(D.length:Int)) (by omega) fun e he=>(Qh e he).2).2
 ·show (V.any fun q => !qj s.hot q.1 q.2)=false;rw[List.any_eq_false];intro q aj;have h1:0≤hy s.hot q.1 q.2:=sP.2 (ae.hot q aj);unfold qj;simp[h1]
theorem VY{rr:Int}:∀ {l L:List aq},(L++l).Nodup→(∀x∈l,dZ r x.1 x.2=true)→(L.length:Int)+(l.length:Int)≤rr→nR r rr L l=true
 | [],L,_,_,_=>rfl
 | q::l,L,aA,aw,ao=>by
  have aj:q∉L:=fun h=>by
   have:=(List.nodup_append.1 aA).2.2 q h q (hA ..);exact this rfl
  have aF:¬ 0≤hy L q.1 q.2:=fun h=>aj (sP.1 h);have a7:¬rr≤(L.length:Int):=by rw[hP] at ao;omega
  have aa:kR rr L q.1 q.2=true:=by unfold kR;rw[if_neg aF,if_neg a7]
  show (dZ r q.1 q.2&&(kR rr L q.1 q.2&&nR r rr (n4 rr L q.1 q.2) l))=true;rw[aw q (hA ..),aa,NJ aa,pH,pH];refine VY (by rw[hz];exact aA) (fun x ab=>aw x (k5 _ ab)) ?_;rw[cZ];rw[hP] at ao;show ((L.length+1:Nat):Int)+_≤_;omega
theorem al9{s:bw.bf aq}(aa:iN (bo E r rm) s):nR r rm [] s.hot=true:=by
 refine VY (by simpa using aa.nd) (fun x ab=>aa.hn x ab) ?_;have:s.hot.length≤rm:=aa.room;show ((0:Nat):Int)+_≤_;omega
end
section
variable{P:Program}{f:FuncId}{m0:Mem}{R0:aE}{Post:ag→Mem→aE→Prop}
theorem cg.Cj{x y:ag}{ys:List ag}(h:cg P f (y::ys) m0 R0 Post)(EE:y.aY=true)(cs:ys.all ag.aY=true)(hle:x.aU y):cg P f (x::ys) m0 R0 Post :=
 ⟨fun U ad W vs cb da cM=>h.call U ad W vs cb (fun z aT j af=>by
  rcases fi.1 aT with rfl|aT
  ·exact absurd af (ag.c9 EE j)
  ·exact absurd af (ag.c9 (b6.1 cs z aT) j)) ⟨cM.1,fun i z v aT hv=>by
  match i,aT with
  | 0,aT=>cases aT;exact hle U ad W v (cM.2 0 x v rfl hv)
  | i+1,aT=>exact cM.2 (i+1) z v aT hv⟩⟩
end
abbrev vU:List (List cj):=[[(0,0),(4,0),(4,4),(0,4)]]
abbrev ev:List (Int×bP):=cL vU []
def hU:bw.bf aq:=⟨4,0,0,0,false,[(0,0)],[],[([(0,0)],[]),([(0,0)],[]),([(0,0)],[]),([(0,0)],[])]⟩
theorem Mv:ir vU [] 0 0 0 1=0:=by decide +kernel
theorem alN:(fj ev 1 [0,3,1000] (gN ev 1 0)).1=[0,3,11]:=by decide +kernel
theorem alO:(fj ev 1 [0,3,1000] (gN ev 1 0)).2.k=4∧(fj ev 1 [0,3,1000] (gN ev 1 0)).2.st=14:=by decide +kernel
theorem alP:(fj ev 1 [0,3,1000] (gN ev 1 0)).2.s.ph=4∧(fj ev 1 [0,3,1000] (gN ev 1 0)).2.s.I=0∧(fj ev 1 [0,3,1000] (gN ev 1 0)).2.s.J=0∧(fj ev 1 [0,3,1000] (gN ev 1 0)).2.s.T=0∧(fj ev 1 [0,3,1000] (gN ev 1 0)).2.s.dirty=false∧(fj ev 1 [0,3,1000] (gN ev 1 0)).2.s.hot=[(0,0)]∧(fj ev 1 [0,3,1000] (gN ev 1 0)).2.s.fnd=[]∧(fj ev 1 [0,3,1000] (gN ev 1 0)).2.s.ch=hU.ch:=by decide +kernel
theorem akC{α:Type}{s t:bw.bf α}(h1:s.ph=t.ph)(h2:s.I=t.I)(ar:s.J=t.J)(aJ:s.T=t.T)(bR:s.dirty=t.dirty)(fb:s.hot=t.hot)(kU:s.fnd=t.fnd)(oa:s.ch=t.ch):s=t:=by
 cases s;cases t;simp only at *;subst h1 h2 ar aJ bR fb kU oa;rfl
theorem agd{l m:dJ}(h1:l.k=m.k)(h2:l.st=m.st)(ar:l.s=m.s):l=m:=by
 cases l;cases m;simp only at *;subst h1 h2 ar;rfl
theorem VI:fj ev 1 [0,3,1000] (gN ev 1 0)=([0,3,11],⟨4,14,hU⟩):=by
 obtain⟨bD,cp⟩:=alO;obtain⟨a,b,c,d,e,f,g,h⟩:=alP;exact Prod.ext alN (agd bD cp (akC a b c d e f g h))
theorem VH:hX ev 4 1:=⟨by decide,by decide,by decide,by decide,by decide⟩
theorem Mw:hX ev 0 1:=⟨by decide,by decide,by decide,by decide,by decide⟩
theorem VF:kn ev 1 (gN ev 1 0):=by
 have:=SJ (E:=ev) (rm:=1) (k:=0) Mw;unfold kn;have e:29*qX ev.length 1=17400:=by decide
 show 0+pz ev 1 (gN ev 1 0)≤_;omega
theorem Mx:iM ev 1 ⟨4,14,hU⟩∧kn ev 1 ⟨4,14,hU⟩:=by
 have:=He [0,3,1000] (zh (E:=ev) (rm:=1) (k:=0) Mw) VF;rwa [VI] at this
theorem alR(b:Nat):pS 82 [] (fr ev 4 1 4 0 0 0 false [(0,0)] [] hU.ch b) 1 [(0,0)] b (bl true):=by
 have hi:=Mx.1.inv
 have al:lL (bo ev 4 1) (sR (ev.map Prod.snd) 4) hU:=by
  rcases aaT hi (by decide) with h|h
  ·exact h.laid
  ·exact absurd h.ph (by decide)
 exact afM (afK (by decide) (by decide) (by decide) (afx afm RI (r:=4) (by decide) rfl (by decide) (by decide) (by decide) (by decide) (af5 VH hi.1 al)))
theorem VG:jW hU.ch:=⟨by decide,by decide⟩
theorem alQ:DV 33 ev 4 1 hU:=afh VH (by decide) (by decide) VG (by decide) (al9 Mx.1.inv.1) fun b=>alR b
def sa(n:Nat)(R:aE):Prop:=(∀i,i<n→∃q,R i=some q)∧∀i,n≤i→R i=none
theorem fV.up{E:List (Int×bP)}{rm:Nat}{l:dJ}{cs:List AC}{R:aE}(h:fV E rm l cs R):sa 5 R:=⟨h.xS,h.ke⟩
theorem Mj{i n:Nat}(aA:n≤10)(h:fT i<n):20≤i:=by
 unfold fT at h
 (repeat' split at h) <;> omega
section
variable{n m:Nat}{lM DT ln yh:aE}
theorem zQ:two lM ln=bK lM (ln.bc fT):=rfl
theorem xW(aV:sa n lM)(aa:sa m ln)(aA:n≤10)(hm:m≤10):bd (ln.bc fT) (two lM ln):=fun i q h=>by
 have h1:ln (fT i)=some q:=h;have hi:20≤i:=Mj hm (Nat.not_le.1 fun hle=>by rw[aa.2 _ hle] at h1;cases h1);rw[zQ,gy (aV.2 i (by omega))];exact h
theorem rQ(aV:sa n lM)(JF:sa n DT):bK DT (two lM ln)=two DT ln:=by
 funext i;rw[zQ,zQ]
 by_cases hi:i<n
 ·obtain⟨q,aj⟩:=JF.1 i hi;rw[fC aj,fC aj]
 ·rw[gy (JF.2 i (by omega)),gy (aV.2 i (by omega)),gy (JF.2 i (by omega))]
theorem xX(aV:sa n lM)(aa:sa m ln)(mP:sa m yh)(aA:n≤10)(hm:m≤10):bK (yh.bc fT) (two lM ln)=two lM yh:=by
 funext i;rw[zQ,zQ]
 by_cases aJ:fT i<m
 ·obtain⟨q,aj⟩:=mP.1 _ aJ;have hi:=Mj hm aJ;rw[fC (show yh.bc fT i=some q from aj),gy (aV.2 i (by omega))];exact aj.symm
 ·have h1:yh.bc fT i=none:=mP.2 _ (by omega);have h2:ln.bc fT i=none:=aa.2 _ (by omega);rw[gy h1];cases aj:lM i with
  | some q=>rw[fC aj,fC aj]
  | none=>rw[gy aj,gy aj,h1,h2]
theorem MH(aV:sa n lM)(aa:sa m ln)(aA:n≤10)(hm:m≤10):bK (ln.bc fT) lM=two lM ln:=by
 funext i;rw[zQ];cases aj:ln.bc fT i with
 | some q =>
  have h1:ln (fT i)=some q:=aj;have hi:20≤i:=Mj hm (Nat.not_le.1 fun hle=>by rw[aa.2 _ hle] at h1;cases h1);rw[fC aj,gy (aV.2 i (by omega))];exact aj.symm
 | none =>
  rw[gy aj];cases ao:lM i with
  | some r=>exact(fC ao).symm
  | none=>rw[gy ao,aj]
end
theorem air:aP ah 38 [] (bl true):=by
 obtain⟨KI,Zy⟩:=Mx;have ao:∀r∈vU++[],r.length≤900000:=by decide
 have HT:pQ 21 df ev 1 39 [.w (.agg [hc vU,.c (.slice none 0 0),.c (.int .i64 0),.c (.int .i64 0),.c (.int .i64 0),.c (.int .i64 1)])] vF (gN ev 1 0):=cg.Cj (RJ (A:=vU) (B:=[]) (by decide) (by decide) ao Mv 21 oo) rfl rfl KN;have XF:=Cj (ah9 (A:=[]) (B:=[]) (op:=0) (fill:=0) (rung:=0) (cap:=0) (by decide) (by decide) (by decide) (by decide)) rfl rfl ae7;rw[show ir [] [] 0 0 0 0=113 by decide] at XF;have ko:=RK (zh (E:=ev) (rm:=1) (k:=0) Mw) VF (bs:=[0,3,1000]) (by decide) (by decide);rw[VI] at ko;have ko:=ko.nn 21 (bO:=df) oo rfl rfl;have r8:=(KU KI).nn 21 (bO:=df) oo rfl rfl;have n0:uP 21 df ev 1 48 [] ⟨4,14,hU⟩ (aL 14) ⟨4,14,hU⟩:=(afe (E:=ev) (rm:=1) (l:=⟨4,14,hU⟩)).nn 21 (bO:=df) oo rfl rfl;have Ak:pQ 49 fT ev 1 54 [.w (.agg [hc vU,.c (.slice none 0 0),.c (.int .i64 0),.c (.int .i64 0),.c (.int .i64 0),.c (.int .i64 1)]),aL 14,rT 4 1 hU] vF ⟨4,14,hU⟩:=cg.Cj (afa (A:=vU) (B:=[]) (cap:=1) (r:=4) (s:=hU) (st:=14) (by decide) (by decide) ao Mv (by decide) (by decide) (by decide) alQ 49 zI) rfl rfl KN;have amK:=Cj (ah8 (A:=vU) (B:=[]) (op:=0) (fill:=0) (rung:=0) (cap:=1) (r:=4) (rm:=1) (s:=hU) (by decide) (by decide) ao Mv) rfl rfl KN;have uL:uP 21 df ev 1 56 [] ⟨4,14,hU⟩ (bl true) ⟨4,14,hU⟩:=(KS (E:=ev) (rm:=1) (l:=⟨4,14,hU⟩)).nn 21 (bO:=df) oo rfl rfl;have W4:uP 49 fT ev 1 56 [] ⟨4,14,hU⟩ (bl true) ⟨4,14,hU⟩:=(KS (E:=ev) (rm:=1) (l:=⟨4,14,hU⟩)).nn 49 (bO:=fT) zI rfl rfl;have ti:uP 21 df ev 1 51 [] ⟨4,14,hU⟩ (aL 4) ⟨4,14,hU⟩:=(KT (E:=ev) (rm:=1) (l:=⟨4,14,hU⟩)).nn 21 (bO:=df) oo rfl rfl;have nl:uP 21 df ev 1 43 [] ⟨4,14,hU⟩ (bl false) ⟨4,14,hU⟩:=(RL KI (by decide)).nn 21 (bO:=df) oo rfl rfl;have fL:uP 21 df ev 1 44 [] ⟨4,14,hU⟩ (aL 0) ⟨4,14,hU⟩:=(KR (E:=ev) (rm:=1) (l:=⟨4,14,hU⟩) VG).nn 21 (bO:=df) oo rfl rfl;have HU:=Tp (n:=4) (rm:=1) (by decide) (by decide) (by decide) (by decide);rw[show iU 4 1=17400 by decide] at HU;have Nb:=tY (j:=0) (i:=0) (l:=[0,3,11]) rfl rfl;have kP:=tY (j:=1) (i:=1) (l:=[0,3,11]) rfl rfl;have pd:=tY (j:=2) (i:=2) (l:=[0,3,11]) rfl rfl;clear KI Zy ao;generalize gN ev 1 0=XA at *;refine bp (f:=38) Tryz.func38 rfl rfl rfl rfl ?_;refine sf ?_;(refine aR ?_);refine xg 21 df rfl rfl rfl rfl HT rfl rfl rfl rfl (fun cs qQ aO => ?_);rw[CH];(refine nU ?_);refine ka 21 df rfl rfl rfl rfl rfl rfl rfl rfl ko aO (bd.refl _) (fun IF nX dC => ?_);rw[show bK (aE.bc df nX) (aE.bc df qQ)=aE.bc df nX from aO.bK dC];(refine aR ?_);refine ka 21 df rfl rfl rfl rfl rfl rfl rfl rfl r8 dC (bd.refl _) (fun EC oG gG => ?_);rw[show bK (aE.bc df oG) (aE.bc df nX)=aE.bc df oG from dC.bK gG];(repeat first|(with_reducible apply hf (id:=8) [0,1,3,2,4,5,6,7,8,9] [47,49,2000021,2000049]);kernel_rfl;kernel_rfl;rfl|refine cc ?_);refine ka 21 df rfl rfl rfl rfl rfl rfl rfl rfl n0 gG (bd.refl _) (fun aaf tj jb => ?_);rw[show bK (aE.bc df tj) (aE.bc df oG)=aE.bc df tj from gG.bK jb]
 skip
 refine xg 49 fT rfl rfl rfl rfl Ak rfl rfl rfl rfl (fun ds l7 aG => ?_);rw[show bK (aE.bc fT l7) (aE.bc df tj)=two tj l7 from MH jb.up aG.up (by decide) (by decide)];(repeat first|(with_reducible apply hf (id:=10) [0,1,2,3,4,5,6,7,8,9,10,11,12,13,14,15,16,17,18,19,20,21,22,23,24,25,27,28,29,30,31,32,33,26,34,35,36,37,38,39,40,41,42,43,44,45,46,47,48,49,50,51,52,53,54,55,56,57,58,59,60,61,62,63,64,65,66,67,68,69,70,71,72] [75,79,84,96,101,120,2000021,2000049]);kernel_rfl;kernel_rfl;rfl|refine cc ?_|(with_reducible apply eY);rfl;(repeat first|refine iI ?_|refine fs ?_|(with_reducible apply bT (c:=true));rfl;rfl;(exact b5 (by omega)));(with_reducible apply dR));refine ka 21 df rfl rfl rfl rfl rfl rfl rfl rfl uL jb rO (fun aag ye wa => ?_);rw[show bK (aE.bc df ye) (two tj l7)=two ye l7 from rQ jb.up wa.up];(refine aR ?_);refine ka 21 df rfl rfl rfl rfl rfl rfl rfl rfl ti wa rO (fun am6 HX HA => ?_);rw[show bK (aE.bc df HX) (two ye l7)=two HX l7 from rQ wa.up HA.up];(repeat first|refine cc ?_|(with_reducible apply eY);rfl;(repeat first|refine iI ?_|(with_reducible apply bT (c:=true));rfl;rfl;(exact b5 (by omega)));(with_reducible apply dR));refine ka 21 df rfl rfl rfl rfl rfl rfl rfl rfl n0 HA rO (fun am7 HY HB => ?_);rw[show bK (aE.bc df HY) (two HX l7)=two HY l7 from rQ HA.up HB.up];(repeat first|refine cc ?_|(with_reducible apply eY);rfl;(repeat first|refine iI ?_|(with_reducible apply bT (c:=true));rfl;rfl;(exact b5 (by omega)));(with_reducible apply dR));refine ka 21 df rfl rfl rfl rfl rfl rfl rfl rfl nl HB rO (fun am8 HZ HC => ?_);rw[show bK (aE.bc df HZ) (two HY l7)=two HZ l7 from rQ HB.up HC.up];(refine aR ?_);refine ka 21 df rfl rfl rfl rfl rfl rfl rfl rfl fL HC rO (fun am9 Nu HD => ?_);rw[show bK (aE.bc df Nu) (two HZ l7)=two Nu l7 from rQ HC.up HD.up];(repeat first|refine cc ?_|(with_reducible apply eY);rfl;(repeat first|refine iI ?_|(with_reducible apply bT (c:=true));rfl;rfl;(exact b5 (by omega)));(with_reducible apply dR));refine ka 49 fT rfl rfl rfl rfl rfl rfl rfl rfl W4 aG (xW HD.up aG.up (by decide) (by decide)) (fun EF r6 du => ?_);rw[xX HD.up aG.up du.up (by decide) (by decide)];(refine nU ?_)
 ((refine bk rfl (aX rfl aM) ?_))
 exact ag.aU.refl _
theorem KM{o:cT aq}{ok:Nat→List aq×List Int→Prop}(ae:lm o ok):∀(n:Nat) {s:bw.bf aq},iO o ok s→4≤s.ph→hq o n s=s
 | 0,s,_,_=>rfl
 | n+1,s,h,aJ=>by
  have e:=(vV ae h).2.2 aJ;show hq o n (dn o s)=s;rw[e];exact KM ae n h aJ
theorem RD{o:cT aq}{ok:Nat→List aq×List Int→Prop}(ae:lm o ok){s:bw.bf aq}(h:iO o ok s){m n:Nat}(hm:4≤(hq o m s).ph)(aA:4≤(hq o n s).ph):hq o m s=hq o n s:=by
 have key:∀a b,a≤b→4≤(hq o a s).ph→hq o a s=hq o b s:=fun a b mN aV=>by
  obtain⟨d,rfl⟩:=Nat.exists_eq_add_of_le mN;rw[KL];exact(KM ae d (RA ae a h).1 aV).symm
 rcases Nat.le_total m n with q|q
 ·exact key m n q hm
 ·exact(key n m q aA).symm
theorem RB{o:cT aq}(n:Nat)(s:bw.bf aq):hq o (n+1) s=dn o (hq o n s):=by
 rw[KL];rfl
section
variable{E:List (Int×bP)}{rm:Nat}
structure qO (E:List (Int×bP)) (rm dU:Nat) (l:dJ):Prop where
 over:∀j,dU≤j→j<l.k→∃m,(hq (bo E j rm) m (gO (bo E j rm))).ph=5
 here:∃m,l.s=hq (bo E l.k rm) m (gO (bo E l.k rm))
 low:dU≤l.k
theorem qO.new(dU:Nat):qO E rm dU (gN E rm dU):=⟨fun j h1 h2=>by have h2:j<dU:=h2;omega,⟨0,rfl⟩,cF _⟩
theorem qO.step{dU:Nat}{l:dJ}(h:qO E rm dU l):qO E rm dU (fQ E rm l):=by
 unfold fQ
 by_cases aJ:4≤l.s.ph
 ·rw[if_pos aJ];exact h
 ·rw[if_neg aJ];obtain⟨m,hm⟩:=h.here
  by_cases bR:(dn (bo E l.k rm) l.s).ph=5
  ·rw[if_pos bR];refine⟨fun j h1 h2 => ?_,⟨0,rfl⟩,Nat.le_succ_of_le h.low⟩;have h2:j<l.k+1:=h2
   by_cases e:j=l.k
   ·subst e;exact⟨m+1,by rw[RB,←hm];exact bR⟩
   ·exact h.over j h1 (by omega)
  ·rw[if_neg bR];exact⟨h.over,⟨m+1,by show dn (bo E l.k rm) l.s=hq (bo E l.k rm) (m+1) _;rw[RB,←hm]⟩,h.low⟩
theorem U8{dU:Nat}:∀(n:Nat) {l:dJ},qO E rm dU l→qO E rm dU (e5 E rm n l).2
 | 0,l,h=>h
 | n+1,l,h=>by
  unfold e5
  split
  ·exact h
  ·exact U8 n h.step
end
section
variable{α:Type} [DecidableEq α]
def pJ(o:cT α)(R:Nat):cT α:={o with R:=R}
variable{o:cT α}{R:Nat}
theorem Fu(an:o.R≤R){s:bw.bf α}{q:α}(h:(cS o s q).ph≠5):cS (pJ o R) s q=cS o s q:=by
 unfold cS at h ⊢
 by_cases h1:q∈s.hot
 ·rw[if_pos h1,if_pos h1]
 ·rw[if_neg h1] at h;rw[if_neg h1,if_neg h1]
  by_cases h2:s.hot.length<o.R
  ·rw[if_pos h2,if_pos (show s.hot.length<(pJ o R).R from jM h2 an)]
  ·rw[if_neg h2] at h;exact absurd rfl h
theorem ac7(an:o.R≤R){s:bw.bf α}:∀ {q:Option α},(iS o s q).ph≠5→iS (pJ o R) s q=iS o s q
 | some x,h=>Fu an h
 | none,_=>rfl
theorem adV(an:o.R≤R){s:bw.bf α}:∀ {q:Option α},(bw.dA o s q).ph≠5→bw.dA (pJ o R) s q=bw.dA o s q
 | some x,h=>by
  have e:∀fh:cT α,bw.dA fh s (some x)=if (cS fh s x).ph=5 then cS fh s x else {cS fh s x with dirty:=true}:=fun _=>rfl
  rw[e] at h;rw[e,e]
  by_cases h1:(cS o s x).ph=5
  ·rw[if_pos h1] at h;exact absurd h1 h
  ·rw[Fu an h1]
 | none,_=>rfl
theorem alU(an:o.R≤R){s:bw.bf α}(h:(dn o s).ph≠5):dn (pJ o R) s=dn o s:=by
 unfold dn at h ⊢
 split at h
 ·rename_i e;unfold q5 at h ⊢
  by_cases h1:(cS o s (o.P s.I)).ph=5
  ·rw[if_pos h1] at h;exact absurd h1 h
  ·rw[if_neg h1] at h;have aH:cS (pJ o R) s ((pJ o R).P s.I)=cS o s (o.P s.I):=Fu an h1
   by_cases h2:(cS o (cS o s (o.P s.I)) (o.Q s.I)).ph=5
   ·rw[if_pos h2] at h;exact absurd h2 h
   ·have aN:cS (pJ o R) (cS o s (o.P s.I)) ((pJ o R).Q s.I)=cS o (cS o s (o.P s.I)) (o.Q s.I):=Fu an h2;rw[aH,aN];rfl
 ·unfold rA at h ⊢
  by_cases h1:(iS o s (o.mY s.I s.J)).ph=5
  ·rw[if_pos h1] at h;exact absurd h1 h
  ·have aH:iS (pJ o R) s ((pJ o R).mY s.I s.J)=iS o s (o.mY s.I s.J):=ac7 an h1;rw[aH];rfl
 ·rfl
 ·unfold sM at h ⊢
  split at h
  ·rename_i a b aV aa
   by_cases h1:(bw.dA o s (o.cut a b)).ph=5
   ·rw[if_pos h1] at h;exact absurd h1 h
   ·have aH:bw.dA (pJ o R) s ((pJ o R).cut a b)=bw.dA o s (o.cut a b):=adV an h1;rw[aH]
  ·rfl
 ·rfl
end
section
variable{E:List (Int×bP)}{rm rm':Nat}
theorem RC{k:Nat}(an:rm≤rm')(ae:lm (bo E k rm) (sR (E.map Prod.snd) k)):∀(m:Nat) {s:bw.bf aq},iO (bo E k rm) (sR (E.map Prod.snd) k) s→(hq (bo E k rm) m s).ph≠5→hq (bo E k rm') m s=hq (bo E k rm) m s
 | 0,s,_,_=>rfl
 | m+1,s,hi,h=>by
  have bR:(dn (bo E k rm) s).ph≠5:=fun bR=>by
   have hs:=(vV ae hi).1;refine h ?_;show (hq (bo E k rm) m (dn (bo E k rm) s)).ph=5;rw[KM ae m hs (by omega)];exact bR
  have e:dn (bo E k rm') s=dn (bo E k rm) s:=alU (o:=bo E k rm) (R:=rm') an bR;show hq (bo E k rm') m (dn (bo E k rm') s)=hq (bo E k rm) m (dn (bo E k rm) s);rw[e];exact RC an ae m (vV ae hi).1 h
theorem ahd(k:Nat):gO (bo E k rm')=gO (bo E k rm):=rfl
theorem ako(an:rm≤rm'){dU:Nat}{a b:dJ}(aV:iM E rm a)(aa:iM E rm' b)(Ng:qO E rm dU a)(Nh:qO E rm' dU b)(aJ:a.s.ph=4)(vd:b.s.ph=4):b.k≤a.k∧(b.k=a.k→b.s=a.s):=by
 obtain⟨m,hm⟩:=Ng.here;have ER:=aV.fit;have Pp:hX E a.k rm':=⟨ER.r,ER.near,ER.len,aa.fit.pos,aa.fit.room⟩;have y5:=Gn (bo E a.k rm) (sR (E.map Prod.snd) a.k);have Rf:=Gn (bo E a.k rm') (sR (E.map Prod.snd) a.k)
 have e:hq (bo E a.k rm') m (gO (bo E a.k rm'))=a.s:=by
  rw[ahd (rm:=rm),RC an ER.ok m y5 (by rw[←hm];omega),←hm]
 refine⟨Nat.not_lt.1 fun a7 => ?_,fun ae => ?_⟩
 ·obtain⟨n,aA⟩:=Nh.over a.k Ng.low a7;have:=RD Pp.ok Rf (m:=m) (n:=n) (by rw[e];omega) (by omega);rw[e] at this;rw[←this] at aA;omega
 ·obtain⟨n,aA⟩:=Nh.here;rw[ae] at aA;have:=RD Pp.ok Rf (m:=m) (n:=n) (by rw[e];omega) (by rw[←aA];omega);rw[aA,←this,e]
end
theorem aa9{A B:List (List cj)}(h:¬p7 A B>0):A.length+B.length+(bM A+bM B)≤14∧bM A+bM B≤8:=by
 unfold p7 at h
 by_cases ak:A.length+B.length+(bM A+bM B)≤14∧bM A+bM B≤8
 ·exact ak
 ·rw[if_neg ak] at h;omega
theorem Mr{A B:List (List cj)}(h:A.length+B.length+(bM A+bM B)≤14):∀r∈A++B,r.length≤900000:=fun r q=>by
 rcases kg.1 q with q|q <;> (obtain⟨i,hi⟩:=kF q;have:=VO hi;omega)
section
variable{A B:List (List cj)}{op fill rung cap:Int}
theorem aff(hs:A.length+B.length+(bM A+bM B)≤14)(h:ir A B op fill rung cap=0):pQ 7 df (cL A B) cap.toNat 46 [.w (.agg (h9 A B op fill rung cap))] Gx (jw A B rung cap):=by
 obtain⟨i1,aJ,f1,f2,f3,f4,b1,b2⟩:=MU h;obtain⟨⟨a0,a1⟩,⟨c0,c1⟩,d0,d1,_,_⟩:=wJ h;have au:=DM.fit h;have HT:=RJ (op:=op) (fill:=fill) (A:=A) (B:=B) (by omega) (by omega) (Mr hs) h 7 oo;have hh:=TJ (A:=A) (B:=B) (op:=op) (fill:=fill) (rung:=rung) (cap:=cap) (by omega);have Ak:=aji (n:=((cL A B).length:Int)) (rm:=cap) (by omega) (by rw[sd];omega) c0 c1;obtain⟨_,_,m0,m1⟩:=Gd (n:=((cL A B).length:Int)) (rm:=cap) (by omega) (by rw[sd];omega) c0 c1;have ko:=RK (zh (k:=rung.toNat) au) b1 (bs:=[iU (cL A B).length cap]) (by rw[List.length_singleton];decide) (fun b aa=>by rw[jO.1 aa];omega);rw[show (fj (cL A B) cap.toNat [iU (cL A B).length cap] (gN (cL A B) cap.toNat rung.toNat)).2=jw A B rung cap from rfl] at ko;have ko:=ko.nn 7 (bO:=df) oo rfl rfl;have uL:=(KS (E:=cL A B) (rm:=cap.toNat) (l:=jw A B rung cap)).nn 7 (bO:=df) oo rfl rfl;rw[b5 (show ((jw A B rung cap).s.ph:Int)=4 by omega)] at uL;generalize (fj (cL A B) cap.toNat [iU (cL A B).length cap] (gN (cL A B) cap.toNat rung.toNat)).1=did at *;generalize jw A B rung cap=hV at *;generalize gN (cL A B) cap.toNat rung.toNat=XA at *;generalize iU (cL A B).length cap=fu at *;clear i1 aJ f1 f2 f3 f4 b1 b2 au a0 a1 c0 c1 d0 d1 m0 m1 hs h;refine cD (f:=46) Tryz.func46 rfl (cm rfl) (by exact jy) ?_;(refine aR ?_);refine xg 7 df rfl rfl rfl rfl HT rfl rfl rfl rfl (fun cs qQ aO => ?_);rw[CH];(repeat first|(with_reducible apply hf (id:=4) [0,1,2,3,4,5,6,7,8] [24,2000007]);kernel_rfl;kernel_rfl;rfl|refine cc ?_|refine gz ?_);refine ka 7 df rfl rfl rfl rfl rfl rfl rfl rfl ko aO (bd.refl _) (fun IF nX dC => ?_);rw[show bK (aE.bc df nX) (aE.bc df qQ)=aE.bc df nX from aO.bK dC];(refine aR ?_);refine ka 7 df rfl rfl rfl rfl rfl rfl rfl rfl uL dC (bd.refl _) (fun EC oG gG => ?_);rw[show bK (aE.bc df oG) (aE.bc df nX)=aE.bc df oG from dC.bK gG];(refine aR ?_)
 ((refine w0 7 rfl (aX rfl aM) rfl (bd.refl _) gG.closed rfl ?_))
 exact⟨EC,oG,rfl,rfl,rfl,gG⟩
theorem RM(hs:A.length+B.length+(bM A+bM B)≤14)(h:ir A B op fill rung cap=0)(j:Nat){bO:Nat→Nat}(fe:∀j,bO (bO j)=j):pQ j bO (cL A B) cap.toNat 46 [.w (.agg (h9 A B op fill rung cap))] Gx (jw A B rung cap):=(aff hs h).tO9 rfl ahS j fe
end
section
variable{A B:List (List cj)}{op fill rung cap more:Int}
theorem ZX(h:ir A B op fill rung cap=0){c:Int}(h1:1≤c)(h2:c≤1024):ir A B op fill rung c=0:=by
 unfold ir at h ⊢
 split at h
 ·cases h
 rw[if_neg (by assumption)]
 split at h
 ·cases h
 rw[if_neg (by assumption)]
 split at h
 ·cases h
 rw[if_neg (by assumption)]
 split at h
 ·cases h
 rw[if_neg (by omega)];exact h
theorem Wq:qO (cL A B) cap.toNat rung.toNat (jw A B rung cap):=U8 _ (qO.new _)
theorem af6(aa:A.length+B.length+bM A+bM B≤1048576)(hm : -9223372036854775808≤more∧more≤9223372036854775807):aP ah 13 [.w (.agg (h9 A B op fill rung cap)),aL more] (bl true):=by
 have eU:=air;have a8:=ah3 (op:=op) (fill:=fill) (rung:=rung) (cap:=cap) aa
 by_cases au:p7 A B>0
 case pos =>
  generalize p7 A B=E1 at *;refine bp (f:=13) Tryz.func13 rfl rfl rfl rfl ?_;(repeat first|refine dd ?_|refine fs ?_|(with_reducible apply bT (c:=true));rfl;rfl;(exact b5 (by omega)))
  ((refine bk rfl (aX rfl aM) ?_))
  exact ag.aU.refl _
 obtain⟨hs,oa⟩:=aa9 au;have bL:=ajg (op:=op) (fill:=fill) (rung:=rung) (cap:=cap) (A:=A) (B:=B) (by omega) (fun r q=>by have:=Mr hs r (sW _ q);omega) (by omega) (fun r q=>by have:=Mr hs r (xD _ q);omega)
 by_cases ak:ir A B op fill rung cap=0
 case neg =>
  generalize p7 A B=E1 at *;generalize ir A B op fill rung cap=cv at *;refine bp (f:=13) Tryz.func13 rfl rfl rfl rfl ?_;(repeat first|refine dd ?_|refine fs ?_|(with_reducible apply bT (c:=true));rfl;rfl;((simp only[qW];(omega)))|(with_reducible apply bT (c:=false));rfl;rfl;(exact b8 (by omega)))
  ((refine bk rfl (aX rfl aM) ?_))
  exact ag.aU.refl _
 obtain⟨⟨a0,a1⟩,⟨c0,c1⟩,d0,d1,_,_⟩:=wJ ak
 by_cases m0:more<0
 case pos =>
  rw[ak] at bL;generalize p7 A B=E1 at *;refine bp (f:=13) Tryz.func13 rfl rfl rfl rfl ?_;(repeat first|refine dd ?_|refine fs ?_|(with_reducible apply bT (c:=true));rfl;rfl;(exact b5 (by omega))|(with_reducible apply bT (c:=false));rfl;rfl;(exact b8 (by omega)))
  ((refine bk rfl (aX rfl aM) ?_))
  exact ag.aU.refl _
 by_cases m1:more>1024-cap
 case pos =>
  rw[ak] at bL;generalize p7 A B=E1 at *;refine bp (f:=13) Tryz.func13 rfl rfl rfl rfl ?_;(repeat first|refine dd ?_|refine fs ?_|(with_reducible apply bT (c:=false));rfl;rfl;(exact b8 (by omega)))
  ((refine bk rfl (aX rfl aM) ?_))
  exact ag.aU.refl _
 have fE:=ZX ak (c:=cap+more) (by omega) (by omega);obtain⟨i1,aJ,_⟩:=MU ak;obtain⟨i2,vd,_⟩:=MU fE;have cw:=RM (op:=op) (fill:=fill) (rung:=rung) (cap:=cap) hs ak 36 oo;have Av:=RM (op:=op) (fill:=fill) (rung:=rung) (cap:=cap+more) hs fE 38 zI;obtain⟨cf,dH⟩:=ako (rm:=cap.toNat) (rm':=(cap+more).toNat) (by omega) i1 i2 Wq Wq aJ vd;have ti:=(KT (E:=cL A B) (rm:=cap.toNat) (l:=jw A B rung cap)).nn 36 (bO:=df) oo rfl rfl;have uO:=(KT (E:=cL A B) (rm:=(cap+more).toNat) (l:=jw A B rung (cap+more))).nn 38 (bO:=fT) zI rfl rfl;have r8:=(KU i1).nn 36 (bO:=df) oo rfl rfl;have r9:=(KU i2).nn 38 (bO:=fT) zI rfl rfl;have gi:=i1.fit.st i1.inv;have fL:=(KR (E:=cL A B) (rm:=cap.toNat) (l:=jw A B rung cap) gi.2.2).nn 36 (bO:=df) oo rfl rfl;have gH:=(KR (E:=cL A B) (rm:=(cap+more).toNat) (l:=jw A B rung (cap+more)) (i2.fit.st i2.inv).2.2).nn 38 (bO:=fT) zI rfl rfl;have aN:(((cap+more).toNat:Nat):Int)=cap+more:=by omega
 rw[ak] at bL;generalize jw A B rung cap=hV at *;generalize jw A B rung (cap+more)=DN at *;generalize (cap+more).toNat=UN at *;generalize p7 A B=E1 at *;clear i1 i2 aJ vd hs oa ak fE d0 d1 a0 a1
 by_cases ae:DN.k=hV.k
 case neg =>
  have q1:((hV.k:Nat):Int)>((DN.k:Nat):Int):=by omega
  have q2:¬((hV.k:Nat):Int)<((DN.k:Nat):Int):=by omega
  have q3:¬((DN.k:Nat):Int)>((hV.k:Nat):Int):=by omega
  clear cf dH r8 r9 fL gH aN gi;refine bp (f:=13) Tryz.func13 rfl rfl rfl rfl ?_;refine sf ?_;(repeat first|(with_reducible apply hf (id:=5) [0,2,1,3,4,5] [36,38,2000036,2000038]);kernel_rfl;kernel_rfl;rfl|refine cc ?_|(with_reducible apply eY);rfl;(repeat first|refine iI ?_|refine fs ?_|(with_reducible apply bT (c:=false));rfl;rfl;(exact b8 (by omega)));(with_reducible apply dR));refine xg 36 df rfl rfl rfl rfl cw rfl rfl rfl rfl (fun cs qQ aO => ?_);rw[CH]
  skip
  refine xg 38 fT rfl rfl rfl rfl Av rfl rfl rfl rfl (fun ds l7 aG => ?_);rw[show bK (aE.bc fT l7) (aE.bc df qQ)=two qQ l7 from MH aO.up aG.up (by decide) (by decide)];(refine aR ?_);refine ka 38 fT rfl rfl rfl rfl rfl rfl rfl rfl uO aG (xW aO.up aG.up (by decide) (by decide)) (fun EF r6 du => ?_);rw[xX aO.up aG.up du.up (by decide) (by decide)];(refine aR ?_);refine ka 36 df rfl rfl rfl rfl rfl rfl rfl rfl ti aO rO (fun IF nX dC => ?_);rw[show bK (aE.bc df nX) (two qQ r6)=two nX r6 from rQ aO.up dC.up];(refine aR ?_);refine ka 36 df rfl rfl rfl rfl rfl rfl rfl rfl ti dC rO (fun EC oG gG => ?_);rw[show bK (aE.bc df oG) (two nX r6)=two oG r6 from rQ dC.up gG.up];(refine aR ?_);refine ka 38 fT rfl rfl rfl rfl rfl rfl rfl rfl uO du (xW gG.up du.up (by decide) (by decide)) (fun aaE H0 li => ?_);rw[xX gG.up du.up li.up (by decide) (by decide)];(refine nU ?_)
  ((refine bk rfl (aX rfl aM) ?_))
  exact ag.aU.refl _
 have aH:=dH ae;rw[ae] at uO;rw[ae,aH] at r9;rw[aH] at gH;have q1:¬((hV.k:Nat):Int)>((hV.k:Nat):Int):=by omega
 have Ak:=aim (k:=(hV.k:Int)) (rm:=cap+more) (ph:=(hV.s.ph:Int)) (I:=(hV.s.I:Int)) (J:=(hV.s.J:Int)) (T:=(hV.s.T:Int)) (dirty:=hV.s.dirty) (hot:=hV.s.hot) (fnd:=hV.s.fnd) (ch:=hV.s.ch) (by omega) (by omega) gi.2.2;rw[show rT hV.k UN hV.s=x2 (hV.k:Int) (cap+more) (hV.s.ph:Int) (hV.s.I:Int) (hV.s.J:Int) (hV.s.T:Int) hV.s.dirty hV.s.hot hV.s.fnd hV.s.ch by show x2 _ ((UN:Nat):Int) _ _ _ _ _ _ _ _=_;rw[aN]] at r9;clear cf dH aH aN ae gi;generalize wN hV.s.ch=OZ at *;refine bp (f:=13) Tryz.func13 rfl rfl rfl rfl ?_;refine sf ?_;(repeat first|(with_reducible apply hf (id:=5) [0,2,1,3,4,5] [36,38,2000036,2000038]);kernel_rfl;kernel_rfl;rfl|refine cc ?_|(with_reducible apply eY);rfl;(repeat first|refine iI ?_|refine fs ?_|(with_reducible apply bT (c:=false));rfl;rfl;(exact b8 (by omega)));(with_reducible apply dR));refine xg 36 df rfl rfl rfl rfl cw rfl rfl rfl rfl (fun cs qQ aO => ?_);rw[CH]
 skip
 refine xg 38 fT rfl rfl rfl rfl Av rfl rfl rfl rfl (fun ds l7 aG => ?_);rw[show bK (aE.bc fT l7) (aE.bc df qQ)=two qQ l7 from MH aO.up aG.up (by decide) (by decide)];(refine aR ?_);refine ka 38 fT rfl rfl rfl rfl rfl rfl rfl rfl uO aG (xW aO.up aG.up (by decide) (by decide)) (fun EF r6 du => ?_);rw[xX aO.up aG.up du.up (by decide) (by decide)];(refine aR ?_);refine ka 36 df rfl rfl rfl rfl rfl rfl rfl rfl ti aO rO (fun IF nX dC => ?_);rw[show bK (aE.bc df nX) (two qQ r6)=two nX r6 from rQ aO.up dC.up];(refine aR ?_);refine ka 36 df rfl rfl rfl rfl rfl rfl rfl rfl ti dC rO (fun EC oG gG => ?_);rw[show bK (aE.bc df oG) (two nX r6)=two oG r6 from rQ dC.up gG.up];(refine aR ?_);refine ka 38 fT rfl rfl rfl rfl rfl rfl rfl rfl uO du (xW gG.up du.up (by decide) (by decide)) (fun aaE H0 li => ?_);rw[xX gG.up du.up li.up (by decide) (by decide)];(refine aR ?_);refine ka 36 df rfl rfl rfl rfl rfl rfl rfl rfl r8 gG rO (fun aaf tj jb => ?_);rw[show bK (aE.bc df tj) (two oG H0)=two tj H0 from rQ gG.up jb.up];(repeat first|(with_reducible apply hf (id:=12) [0,1,2,3,4,5,6,7,8,10,9,11,12,13,14] [67,72,74,2000036,2000038]);kernel_rfl;kernel_rfl;rfl|refine cc ?_|refine gz ?_);refine ka 38 fT rfl rfl rfl rfl rfl rfl rfl rfl r9 li (xW jb.up li.up (by decide) (by decide)) (fun ank Nv Du => ?_);rw[xX jb.up li.up Du.up (by decide) (by decide)];(refine nU ?_);refine ka 36 df rfl rfl rfl rfl rfl rfl rfl rfl fL jb rO (fun aag ye wa => ?_);rw[show bK (aE.bc df ye) (two tj Nv)=two ye Nv from rQ jb.up wa.up]
 skip
 refine ka 38 fT rfl rfl rfl rfl rfl rfl rfl rfl gH Du (xW wa.up Du.up (by decide) (by decide)) (fun anl amL WJ => ?_);rw[xX wa.up Du.up WJ.up (by decide) (by decide)];(refine aR ?_)
 ((refine bk rfl (aX rfl aM) ?_))
 rw[b5 (rfl:OZ=OZ)];exact ag.aU.refl _
end
theorem akn(A B:List (List cj))(op fill rung cap more:Int)(h:A.length+B.length+bM A+bM B≤1048576)(hm : -9223372036854775808≤more∧more≤9223372036854775807):aP ah 13 [.w (.agg (h9 A B op fill rung cap)),aL more] (bl true):=af6 h hm
end Go.Proofs.YtklpfooafbjnpaaGreat
