/-
  My own texts,without what this claim does not need. My own text.
-/
import Derived.Test.YtklpfooafbjnpaaGreatSLEndsK17
set_option maxRecDepth 100000
set_option maxHeartbeats 64000000
set_option linter.unusedVariables false
set_option linter.unusedSimpArgs false
set_option linter.unusedSectionVars false
open Go.Proofs.Tryz renaming prog → ah
namespace Go.Proofs.YtklpfooafbjnpaaGreat
open Go.RowKit
open bH
section
variable{E:List (Int×bR)}{k rm ph I J T rr:Int}{dirty:Bool}{hot fnd L:List aq}{ch:List (List aq×List Int)}{b:Nat}
theorem aeV(al:L.length≤1100)(x y:Int){S:dS}(hS:ih rr L (bJ b) S)(g e:Nat):cb ah 260 [bn x y,.w (.one (.p (oX [.c (bJ g)])))] bA (h9 b S g e (fp E k rm ph I J T dirty hot fnd ch b)) fun bx aG ap=>aG=bA∧∃S' e',bx=bl (!p6 L x y)∧ih rr L (bJ b) S'∧ap=h9 b S' g e' (fp E k rm ph I J T dirty hot fnd ch b):=by
 have eR:=Un (cs:=fp E k rm ph I J T dirty hot fnd ch b) rfl rfl rfl (gz _) (aeT al x y) hS g e;obtain⟨v,hv⟩:∃v,v=decide (0≤hk L x y):=⟨_,rfl⟩;rw[show p6 L x y=v from hv.symm];rw[←hv] at eR
 have bc:cb ah 257 [aQ (bJ g),bn x y] bA (h9 b S g e (fp E k rm ph I J T dirty hot fnd ch b)) fun bx aG ap=>aG=bA∧∃S' e',bx=bl v∧ih rr L (bJ b) S'∧ap=h9 b S' g e' (fp E k rm ph I J T dirty hot fnd ch b) :=
  eR.imp (by rintro bx aG ap ⟨S',e',⟨h1,h2⟩,ar,aK⟩;exact⟨ar,S',e',h1,h2,aK⟩)
 refine cC (f:=260) Tryz.func260 rfl (cg rfl) (by exact jm) ?_;(refine aS ?_);refine mM rfl rfl rfl rfl bc (ba.refl _) rfl rfl ?_;rintro _ ap ⟨S',e',rfl,ew,rfl⟩;rw[zc];(refine aS ?_)
 ((refine pV rfl (aZ rfl aM) (ba.refl _) rfl xo ?_))
 exact⟨rfl,S',e',rfl,ew,rfl⟩
abbrev Mc(g:Nat):ag := .w (.one (.p (lV (.func 260) [.p (oX [.c (bJ g)])])))
def te(L:List aq):List aq→Int→Int
 | [],_ => -1
 | q::l,i=>if (!p6 L q.1 q.2)=true then i else te L l (i+1)
theorem OZ(L:List aq):∀(l:List aq) (i:Int),0≤i→decide (te L l i≥0)=l.any (fun q => !p6 L q.1 q.2)
 | [],i,_=>rfl
 | q::l,i,h=>by
  have ck:=OZ L l (i+1) (by omega);rw[List.any_cons];show decide ((if (!p6 L q.1 q.2)=true then i else te L l (i+1))≥0)=_;cases hp:(!p6 L q.1 q.2) with
  | true=>rw[if_pos rfl,Bool.true_or];exact ca h
  | false=>rw[if_neg (by decide),Bool.false_or];exact ck
def Wt(L V:List aq)(rr:Int)(b g:Nat)(cs:List AC)(n:Nat)(R:aE)(az:List (Nat×ag))(aU:List (Nat×List AC)):Prop :=
 ∃(i:Nat) (ii:Int) (S:dS) (e:Nat),i≤V.length∧n=V.length-i∧ii=i∧te L V 0=te L (V.drop i) ii∧ih rr L (bJ b) S∧R=h9 b S g e cs∧az=[(0,gr V),(1,Mc g),(7,aL V.length),(8,aL ii)]∧aU=[]
theorem aeR(al:L.length≤1100){V:List aq}(mF:V.length≤1100){S:dS}(hS:ih rr L (bJ b) S)(g e:Nat):cb ah 301 [gr V,Mc g] bA (h9 b S g e (fp E k rm ph I J T dirty hot fnd ch b)) fun bx aG ap=>aG=bA∧∃S' e',bx=aL (te L V 0)∧ih rr L (bJ b) S'∧ap=h9 b S' g e' (fp E k rm ph I J T dirty hot fnd ch b):=by
 refine cC (f:=301) Tryz.func301 rfl (cg rfl) (by exact jm) ?_;(refine aS ?_);refine jk 19 (Wt L V rr b g (fp E k rm ph I J T dirty hot fnd ch b)) V.length (h9 b S g e (fp E k rm ph I J T dirty hot fnd ch b)) _ [] ⟨0,0,S,e,dy _,rfl,rfl,rfl,hS,rfl,rfl,rfl⟩ (ba.refl _) rfl ⟨rfl,rfl,rfl,rfl,trivial⟩ trivial rfl ?_;clear hS;rintro n R az aU ⟨j,dN,kg,aI,af,rfl,l7,gC,hS,rfl,rfl,rfl⟩ bE;clear bE
 by_cases hp:j<V.length
 ·have p2:dN<(V.length:Int):=by omega
  have p3:0≤dN:=by omega
  obtain⟨x,y,g1⟩:∃x y,V[j]?=some (x,y):=⟨_,_,bG hp⟩;have hx:=p7 l7 g1;have hd:V.drop j=(x,y)::V.drop (j+1):=by rw[jE hp,(br.1 g1).2]
  have bc:=aeV (E:=E) (k:=k) (rm:=rm) (ph:=ph) (I:=I) (J:=J) (T:=T) (dirty:=dirty) (hot:=hot) (fnd:=fnd) (ch:=ch) al x y hS g aI;rw[hd,show te L ((x,y)::V.drop (j+1)) dN=if (!p6 L x y)=true then dN else te L (V.drop (j+1)) (dN+1) from rfl] at gC;cases ay:(!p6 L x y) with
  | true =>
   rw[ay] at gC bc;rw[if_pos rfl] at gC;rw[gC];(refine aS ?_);refine Qm rfl rfl rfl rfl bc (ba.refl _) rfl rfl ?_;rintro _ ap ⟨S',e',rfl,ew,rfl⟩;rw[zc];(refine aS ?_)
   ((refine pV rfl (aZ rfl aM) (ba.refl _) rfl xo ?_))
   exact⟨rfl,S',e',rfl,ew,rfl⟩
  | false =>
   rw[ay] at gC bc;rw[if_neg (by decide)] at gC;(refine aS ?_);refine Qm rfl rfl rfl rfl bc (ba.refl _) rfl rfl ?_;rintro _ ap ⟨S',e',rfl,ew,rfl⟩;rw[zc];(refine aS ?_);exact⟨V.length-(j+1),_,_,[],by omega,⟨j+1,dN+1,S',e',hp,rfl,by omega,gC,ew,rfl,rfl,rfl⟩,ba.refl _,rfl,⟨rfl,rfl,rfl,rfl,trivial⟩,trivial,rfl⟩
 ·have lF:j=V.length:=by omega
  subst lF;rw[List.drop_length] at gC;rw[show te L [] dN = -1 from rfl] at gC;rw[gC];(refine aS ?_)
  ((refine pV rfl (aZ rfl aM) (ba.refl _) rfl xo ?_))
  exact⟨rfl,kg,aI,rfl,hS,rfl⟩
theorem aeM(al:L.length≤1100){V:List aq}(mF:V.length≤1100){S:dS}(hS:ih rr L (bJ b) S)(g e:Nat):cb ah 259 [gr V,Mc g] bA (h9 b S g e (fp E k rm ph I J T dirty hot fnd ch b)) fun bx aG ap=>aG=bA∧∃S' e',bx=bl (V.any fun q => !p6 L q.1 q.2)∧ih rr L (bJ b) S'∧ap=h9 b S' g e' (fp E k rm ph I J T dirty hot fnd ch b):=by
 have bc:=aeR (E:=E) (k:=k) (rm:=rm) (ph:=ph) (I:=I) (J:=J) (T:=T) (dirty:=dirty) (hot:=hot) (fnd:=fnd) (ch:=ch) al mF hS g e;rw[←OZ L V 0 (by decide)];refine cC (f:=259) Tryz.func259 rfl (cg rfl) (by exact jm) ?_;(refine aS ?_);refine mM rfl rfl rfl rfl bc (ba.refl _) rfl rfl ?_;rintro _ ap ⟨S',e',rfl,ew,rfl⟩;rw[zc];(refine aS ?_)
 ((refine pV rfl (aZ rfl aM) (ba.refl _) rfl xo ?_))
 exact⟨rfl,S',e',rfl,ew,rfl⟩
end
section
variable{E:List (Int×bR)}{k rm ph I J T rr:Int}{dirty:Bool}{hot fnd L:List aq}{ch:List (List aq×List Int)}{b:Nat}
theorem afU{f:FuncId}{args:List ag}{cs:List AC}{v:ag}(tz:v.aW=true)(dq:args.all ag.aW=true)(dv:cs.all AC.aW=true)(cq:0<cs.length)(hp:rG f args cs v cs)(g e:Nat):cb ah f (aQ (bJ g)::args) bA (upd dP 9 (eu g e cs)) fun bx aG ap=>aG=bA∧∃e',bx=v∧ap=upd dP 9 (eu g e' cs):=by
 have h:=cb.GR 9 g e hp dq dv cq rfl (fun bx aG ap aj=>by
  obtain⟨ds,rfl,rfl,rfl,rfl⟩:=aj;exact⟨tz,rfl,_,rfl,dv,cq⟩)
 refine⟨fun U ad W vs b8 c7 cL=>(h.call U ad W vs b8 c7 cL).mono ?_⟩;rintro cy W' ⟨v1,cr,aG,ap,aT,cj,dl,⟨aw,bf,e',⟨fV,he,rfl,rfl,rfl⟩,rfl,rfl⟩,iP⟩;obtain rfl:=KB he;exact⟨_,cr,bA,_,aT,cj,dl,⟨rfl,e',rfl,rfl⟩,iP⟩
theorem agR{b:Nat}{S:dS}{g e e':Nat}{cs:List AC}:bK (upd dP 9 (eu g e' cs)) (h9 b S g e cs)=h9 b S g e' cs:=by
 funext i
 by_cases h:i=9
 ·subst h;rw[fz (bW _ _ _)];exact(bW _ _ _).symm
 ·rw[gq (show upd dP 9 (eu g e' cs) i=none from bM _ _ h)];unfold h9;rw[bM _ _ h,bM _ _ h]
theorem afn{b:Nat}{S:dS}{g e:Nat}{cs:List AC}:ba (upd dP 9 (eu g e cs)) (h9 b S g e cs):=fun i r h=>by
 by_cases Ef:i=9
 ·subst Ef;exact h
 ·rw[bM _ _ Ef] at h;cases h
structure MG (r:Nat) (L:List aq) (e:Int×bR) (c:List aq×List Int):Prop where
 sg:c.1.length≤1100
 Ks:c.2.length≤1100
 QI:∀v∈c.1,Di v
 Oi:∀d∈c.2,0≤d∧d≤9223372036854775807
 rt:xl r c.1 c.2=true
 first:c.1[0]?=some (b7 e.2.1.1 r,b7 e.2.1.2 r)
 last:c.1[c.1.length-1]?=some (b7 e.2.2.1 r,b7 e.2.2.2 r)
 deep:mB c.2≤(c.2.length:Int)
 hot:(c.1.any fun q => !p6 L q.1 q.2)=false
def WQ(E:List (Int×bR))(k rm ph I J T:Int)(dirty:Bool)(hot fnd:List aq)(ch:List (List aq×List Int))(b:Nat)(rr:Int)(L:List aq)(g:Nat)(n:Nat)(R:aE)(az:List (Nat×ag))(aU:List (Nat×List AC)):Prop :=
 ∃(i:Nat) (ii:Int) (S:dS) (e:Nat),i≤ch.length∧n=ch.length-i∧ii=i∧ih rr L (bJ b) S∧R=h9 b S g e (fp E k rm ph I J T dirty hot fnd ch b)∧az=[(1,.w (.one (.p (oX [.c (bJ g)])))),(3,aQ (og g 1)),(25,CU ch),(26,aL ch.length),(27,aL ii)]∧aU=[]
theorem aeF(sW:Mv)(zZ:Mu){r:Nat}(ao:r≤28)(ae:k=r)(aA:jw (E.map Prod.snd)=true)(fu:E.length≤1000)(al:L.length≤1100)(hlen:ch.length=E.length)(acL:∀(i:Nat) e c,E[i]?=some e→ch[i]?=some c→MG r L e c):pF 210 [] (fp E k rm ph I J T dirty hot fnd ch b) rr L b (bl true):=by
 refine Um rfl rfl rfl (gz _) fun S hS g e => ?_;have amI:(ch.length:Int)=(E.length:Int):=by omega
 refine EP (f:=210) Tryz.func210 rfl (cg rfl) (by exact jm) (Ly ?_);refine nY (AL ?_);(refine aS ?_);refine l4 ?_;refine aaL 1 _ rfl rfl ?_;refine AL ?_;(repeat first|(with_reducible apply dz (id:=2) [0,1,2,3,4,5,6,7,8,9,10]);kernel_rfl;kernel_rfl;rfl|refine b3 ?_);refine pf 9 rfl rfl rfl rfl rfl rfl rfl ?_;(refine aS ?_);refine pf 9 rfl rfl rfl rfl rfl rfl rfl ?_;(refine aS ?_);refine pf 9 rfl rfl rfl rfl rfl rfl rfl ?_;(refine aS ?_);refine jk 78 (WQ E k rm ph I J T dirty hot fnd ch b rr L g) ch.length (h9 b S g e (fp E k rm ph I J T dirty hot fnd ch b)) _ [] ⟨0,0,S,e,dy _,rfl,rfl,hS,rfl,rfl,rfl⟩ (ba.refl _) rfl ⟨rfl,rfl,rfl,rfl,rfl,trivial⟩ trivial rfl ?_;clear hS;rintro n R az aU ⟨i,ii,kg,aI,hi,rfl,er,hS,rfl,rfl,rfl⟩ bE;clear bE
 by_cases aj:i<ch.length
 ·have q2:ii<(ch.length:Int):=by omega
  have q3:0≤ii:=by omega
  obtain⟨o,p1,p2,c1,c2,g1⟩:∃o p1 p2 c1 c2,E[i]?=some (o,(p1,p2),(c1,c2)):=⟨_,_,_,_,_,bG (by omega)⟩;obtain⟨V,D,g2⟩:∃V D,ch[i]?=some (V,D):=⟨_,_,bG aj⟩;obtain⟨sg,Ks,QI,Oi,rt,fst,afz,deep,aD⟩:=acL i _ _ g1 g2;have k8:=D5 er g2;simp only at k8
  have P2:gF (p1,p2)=true∧gF (c1,c2)=true:=by
   unfold jw at aA;have:=b5.1 aA ((p1,p2),(c1,c2)) (fO.2 ⟨_,cP g1,rfl⟩);simpa [eb] using this
  have eR:=afU (cs:=fp E k rm ph I J T dirty hot fnd ch b) rfl rfl rfl (gz _) (aeN (E:=E) (k:=k) (rm:=rm) (ph:=ph) (I:=I) (J:=J) (T:=T) (dirty:=dirty) (hot:=hot) (fnd:=fnd) (ch:=ch) (b:=b) ao ae g1 P2.1 P2.2) g aI;rw[show ((i:Nat):Int)=ii by omega] at eR;have bc:=sW V D r ao sg Ks QI Oi;have bP:=zZ V D sg Ks;rw[rt,←ae] at bc;have n2:0<V.length:=(br.1 fst).1;have pB:=p7 (j:=0) (i:=0) rfl fst;have Wp:=p7 (j:=(V.length:Int)-1) (i:=V.length-1) (by omega) afz;have anp:(V.length:Int)≤1100:=by have:V.length≤1100:=sg;omega
  have ano:(0:Int)<(V.length:Int):=by omega
  have amc:¬mB D>(D.length:Int):=by have:mB D≤(D.length:Int):=deep;omega
  generalize mB D=amb at *;generalize b7 p1 r=a at *;generalize b7 p2 r=a' at *;generalize b7 c1 r=c at *;generalize b7 c2 r=c' at *;have fC:(!dG a a' a a')=false:=by simp[dG]
  have gy:(!dG c c' c c')=false:=by simp[dG]
  (refine aS ?_);refine mM rfl rfl rfl rfl eR afn rfl rfl ?_;rintro _ ap ⟨aN,rfl,rfl⟩;rw[agR];(repeat first|(with_reducible apply dz (id:=8) [0,1,2,3,4,5,6,7,8,9,10,11,12,13,14,15,16,17,18,19,20,21,22,23,24,25,26,27,28,29,30,31,32,33,34]);kernel_rfl;kernel_rfl;rfl|refine b3 ?_);refine pf 9 rfl rfl rfl rfl rfl rfl rfl ?_;(repeat first|refine b3 ?_|(with_reducible apply eU);rfl;(repeat first|refine hP ?_|refine fA ?_|refine DJ (xs:=[_]) (cs:=[_]) rfl rfl rfl rfl ?_|(with_reducible apply bT (c:=false));rfl;rfl;(assumption));(with_reducible apply dA));have ec:=aeM (E:=E) (k:=k) (rm:=rm) (ph:=ph) (I:=I) (J:=J) (T:=T) (dirty:=dirty) (hot:=hot) (fnd:=fnd) (ch:=ch) al sg hS g aN;rw[aD] at ec;refine mM rfl rfl rfl rfl ec (ba.refl _) rfl rfl ?_;rintro _ ap ⟨xR,cc,rfl,A0,rfl⟩;rw[zc];(refine aS ?_);exact⟨ch.length-(i+1),_,_,[],by omega,⟨i+1,ii+1,xR,cc,aj,rfl,by omega,A0,rfl,rfl,rfl⟩,ba.refl _,rfl,⟨rfl,rfl,rfl,rfl,rfl,trivial⟩,trivial,rfl⟩
 ·have q2:¬ii<(ch.length:Int):=by omega
  (refine aS ?_)
  ((refine pV rfl (aZ rfl aM) (ba.refl _) rfl xo ?_))
  exact⟨kg,aI,⟨rfl,hS⟩,rfl,rfl⟩
end
def Wg(hv fv cv:Value)(k rm ph I J T:Int)(dirty:Bool)(hot fnd:List aq)(ch:List (List aq×List Int))(n:Nat)(R:aE)(az:List (Nat×ag))(aU:List (Nat×List AC)):Prop :=
 ∃(i:Nat) (ii:Int),i≤ch.length∧n=ch.length-i∧ii=i∧R=mm hv fv cv hot fnd ch∧az=[(1,.w (.one (.own 1 0))),(2,.w (.one (.own 2 0))),(18,aQ cv),(19,aL ch.length),(20,aL ii)]∧aU=[(1,lQ k rm ph I J T dirty hv fv cv),(2,lQ 0 0 0 0 0 0 false (.slice none 0 0) (.slice none 0 0) (.slice none 0 0))]
theorem ai5{hv fv cv:Value}{hot fnd:List aq}{ch:List (List aq×List Int)}:upd (mm hv fv cv hot fnd ch) 3 (wa cv ch)=mm hv fv cv hot fnd ch:=by
 funext k
 by_cases hU:k=3
 ·subst hU;rfl
 ·rw[bM _ _ hU]
theorem aeL{k rm ph I J T:Int}{dirty:Bool}{hot fnd:List aq}{ch:List (List aq×List Int)}(aY:hot.length≤900000)(ay:fnd.length≤900000)(ak:k7 ch) :
  cb ah 83 [Vs k rm ph I J T dirty hot fnd ch] bA dP fun bx aG ap=>aG=bA∧∃hv fv cv,bx = .w (.agg (lQ k rm ph I J T dirty hv fv cv))∧ap=mm hv fv cv hot fnd ch:=by
 have hlen:=ak.1;have dJ:=Dz aY (tF hot) (by rw[oa,Nat.mul_comm]);have iD:=Dz ay (tF fnd) (by rw[oa,Nat.mul_comm]);have jM:=M2 (n:=ch.length) (xs:=ez ch) (by omega) (b5.2 (NY ch)) (Ap ch);refine cC (f:=83) Tryz.func83 rfl (cg rfl) (by exact jm) ?_;(repeat first|(with_reducible apply hN (id:=1) [0,1,3,4,6,7,2,9,5,8,10,11,12,13,14] [7,10,13]);kernel_rfl;kernel_rfl;rfl|refine b3 ?_);refine Fh 1 rfl rfl rfl rfl dJ rfl rfl (fun v q h => ?_);obtain⟨bS,rfl,rfl⟩:=h;(refine aS ?_);refine Fh 2 rfl rfl rfl rfl iD rfl rfl (fun v q h => ?_);obtain⟨dd,rfl,rfl⟩:=h
 skip
 refine Fh 3 rfl rfl rfl rfl jM rfl rfl (fun v q h => ?_);obtain⟨c9,rfl,rfl⟩:=h;(repeat first|refine b3 ?_|(with_reducible apply oy 3);(iterate 4 rfl);kernel_rfl;rfl);refine jk 33 (Wg bS dd c9 k rm ph I J T dirty hot fnd ch) ch.length (mm bS dd c9 hot fnd ch) _ [(1,lQ k rm ph I J T dirty bS dd c9),(2,lQ 0 0 0 0 0 0 false (.slice none 0 0) (.slice none 0 0) (.slice none 0 0))] ⟨0,0,dy _,rfl,rfl,rfl,rfl,rfl⟩ (ba.refl _) rfl ⟨rfl,rfl,rfl,rfl,rfl,trivial⟩ ⟨rfl,rfl,trivial⟩ rfl ?_;rintro n R az aU ⟨i,ii,hi,rfl,er,rfl,rfl,rfl⟩ bE;clear bE
 by_cases aj:i<ch.length
 ·obtain⟨V,D,g1⟩:∃V D,ch[i]?=some (V,D):=⟨_,_,bG aj⟩;obtain⟨ko,hA⟩:=ak.2 _ (cP g1);simp only at ko hA;obtain⟨k8,pB⟩:=Ao (ii:=ii) er g1;have bc:=QZ V D hA (by omega);have q2:ii<(ch.length:Int):=by omega
  have q3:0≤ii:=by omega
  have q4:0<ch.length:=by omega
  have aI:ii.toNat*2=2*i:=by omega
  have Bk:ii.toNat*2+2≤(ez ch).length:=by rw[Ap];omega
  have cc:eM (ez ch) (ii.toNat*2) [.p (b0 2 V.length (bY V)),.p (b0 1 D.length (cJ D))]=ez ch:=by rw[aI];exact N0 g1
  (repeat first|(with_reducible apply hN (id:=5) [0,1,2,3,4,5,6] [4000000]);kernel_rfl;kernel_rfl;rfl|refine b3 ?_|refine gu ?_|(with_reducible apply kr 3);(iterate 4 rfl);(omega);(assumption);rfl;kernel_rfl;rfl|(with_reducible apply oz 3);(iterate 3 rfl);(assumption);assumption;rfl;kernel_rfl;rfl);refine yy 3 rfl rfl rfl rfl q4 rfl rfl Bk rfl ?_;(refine aS ?_);refine⟨ch.length-(i+1),mm bS dd c9 hot fnd ch,_,[(1,lQ k rm ph I J T dirty bS dd c9),(2,lQ 0 0 0 0 0 0 false (.slice none 0 0) (.slice none 0 0) (.slice none 0 0))],by omega,⟨i+1,ii+1,by omega,rfl,by omega,rfl,rfl,rfl⟩,fun k q ae => ?_,rfl,⟨rfl,rfl,rfl,rfl,rfl,trivial⟩,⟨rfl,rfl,trivial⟩,rfl⟩
  have ed:upd (mm bS dd c9 hot fnd ch) 3 (⟨53,2,c9,ch.length,eM (ez ch) (ii.toNat*2) [.p (b0 2 V.length (bY V)),.p (b0 1 D.length (cJ D))]⟩:bC)=mm bS dd c9 hot fnd ch:=by
   rw[cc];exact ai5
  exact(congrFun ed k).trans ae
 ·have q2:¬ii<(ch.length:Int):=by omega
  (refine aS ?_)
  ((refine pV rfl (c8 rfl rfl rfl aM) (ba.refl _) rfl (fun j q h=>by cases h) ?_))
  exact⟨rfl,bS,dd,c9,rfl,rfl⟩
theorem ai7{b:Nat}{S:dS}{hv fv cv:Value}{hot fnd:List aq}{ch:List (List aq×List Int)}:bK (mm hv fv cv hot fnd ch) (bo 0 (fm (bJ b) S))=ek b S hv fv cv hot fnd ch:=by
 funext i
 match i with
 | 0=>rfl
 | 1=>rfl
 | 2=>rfl
 | 3=>rfl
 | i+4=>rfl
section
variable{E:List (Int×bR)}{r rm:Nat}
def Dt(K:Nat)(E:List (Int×bR))(r rm:Nat)(s:bH.bh aq):Prop :=
 cb ah 28 [sM E,sN r rm s] bA dP fun bx aG ap=>∃cs,bx = .cd [.one (.own K 0),.one (.c (.bool true))]∧aG=cF K cs∧ei E r rm s cs ap
theorem aeq{s:bH.bh aq}(ay:ie E r rm)(aY:s.hot.length≤1100)(uW:s.fnd.length≤900000)(ak:k7 s.ch)(ar:s.ph≠3)(Qs:nI r rm [] s.hot=true)
  (hp:∀b,pF 82 [] (fp E r rm s.ph s.I s.J s.T s.dirty s.hot s.fnd s.ch b) rm s.hot b (bl true)):Dt 33 E r rm s:=by
 have bc:=SJ (E:=E) (by have:=ay.len;omega);rw[ay.near] at bc;have bP:=Ga (k:=(r:Int));have g1:(decide ((0:Int)≤(r:Int))&&decide ((r:Int)≤28))=true:=by have:=ay.r;simp;omega
 rw[g1] at bP;have ec:=SL (E:=E) (by have:=ay.len;omega);have jN:=Q6 (rm:Int);have oV:=aeL (k:=(r:Int)) (rm:=(rm:Int)) (ph:=(s.ph:Int)) (I:=(s.I:Int)) (J:=(s.J:Int)) (T:=(s.T:Int)) (dirty:=s.dirty) (hot:=s.hot) (fnd:=s.fnd) (ch:=s.ch) (by omega) uW ak;have q1:¬(rm:Int)<1:=by have:=ay.pos;omega
 have q2:¬(rm:Int)>1024:=by have:=ay.room;omega
 have q3:¬(s.ph:Int)=3:=by omega
 have Ef:rp (rm:Int)=rm:=by have:=ay.pos;have:=ay.room;unfold rp;(repeat split) <;> omega
 have ae:gY (r:Int) r:=⟨ay.r,.inr (.inr rfl)⟩;refine cC (f:=28) Tryz.func28 rfl (cg rfl) (by exact jm) ?_;(repeat first|(with_reducible apply hN (id:=3) [0,1,2,3,4,5,6,7,8] [31]);kernel_rfl;kernel_rfl;rfl|refine b3 ?_|(with_reducible apply eU);rfl;(repeat first|refine hP ?_|refine fA ?_|(with_reducible apply bT (c:=false));rfl;rfl;(exact cm (by omega)));(with_reducible apply dA));refine J2 0 rfl rfl rfl rfl jN rfl rfl (fun p S js => ?_);obtain⟨b,rfl,hS⟩:=js;rw[Ef] at hS;(refine aS ?_);have zE:=cb.at 33 (ae1 (E:=E) (k:=(r:Int)) (rm:=(rm:Int)) (ph:=(s.ph:Int)) (I:=(s.I:Int)) (J:=(s.J:Int)) (T:=(s.T:Int)) (dirty:=s.dirty) (fnd:=s.fnd) (ch:=s.ch) ae aY S hS) rfl rfl (fun bx ds ap aj=>by obtain⟨rfl,rfl,_⟩:=aj;exact⟨rfl,rfl⟩);refine ox 33 rfl rfl rfl rfl zE rfl rfl (ba.refl _) rfl rfl rfl ?_;rintro _ _ _ ⟨rfl,rfl,sT,L',AZ,abu,rfl⟩;obtain rfl:=abu Qs;rw[show bK (bo 0 (fm (bJ b) sT)) (upd dP 0 (fm (bJ b) S))=bo 0 (fm (bJ b) sT) from Cf,Qs];(refine aS ?_);have Mt:=cb.at 33 (hp b sT AZ) rfl rfl (fun bx ds ap aj=>by obtain⟨rfl,rfl,_⟩:=aj;exact⟨rfl,rfl⟩);refine ox 33 rfl rfl rfl rfl Mt rfl rfl (ba.refl _) rfl rfl rfl ?_;rintro _ _ _ ⟨rfl,rfl,xR,A0,rfl⟩;rw[Cf];(refine aS ?_);refine mM rfl rfl rfl rfl oV (fun i r h=>by cases h) rfl rfl ?_;rintro _ ap ⟨hv,fv,cv,rfl,rfl⟩;rw[ai7];(refine aS ?_)
 ((refine wC 33 rfl (aZ rfl (aZ rfl aM)) rfl (ba.refl _) rfl rfl ?_))
 exact⟨_,rfl,rfl,hv,fv,cv,b,xR,.c jx,A0,rfl,fun h=>absurd h ar,rfl,rfl⟩
end
section
variable{P:Program}{f:FuncId}{args:List ag}
theorem cb.afR{k:Nat}(i:Nat){Q:List AC→aE→Prop}(h:cb P f args bA dP fun v aG ap=>∃cs,v = .cd [.one (.own k 0),.one (.c (.bool true))]∧aG=cF k cs∧Q cs ap)(aj:∀cs ap,Q cs ap→cs.all AC.aW=true∧0<cs.length∧ap i=none) :
  cb P f args bA dP fun v aG ap=>aG=bA∧∃g e cs bf,Q cs bf∧v = .cd [.one (.c (bJ g)),.one (.c (.bool true))]∧ap=upd bf i (eu g e cs):=by
 refine⟨fun U ad W vs b8 c7 cL=>(h.call U ad W vs b8 c7 cL).mono ?_⟩;rintro cy W' ⟨v,r,aG,ap,aT,cj,rfl,⟨cs,rfl,rfl,np⟩,hz,n6,gR,bB,cl,cM,cN,aa⟩;obtain⟨c1,c2,iX⟩:=aj _ _ np;obtain⟨e,vK⟩:=DT (aT:=aT) c2 c1 iX hz;obtain⟨xs,rfl,al,ab⟩:=n6;refine⟨_,.cd [.one (.c (bJ (aT k))),.one (.c (.bool true))],bA,_,aT,cj,rfl,⟨rfl,aT k,e,cs,ap,np,rfl,rfl⟩,vK,⟨xs,rfl,al,fun i x v h1 h2 => ?_⟩,fun j af=>absurd af (ag.c6 rfl j),fun k cs h=>(by cases h),fun i r h=>(by cases h),cM,fun b cO=>cN b ((r1 c2 iX rfl).2 cO),aa⟩
 match i,h1 with
 | 0,h1=>cases h1;exact⟨ab 0 _ v rfl h2,rfl⟩
 | 1,h1=>cases h1;exact ab 1 _ v rfl h2
end
section
variable{A B:List (List cf)}{op fill rung cap:Int}{r:Nat}
theorem aek{s:bH.bh aq}{st:Nat}(cp:A.length≤900000)(cX:B.length≤900000)(ao:∀r∈A++B,r.length≤900000)(h:jn A B op fill rung cap=0)(hf:(st:Int)≤ix (cK A B).length cap)(ae:rung≤(r:Int))(bX:s.ph≠5)(dj:Dt 33 (cK A B) r cap.toNat s):pC 65 cW (cK A B) cap.toNat 54 [.w (.agg (h3 A B op fill rung cap)),aL st,sN r cap.toNat s] vj ⟨r,st,s⟩:=by
 obtain⟨⟨a0,a1⟩,⟨iI,b1⟩,c0,c1,wx,Pj⟩:=wb h;obtain⟨rR,rfl⟩:∃rR:Nat,cap=rR:=⟨cap.toNat,by omega⟩;rw[kz] at *;have bc:=F5 (op:=op) (fill:=fill) (rung:=rung) (cap:=(rR:Int)) (A:=A) (B:=B) (by omega) (by omega) (fun r q=>by have:=ao r q;omega);have bP:=KZ (op:=op) (fill:=fill) (rung:=rung) (cap:=(rR:Int)) cp cX (fun r q=>ao r (sw _ q)) (fun r q=>ao r (xd _ q)) (by rw[pG];omega);have ec:=K0 (n:=((cK A B).length:Int)) (rm:=(rR:Int)) (by omega) (by rw[pG];omega) iI b1;have jN:=cb.afR 4 (Q:=fun cs ap=>ei (cK A B) r rR s cs ap) dj fun cs ap bg=>⟨bg.closed,bg.h4,bg.j4 4 (cH _)⟩;have q1:¬(st:Int)<0:=by omega
 have q2:¬(st:Int)>ix (cK A B).length (rR:Int):=by omega
 have q3:¬(r:Int)<rung:=by omega
 have q4:¬(s.ph:Int)=5:=by omega
 have ra:(!decide ((rR:Int)=(rR:Int)))=false:=by simp
 rw[h] at bc;generalize ix (cK A B).length (rR:Int)=fk at *;refine cC (f:=54) Tryz.func54 rfl (cg rfl) (by exact jm) ?_;(repeat first|refine b3 ?_|(with_reducible apply eU);rfl;(repeat first|refine hP ?_|refine fA ?_|(with_reducible apply bT (c:=false));rfl;rfl;(first|assumption|exact cm (by omega)));(with_reducible apply dA));refine mM rfl rfl rfl rfl jN (fun i r h=>by cases h) rfl rfl ?_;rintro _ ap ⟨g,e,cs,bf,bg,rfl,rfl⟩;rw[F1];(refine aS ?_)
 ((refine wC 65 rfl (aZ rfl (aZ rfl aM)) rfl (ba.refl _) rfl rfl ?_))
 exact⟨_,_,rfl,rfl,rfl,g,e,cs,bf,bg,rfl,rfl⟩
theorem aej{s:bH.bh aq}{st:Nat}(cp:A.length≤900000)(cX:B.length≤900000)(ao:∀r∈A++B,r.length≤900000)(h:jn A B op fill rung cap=0)(hf:(st:Int)≤ix (cK A B).length cap)(ae:rung≤(r:Int))(bX:s.ph≠5)(dj:Dt 33 (cK A B) r cap.toNat s)(j:Nat){bO:Nat→Nat}(fa:∀j,bO (bO j)=j):pC j bO (cK A B) cap.toNat 54 [.w (.agg (h3 A B op fill rung cap)),aL st,sN r cap.toNat s] vj ⟨r,st,s⟩:=(aek cp cX ao h hf ae bX dj).tO9 rfl SE j fa
theorem ag8{s:bH.bh aq}{rm:Nat}(cp:A.length≤900000)(cX:B.length≤900000)(ao:∀r∈A++B,r.length≤900000)(h:jn A B op fill rung cap=0):aO ah 54 [.w (.agg (h3 A B op fill rung cap)),aL (-1),sN r rm s] (.cd [.one (.c (.pointer none)),.one (.c (.int .i64 141))]):=by
 obtain⟨⟨a0,a1⟩,⟨iI,b1⟩,c0,c1,wx,Pj⟩:=wb h;have bc:=F5 (op:=op) (fill:=fill) (rung:=rung) (cap:=cap) (A:=A) (B:=B) (by omega) (by omega) (fun r q=>by have:=ao r q;omega);have bP:=KZ (op:=op) (fill:=fill) (rung:=rung) (cap:=cap) cp cX (fun r q=>ao r (sw _ q)) (fun r q=>ao r (xd _ q)) (by rw[pG];omega);rw[h] at bc;refine bq (f:=54) Tryz.func54 rfl rfl rfl rfl ?_;(refine cQ ?_)
 ((refine bm rfl (aZ rfl (aZ rfl aM)) ?_))
 exact ag.aV.refl _
end
theorem adS{r:Nat}{v:aq}(h:dU r v.1 v.2=true):Di v:=by
 obtain⟨_,ay⟩:=Eo r;unfold dU wi at h;simp only[eb,cS] at h;unfold Di;omega
section
variable{E:List (Int×bR)}{r rm:Nat}
theorem afc{s:bH.bh aq}(hw:ie E r rm)(aa:iH (bt E r rm) s)(al:lC (bt E r rm) (yV (E.map Prod.snd) r) s):∀(i:Nat) e c,E[i]?=some e→s.ch[i]?=some c→MG r s.hot e c:=by
 rintro i ⟨o,⟨a,b⟩,⟨c,d⟩⟩ ⟨V,D⟩ fu hi;have ae:=al.iW i _ hi;obtain⟨g1,_⟩:=ae.gB;simp only at g1;obtain⟨w1,w2,w3,zq,Mf,Mg⟩:=g1;have yh:=(hw.we aa al).2 _ (cP hi);simp only at yh;have ES:=(Ib hw.ok aa al (cP hi)).2;simp only at ES;have an:(bt E r rm).R=rm:=rfl;rw[an] at ES;have j1:=hw.room;have PE:=ae.deep;simp only at PE
 have Oq:(E.map Prod.snd).getD i lc=((a,b),(c,d)):=by
  rw[xh,dx,fu];rfl
 have Ju:=ae.head;have Bc:=ae.last
 have Ii:(bt E r rm).P i=(b7 a r,b7 b r):=by
  show lM r ((E.map Prod.snd).getD i lc).1=_;rw[Oq];rfl
 have Ij:(bt E r rm).Q i=(b7 c r,b7 d r):=by
  show lM r ((E.map Prod.snd).getD i lc).2=_;rw[Oq];rfl
 rw[Ii] at Ju;rw[Ij] at Bc;simp only at Ju Bc;refine⟨yh.2,by have:=yh.1;have:=yh.2;show D.length≤1100;omega,fun v hv=>adS (w3 v hv),fun e he=>by have:=ES e he;omega,Ul ⟨w1,w2,w3,zq,fun e he=>by have:=ES e he;omega,Mf,Mg⟩,by rw[←List.head?_eq_getElem?];exact Ju,by rw[←List.getLast?_eq_getElem?];exact Bc,?_,?_⟩
 ·exact(ZM (D:=D) (m:=(D.length:Int)) (by omega) fun e he=>(PE e he).2).2
 ·show (V.any fun q => !p6 s.hot q.1 q.2)=false;rw[List.any_eq_false];intro q aj;have h1:0≤hk s.hot q.1 q.2:=sn.2 (ae.hot q aj);unfold p6;simp[h1]
theorem Vg{rr:Int}:∀ {l L:List aq},(L++l).Nodup→(∀x∈l,dU r x.1 x.2=true)→(L.length:Int)+(l.length:Int)≤rr→nI r rr L l=true
 | [],L,_,_,_=>rfl
 | q::l,L,aA,au,ao=>by
  have aj:q∉L:=fun h=>by
   have:=(List.nodup_append.1 aA).2.2 q h q (hn ..);exact this rfl
  have aF:¬ 0≤hk L q.1 q.2:=fun h=>aj (sn.1 h);have bb:¬rr≤(L.length:Int):=by rw[hJ] at ao;omega
  have aa:kH rr L q.1 q.2=true:=by unfold kH;rw[if_neg aF,if_neg bb]
  show (dU r q.1 q.2&&(kH rr L q.1 q.2&&nI r rr (nT rr L q.1 q.2) l))=true;rw[au q (hn ..),aa,M3 aa,pr,pr];refine Vg (by rw[hl];exact aA) (fun x ab=>au x (kU _ ab)) ?_;rw[cY];rw[hJ] at ao;show ((L.length+1:Nat):Int)+_≤_;omega
theorem ak2{s:bH.bh aq}(aa:iH (bt E r rm) s):nI r rm [] s.hot=true:=by
 refine Vg (by simpa using aa.nd) (fun x ab=>aa.hb x ab) ?_;have:s.hot.length≤rm:=aa.room;show ((0:Nat):Int)+_≤_;omega
end
section
variable{P:Program}{f:FuncId}{m0:Mem}{R0:aE}{Post:ag→Mem→aE→Prop}
theorem cb.BQ{x y:ag}{ys:List ag}(h:cb P f (y::ys) m0 R0 Post)(Ed:y.aW=true)(cs:ys.all ag.aW=true)(hle:x.aV y):cb P f (x::ys) m0 R0 Post :=
 ⟨fun U ad W vs b8 c7 cL=>h.call U ad W vs b8 (fun z aR j af=>by
  rcases fe.1 aR with rfl|aR
  ·exact absurd af (ag.c6 Ed j)
  ·exact absurd af (ag.c6 (b5.1 cs z aR) j)) ⟨cL.1,fun i z v aR hv=>by
  match i,aR with
  | 0,aR=>cases aR;exact hle U ad W v (cL.2 0 x v rfl hv)
  | i+1,aR=>exact cL.2 (i+1) z v aR hv⟩⟩
end
abbrev vy:List (List cf):=[[(0,0),(4,0),(4,4),(0,4)]]
abbrev et:List (Int×bR):=cK vy []
def hO:bH.bh aq:=⟨4,0,0,0,false,[(0,0)],[],[([(0,0)],[]),([(0,0)],[]),([(0,0)],[]),([(0,0)],[])]⟩
theorem LV:jn vy [] 0 0 0 1=0:=by decide +kernel
theorem akH:(ff et 1 [0,3,1000] (gT et 1 0)).1=[0,3,11]:=by decide +kernel
theorem akI:(ff et 1 [0,3,1000] (gT et 1 0)).2.k=4∧(ff et 1 [0,3,1000] (gT et 1 0)).2.st=14:=by decide +kernel
theorem akJ:(ff et 1 [0,3,1000] (gT et 1 0)).2.s.ph=4∧(ff et 1 [0,3,1000] (gT et 1 0)).2.s.I=0∧(ff et 1 [0,3,1000] (gT et 1 0)).2.s.J=0∧(ff et 1 [0,3,1000] (gT et 1 0)).2.s.T=0∧(ff et 1 [0,3,1000] (gT et 1 0)).2.s.dirty=false∧(ff et 1 [0,3,1000] (gT et 1 0)).2.s.hot=[(0,0)]∧(ff et 1 [0,3,1000] (gT et 1 0)).2.s.fnd=[]∧(ff et 1 [0,3,1000] (gT et 1 0)).2.s.ch=hO.ch:=by decide +kernel
theorem ajx{α:Type}{s t:bH.bh α}(h1:s.ph=t.ph)(h2:s.I=t.I)(ar:s.J=t.J)(aK:s.T=t.T)(bX:s.dirty=t.dirty)(fh:s.hot=t.hot)(kK:s.fnd=t.fnd)(ou:s.ch=t.ch):s=t:=by
 cases s;cases t;simp only at *;subst h1 h2 ar aK bX fh kK ou;rfl
theorem afk{l m:dR}(h1:l.k=m.k)(h2:l.st=m.st)(ar:l.s=m.s):l=m:=by
 cases l;cases m;simp only at *;subst h1 h2 ar;rfl
theorem U1:ff et 1 [0,3,1000] (gT et 1 0)=([0,3,11],⟨4,14,hO⟩):=by
 obtain⟨bB,cl⟩:=akI;obtain⟨a,b,c,d,e,f,g,h⟩:=akJ;exact Prod.ext akH (afk bB cl (ajx a b c d e f g h))
theorem U0:ie et 4 1:=⟨by decide,by decide,by decide,by decide,by decide⟩
theorem LW:ie et 0 1:=⟨by decide,by decide,by decide,by decide,by decide⟩
theorem UY:jO et 1 (gT et 1 0):=by
 have:=R2 (E:=et) (rm:=1) (k:=0) LW;unfold jO;have e:29*qK et.length 1=17400:=by decide
 show 0+pi et 1 (gT et 1 0)≤_;omega
theorem LX:jl et 1 ⟨4,14,hO⟩∧jO et 1 ⟨4,14,hO⟩:=by
 have:=GL [0,3,1000] (yP (E:=et) (rm:=1) (k:=0) LW) UY;rwa [U1] at this
theorem akL(b:Nat):pF 82 [] (fp et 4 1 4 0 0 0 false [(0,0)] [] hO.ch b) 1 [(0,0)] b (bl true):=by
 have hi:=LX.1.inv
 have al:lC (bt et 4 1) (yV (et.map Prod.snd) 4) hO:=by
  rcases Z6 hi (by decide) with h|h
  ·exact h.laid
  ·exact absurd h.ph (by decide)
 exact aeU (aeS (by decide) (by decide) (by decide) (aeF aev Q0 (r:=4) (by decide) rfl (by decide) (by decide) (by decide) (by decide) (afc U0 hi.1 al)))
theorem UZ:k7 hO.ch:=⟨by decide,by decide⟩
theorem akK:Dt 33 et 4 1 hO:=aeq U0 (by decide) (by decide) UZ (by decide) (ak2 LX.1.inv.1) fun b=>akL b
def rL(n:Nat)(R:aE):Prop:=(∀i,i<n→∃q,R i=some q)∧∀i,n≤i→R i=none
theorem fQ.up{E:List (Int×bR)}{rm:Nat}{l:dR}{cs:List AC}{R:aE}(h:fQ E rm l cs R):rL 5 R:=⟨h.xu,h.j4⟩
theorem LH{i n:Nat}(aA:n≤10)(h:kb i<n):20≤i:=by
 unfold kb at h
 (repeat' split at h) <;> omega
section
variable{n m:Nat}{lD Dr la xQ:aE}
theorem zn:two lD la=bK lD (la.a7 kb):=rfl
theorem alc(aX:rL n lD)(aa:rL m la)(aA:n≤10)(hm:m≤10):ba (la.a7 kb) (two lD la):=fun i q h=>by
 have h1:la (kb i)=some q:=h;have hi:20≤i:=LH hm (Nat.not_le.1 fun hle=>by rw[aa.2 _ hle] at h1;cases h1);rw[zn,gq (aX.2 i (by omega))];exact h
theorem CP(aX:rL n lD)(I9:rL n Dr):bK Dr (two lD la)=two Dr la:=by
 funext i;rw[zn,zn]
 by_cases hi:i<n
 ·obtain⟨q,aj⟩:=I9.1 i hi;rw[fz aj,fz aj]
 ·rw[gq (I9.2 i (by omega)),gq (aX.2 i (by omega)),gq (I9.2 i (by omega))]
theorem ale(aX:rL n lD)(aa:rL m la)(mH:rL m xQ)(aA:n≤10)(hm:m≤10):bK (xQ.a7 kb) (two lD la)=two lD xQ:=by
 funext i;rw[zn,zn]
 by_cases aK:kb i<m
 ·obtain⟨q,aj⟩:=mH.1 _ aK;have hi:=LH hm aK;rw[fz (show xQ.a7 kb i=some q from aj),gq (aX.2 i (by omega))];exact aj.symm
 ·have h1:xQ.a7 kb i=none:=mH.2 _ (by omega);have h2:la.a7 kb i=none:=aa.2 _ (by omega);rw[gq h1];cases aj:lD i with
  | some q=>rw[fz aj,fz aj]
  | none=>rw[gq aj,gq aj,h1,h2]
theorem ald(aX:rL n lD)(aa:rL m la)(aA:n≤10)(hm:m≤10):bK (la.a7 kb) lD=two lD la:=by
 funext i;rw[zn];cases aj:la.a7 kb i with
 | some q =>
  have h1:la (kb i)=some q:=aj;have hi:20≤i:=LH hm (Nat.not_le.1 fun hle=>by rw[aa.2 _ hle] at h1;cases h1);rw[fz aj,gq (aX.2 i (by omega))];exact aj.symm
 | none =>
  rw[gq aj];cases ao:lD i with
  | some r=>exact(fz ao).symm
  | none=>rw[gq ao,aj]
end
theorem ahp:aO ah 38 [] (bl true):=by
 obtain⟨Kc,YL⟩:=LX;have ao:∀r∈vy++[],r.length≤900000:=by decide
 have Ho:pC 21 cW et 1 39 [.w (.agg [gW vy,.c (.slice none 0 0),.c (.int .i64 0),.c (.int .i64 0),.c (.int .i64 0),.c (.int .i64 1)])] vj (gT et 1 0):=cb.BQ (Q2 (A:=vy) (B:=[]) (by decide) (by decide) ao LV 21 nw) rfl rfl Kf;have WU:=BQ (ag9 (A:=[]) (B:=[]) (op:=0) (fill:=0) (rung:=0) (cap:=0) (by decide) (by decide) (by decide) (by decide)) rfl rfl aef;rw[show jn [] [] 0 0 0 0=113 by decide] at WU;have kg:=Q3 (yP (E:=et) (rm:=1) (k:=0) LW) UY (bs:=[0,3,1000]) (by decide) (by decide);rw[U1] at kg;have kg:=kg.ot 21 (bO:=cW) nw rfl rfl;have sW:=(Q4 Kc).ot 21 (bO:=cW) nw rfl rfl;have mv:ur 21 cW et 1 48 [] ⟨4,14,hO⟩ (aL 14) ⟨4,14,hO⟩:=(Q5 (E:=et) (rm:=1) (l:=⟨4,14,hO⟩)).ot 21 (bO:=cW) nw rfl rfl;have zO:pC 49 kb et 1 54 [.w (.agg [gW vy,.c (.slice none 0 0),.c (.int .i64 0),.c (.int .i64 0),.c (.int .i64 0),.c (.int .i64 1)]),aL 14,sN 4 1 hO] vj ⟨4,14,hO⟩:=cb.BQ (aej (A:=vy) (B:=[]) (cap:=1) (r:=4) (s:=hO) (st:=14) (by decide) (by decide) ao LV (by decide) (by decide) (by decide) akK 49 UG) rfl rfl Kf;have alH:=BQ (ag8 (A:=vy) (B:=[]) (op:=0) (fill:=0) (rung:=0) (cap:=1) (r:=4) (rm:=1) (s:=hO) (by decide) (by decide) ao LV) rfl rfl Kf;have um:ur 21 cW et 1 56 [] ⟨4,14,hO⟩ (bl true) ⟨4,14,hO⟩:=(Kj (E:=et) (rm:=1) (l:=⟨4,14,hO⟩)).ot 21 (bO:=cW) nw rfl rfl;have Wj:ur 49 kb et 1 56 [] ⟨4,14,hO⟩ (bl true) ⟨4,14,hO⟩:=(Kj (E:=et) (rm:=1) (l:=⟨4,14,hO⟩)).ot 49 (bO:=kb) UG rfl rfl;have vP:ur 21 cW et 1 51 [] ⟨4,14,hO⟩ (aL 4) ⟨4,14,hO⟩:=(Q1 (E:=et) (rm:=1) (l:=⟨4,14,hO⟩)).ot 21 (bO:=cW) nw rfl rfl;have lA:ur 21 cW et 1 43 [] ⟨4,14,hO⟩ (bl false) ⟨4,14,hO⟩:=(Kk Kc (by decide)).ot 21 (bO:=cW) nw rfl rfl;have gv:ur 21 cW et 1 44 [] ⟨4,14,hO⟩ (aL 0) ⟨4,14,hO⟩:=(aei (E:=et) (rm:=1) (l:=⟨4,14,hO⟩) UZ).ot 21 (bO:=cW) nw rfl rfl;have Hp:=K0 (n:=4) (rm:=1) (by decide) (by decide) (by decide) (by decide);rw[show ix 4 1=17400 by decide] at Hp;have Mz:=wR (j:=0) (i:=0) (l:=[0,3,11]) rfl rfl;have k8:=wR (j:=1) (i:=1) (l:=[0,3,11]) rfl rfl;have pB:=wR (j:=2) (i:=2) (l:=[0,3,11]) rfl rfl;clear Kc YL ao;generalize gT et 1 0=WN at *;refine bq (f:=38) Tryz.func38 rfl rfl rfl rfl ?_;refine s3 ?_;(refine aS ?_);refine Fi 21 cW rfl rfl rfl rfl Ho rfl rfl rfl rfl (fun cs zT aP => ?_);rw[F1];(refine oR ?_);refine nr 21 cW rfl rfl rfl rfl rfl rfl rfl rfl kg aP (ba.refl _) (fun N8 qD dJ => ?_);rw[show bK (aE.a7 cW qD) (aE.a7 cW zT)=aE.a7 cW qD from aP.bK dJ];(refine aS ?_);refine nr 21 cW rfl rfl rfl rfl rfl rfl rfl rfl sW dJ (ba.refl _) (fun H6 qE iD => ?_);rw[show bK (aE.a7 cW qE) (aE.a7 cW qD)=aE.a7 cW qE from dJ.bK iD];(repeat first|(with_reducible apply hN (id:=8) [0,1,3,2,4,5,6,7,8,9] [47,49,2000021,2000049]);kernel_rfl;kernel_rfl;rfl|refine b3 ?_);refine nr 21 cW rfl rfl rfl rfl rfl rfl rfl rfl mv iD (ba.refl _) (fun Zr sS jM => ?_);rw[show bK (aE.a7 cW sS) (aE.a7 cW qE)=aE.a7 cW sS from iD.bK jM]
 skip
 refine Fi 49 kb rfl rfl rfl rfl zO rfl rfl rfl rfl (fun ds pE aH => ?_);rw[show bK (aE.a7 kb pE) (aE.a7 cW sS)=two sS pE from ald jM.up aH.up (by decide) (by decide)];(repeat first|(with_reducible apply hN (id:=10) [0,1,2,3,4,5,6,7,8,9,10,11,12,13,14,15,16,17,18,19,20,21,22,23,24,25,27,28,29,30,31,32,33,26,34,35,36,37,38,39,40,41,42,43,44,45,46,47,48,49,50,51,52,53,54,55,56,57,58,59,60,61,62,63,64,65,66,67,68,69,70,71,72] [75,79,84,96,101,120,2000021,2000049]);kernel_rfl;kernel_rfl;rfl|refine b3 ?_|(with_reducible apply eU);rfl;(repeat first|refine hP ?_|refine fA ?_|(with_reducible apply bT (c:=true));rfl;rfl;(exact ca (by omega)));(with_reducible apply dA));refine nr 21 cW rfl rfl rfl rfl rfl rfl rfl rfl um jM CN (fun Zs vR vF => ?_);rw[show bK (aE.a7 cW vR) (two sS pE)=two vR pE from CP jM.up vF.up];(refine aS ?_);refine nr 21 cW rfl rfl rfl rfl rfl rfl rfl rfl vP vF CN (fun Zt xN zC => ?_);rw[show bK (aE.a7 cW xN) (two vR pE)=two xN pE from CP vF.up zC.up];(repeat first|refine b3 ?_|(with_reducible apply eU);rfl;(repeat first|refine hP ?_|(with_reducible apply bT (c:=true));rfl;rfl;(exact ca (by omega)));(with_reducible apply dA));refine nr 21 cW rfl rfl rfl rfl rfl rfl rfl rfl mv zC CN (fun al4 Hs G7 => ?_);rw[show bK (aE.a7 cW Hs) (two xN pE)=two Hs pE from CP zC.up G7.up];(repeat first|refine b3 ?_|(with_reducible apply eU);rfl;(repeat first|refine hP ?_|(with_reducible apply bT (c:=true));rfl;rfl;(exact ca (by omega)));(with_reducible apply dA));refine nr 21 cW rfl rfl rfl rfl rfl rfl rfl rfl lA G7 CN (fun al5 Ht G8 => ?_);rw[show bK (aE.a7 cW Ht) (two Hs pE)=two Ht pE from CP G7.up G8.up];(refine aS ?_);refine nr 21 cW rfl rfl rfl rfl rfl rfl rfl rfl gv G8 CN (fun al6 MO G9 => ?_);rw[show bK (aE.a7 cW MO) (two Ht pE)=two MO pE from CP G8.up G9.up];(repeat first|refine b3 ?_|(with_reducible apply eU);rfl;(repeat first|refine hP ?_|(with_reducible apply bT (c:=true));rfl;rfl;(exact ca (by omega)));(with_reducible apply dA));refine nr 49 kb rfl rfl rfl rfl rfl rfl rfl rfl Wj aH (alc G9.up aH.up (by decide) (by decide)) (fun ZR alJ dY => ?_);rw[ale G9.up aH.up dY.up (by decide) (by decide)];(refine oR ?_)
 ((refine bm rfl (aZ rfl aM) ?_))
 exact ag.aV.refl _
instance am8:Da ah 44 7 7 false 1:=⟨by kernel_rfl⟩
theorem aal{A B:List (List cf)}(h:¬rX A B>0):A.length+B.length+(bL A+bL B)≤14∧bL A+bL B≤8:=by
 unfold rX at h
 by_cases ak:A.length+B.length+(bL A+bL B)≤14∧bL A+bL B≤8
 ·exact ak
 ·rw[if_neg ak] at h;omega
theorem LQ{A B:List (List cf)}(h:A.length+B.length+(bL A+bL B)≤14):∀r∈A++B,r.length≤900000:=fun r q=>by
 rcases j7.1 q with q|q <;> (obtain⟨i,hi⟩:=kx q;have:=U7 hi;omega)
section
variable{A B:List (List cf)}{op fill rung cap:Int}
theorem aeo(hs:A.length+B.length+(bL A+bL B)≤14)(h:jn A B op fill rung cap=0):pC 7 cW (cK A B) cap.toNat 46 [.w (.agg (h3 A B op fill rung cap))] F4 (jI A B rung cap):=by
 obtain⟨i1,aK,f1,f2,f3,f4,b1,b2⟩:=VJ h;obtain⟨⟨a0,a1⟩,⟨c0,c1⟩,d0,d1,_,_⟩:=wb h;have ay:=Dk.fit h;have Ho:=Q2 (op:=op) (fill:=fill) (A:=A) (B:=B) (by omega) (by omega) (LQ hs) h 7 nw;have hx:=K7 (A:=A) (B:=B) (op:=op) (fill:=fill) (rung:=rung) (cap:=cap) (by omega);have zO:=S2 (n:=((cK A B).length:Int)) (rm:=cap) (by omega) (by rw[pG];omega) c0 c1;obtain⟨_,_,m0,m1⟩:=FL (n:=((cK A B).length:Int)) (rm:=cap) (by omega) (by rw[pG];omega) c0 c1;have kg:=Q3 (yP (k:=rung.toNat) ay) b1 (bs:=[ix (cK A B).length cap]) (by rw[List.length_singleton];decide) (fun b aa=>by rw[jD.1 aa];omega);rw[show (ff (cK A B) cap.toNat [ix (cK A B).length cap] (gT (cK A B) cap.toNat rung.toNat)).2=jI A B rung cap from rfl] at kg;have kg:=kg.ot 7 (bO:=cW) nw rfl rfl;have um:=(Kj (E:=cK A B) (rm:=cap.toNat) (l:=jI A B rung cap)).ot 7 (bO:=cW) nw rfl rfl;rw[ca (show ((jI A B rung cap).s.ph:Int)=4 by omega)] at um;generalize (ff (cK A B) cap.toNat [ix (cK A B).length cap] (gT (cK A B) cap.toNat rung.toNat)).1=did at *;generalize jI A B rung cap=WO at *;generalize gT (cK A B) cap.toNat rung.toNat=WN at *;generalize ix (cK A B).length cap=fk at *;clear i1 aK f1 f2 f3 f4 b1 b2 ay a0 a1 c0 c1 d0 d1 m0 m1 hs h;refine cC (f:=46) Tryz.func46 rfl (cg rfl) (by exact jm) ?_;(refine aS ?_);refine Fi 7 cW rfl rfl rfl rfl Ho rfl rfl rfl rfl (fun cs zT aP => ?_);rw[F1];(repeat first|(with_reducible apply hN (id:=4) [0,1,2,3,4,5,6,7,8] [24,2000007]);kernel_rfl;kernel_rfl;rfl|refine b3 ?_|refine gu ?_);refine nr 7 cW rfl rfl rfl rfl rfl rfl rfl rfl kg aP (ba.refl _) (fun N8 qD dJ => ?_);rw[show bK (aE.a7 cW qD) (aE.a7 cW zT)=aE.a7 cW qD from aP.bK dJ];(refine aS ?_);refine nr 7 cW rfl rfl rfl rfl rfl rfl rfl rfl um dJ (ba.refl _) (fun H6 qE iD => ?_);rw[show bK (aE.a7 cW qE) (aE.a7 cW qD)=aE.a7 cW qE from dJ.bK iD];(refine aS ?_)
 ((refine wC 7 rfl (aZ rfl aM) rfl (ba.refl _) iD.closed rfl ?_))
 exact⟨H6,qE,rfl,rfl,rfl,iD⟩
theorem aen(hs:A.length+B.length+(bL A+bL B)≤14)(h:jn A B op fill rung cap=0)(j:Nat){bO:Nat→Nat}(fa:∀j,bO (bO j)=j):pC j bO (cK A B) cap.toNat 46 [.w (.agg (h3 A B op fill rung cap))] F4 (jI A B rung cap):=(aeo hs h).tO9 rfl agV j fa
theorem afd(aa:A.length+B.length+bL A+bL B≤1048576):aO ah 8 [.w (.agg (h3 A B op fill rung cap))] (bl true):=by
 have eR:=ahp;have bc:=ag3 (op:=op) (fill:=fill) (rung:=rung) (cap:=cap) aa
 by_cases ay:rX A B>0
 case pos =>
  generalize rX A B=OW at *;refine bq (f:=8) Tryz.func8 rfl rfl rfl rfl ?_;(repeat first|refine db ?_|refine fA ?_|(with_reducible apply bT (c:=true));rfl;rfl;(exact ca (by omega)))
  ((refine bm rfl (aZ rfl aM) ?_))
  exact ag.aV.refl _
 obtain⟨hs,ou⟩:=aal ay;have bP:=aid (op:=op) (fill:=fill) (rung:=rung) (cap:=cap) (A:=A) (B:=B) (by omega) (fun r q=>by have:=LQ hs r (sw _ q);omega) (by omega) (fun r q=>by have:=LQ hs r (xd _ q);omega)
 by_cases ak:jn A B op fill rung cap=0
 case neg =>
  generalize rX A B=OW at *;generalize jn A B op fill rung cap=cv at *;refine bq (f:=8) Tryz.func8 rfl rfl rfl rfl ?_;(repeat first|refine db ?_|refine fA ?_|(with_reducible apply bT (c:=false));rfl;rfl;(exact cm (by omega)))
  ((refine bm rfl (aZ rfl aM) ?_))
  exact ag.aV.refl _
 obtain⟨i1,aK,f1,f2,f3,f4,b1,b2⟩:=VJ ak;obtain⟨⟨a0,a1⟩,⟨c0,c1⟩,d0,d1,_,_⟩:=wb ak;have cu:=aen (op:=op) (fill:=fill) (rung:=rung) (cap:=cap) hs ak 15 nw;have hx:=K7 (A:=A) (B:=B) (op:=op) (fill:=fill) (rung:=rung) (cap:=cap) (by omega);have zO:=S2 (n:=((cK A B).length:Int)) (rm:=cap) (by omega) (by rw[pG];omega) c0 c1;have alI:=K0 (n:=((cK A B).length:Int)) (rm:=cap) (by omega) (by rw[pG];omega) c0 c1;have sW:=(Q4 i1).ot 15 (bO:=cW) nw rfl rfl;have vP:=(Q1 (E:=cK A B) (rm:=cap.toNat) (l:=jI A B rung cap)).ot 15 (bO:=cW) nw rfl rfl;have mv:=(Q5 (E:=cK A B) (rm:=cap.toNat) (l:=jI A B rung cap)).ot 15 (bO:=cW) nw rfl rfl;have lA:=(Kk i1 (by unfold jO at b2;omega)).ot 15 (bO:=cW) nw rfl rfl;rw[cm (by omega),show fL (cK A B) cap.toNat (jI A B rung cap)=jI A B rung cap by unfold fL;rw[if_pos (by omega)]] at lA;rw[ak] at bP;have g2:(((jI A B rung cap).k:Nat):Int)≥rung:=by omega
 generalize rX A B=OW at *;generalize jI A B rung cap=WO at *;generalize ix (cK A B).length cap=fk at *;clear i1 aK b1 b2 a0 a1 c0 c1 d0 d1 hs ak;refine bq (f:=8) Tryz.func8 rfl rfl rfl rfl ?_;refine s3 ?_;(repeat first|refine b3 ?_|(with_reducible apply eU);rfl;(repeat first|refine hP ?_|refine fA ?_|(with_reducible apply bT (c:=false));rfl;rfl;(exact cm (by omega)));(with_reducible apply dA));refine Fi 15 cW rfl rfl rfl rfl cu rfl rfl rfl rfl (fun cs zT aP => ?_);rw[F1];(repeat first|(with_reducible apply hN (id:=7) [0,1,2,4,5,6,3,7,8,9,10,11,12,13,14,15,16,17,18,19,20,21,22,24,25,23,26,27,28,29,30,31,32,33,34,35,36,37,38,39,43,44,40,41,42,45,46,47] [24,44,51,56,61,2000015]);kernel_rfl;kernel_rfl;rfl|refine b3 ?_|refine gu ?_);refine nr 15 cW rfl rfl rfl rfl rfl rfl rfl rfl mv aP (ba.refl _) (fun N8 qD dJ => ?_);rw[show bK (aE.a7 cW qD) (aE.a7 cW zT)=aE.a7 cW qD from aP.bK dJ];(repeat first|refine b3 ?_|(with_reducible apply eU);rfl;(repeat first|refine hP ?_|refine fA ?_|(with_reducible apply bT (c:=true));rfl;rfl;(exact ca (by omega)));(with_reducible apply dA));refine nr 15 cW rfl rfl rfl rfl rfl rfl rfl rfl vP dJ (ba.refl _) (fun H6 qE iD => ?_);rw[show bK (aE.a7 cW qE) (aE.a7 cW qD)=aE.a7 cW qE from dJ.bK iD];(repeat first|refine b3 ?_|(with_reducible apply eU);rfl;(repeat first|refine hP ?_|(with_reducible apply bT (c:=true));rfl;rfl;(exact ca (by omega)));(with_reducible apply dA));refine nr 15 cW rfl rfl rfl rfl rfl rfl rfl rfl vP iD (ba.refl _) (fun Zr sS jM => ?_);rw[show bK (aE.a7 cW sS) (aE.a7 cW qE)=aE.a7 cW sS from iD.bK jM];(repeat first|refine b3 ?_|(with_reducible apply eU);rfl;(repeat first|refine hP ?_|(with_reducible apply bT (c:=true));rfl;rfl;(exact ca (by omega)));(with_reducible apply dA));refine nr 15 cW rfl rfl rfl rfl rfl rfl rfl rfl lA jM (ba.refl _) (fun Zs vR vF => ?_);rw[show bK (aE.a7 cW vR) (aE.a7 cW sS)=aE.a7 cW vR from jM.bK vF];(refine aS ?_);refine nr 15 cW rfl rfl rfl rfl rfl rfl rfl rfl sW vF (ba.refl _) (fun Zt xN zC => ?_);rw[show bK (aE.a7 cW xN) (aE.a7 cW vR)=aE.a7 cW xN from vF.bK zC];(refine aS ?_)
 ((refine bm rfl (aZ rfl aM) ?_))
 rw[ca f4];exact ag.aV.refl _
end
theorem Z7(A B:List (List cf))(op fill rung cap:Int)(h:A.length+B.length+bL A+bL B≤1048576):aO ah 8 [.w (.agg (h3 A B op fill rung cap))] (bl true):=afd h
end Go.Proofs.YtklpfooafbjnpaaGreat
