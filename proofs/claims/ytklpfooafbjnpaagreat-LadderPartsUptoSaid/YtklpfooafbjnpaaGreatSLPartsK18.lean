/-
  My own texts,without what this claim does not need. My own text.
-/
import Derived.Test.YtklpfooafbjnpaaGreatSLPartsK17
set_option maxRecDepth 100000
set_option maxHeartbeats 64000000
set_option linter.unusedVariables false
set_option linter.unusedSimpArgs false
set_option linter.unusedSectionVars false
open Go.Proofs.Tryz renaming prog → ah
namespace Go.Proofs.YtklpfooafbjnpaaGreat
open Go.RowKit
open bH
section
variable{E:List (Int×bN)}{k rm ph I J T rr:Int}{dirty:Bool}{hot fnd L:List aq}{ch:List (List aq×List Int)}{b:Nat}
theorem afw(al:L.length≤1100)(x y:Int){S:dV}(hS:im rr L (bJ b) S)(g e:Nat):cg ah 260 [bn x y,.w (.one (.p (pc [.c (bJ g)])))] bC (ie b S g e (fr E k rm ph I J T dirty hot fnd ch b)) fun bx aI ap=>aI=bC∧∃S' e',bx=bl (!qf L x y)∧im rr L (bJ b) S'∧ap=ie b S' g e' (fr E k rm ph I J T dirty hot fnd ch b):=by
 have eV:=UO (cs:=fr E k rm ph I J T dirty hot fnd ch b) rfl rfl rfl (gE _) (afu al x y) hS g e;obtain⟨v,hv⟩:∃v,v=decide (0≤ht L x y):=⟨_,rfl⟩;rw[show qf L x y=v from hv.symm];rw[←hv] at eV
 have a7:cg ah 257 [aQ (bJ g),bn x y] bC (ie b S g e (fr E k rm ph I J T dirty hot fnd ch b)) fun bx aI ap=>aI=bC∧∃S' e',bx=bl v∧im rr L (bJ b) S'∧ap=ie b S' g e' (fr E k rm ph I J T dirty hot fnd ch b) :=
  eV.imp (by rintro bx aI ap ⟨S',e',⟨h1,h2⟩,ar,aK⟩;exact⟨ar,S',e',h1,h2,aK⟩)
 refine cG (f:=260) Tryz.func260 rfl (cn rfl) (by exact jW) ?_;(refine aT ?_);refine mU rfl rfl rfl rfl a7 (bc.refl _) rfl rfl ?_;rintro _ ap ⟨S',e',rfl,ey,rfl⟩;rw[zt];(refine aT ?_)
 ((refine p7 rfl (aY rfl aM) (bc.refl _) rfl xA ?_))
 exact⟨rfl,S',e',rfl,ey,rfl⟩
abbrev ME(g:Nat):ag := .w (.one (.p (l6 (.func 260) [.p (pc [.c (bJ g)])])))
def tn(L:List aq):List aq→Int→Int
 | [],_ => -1
 | q::l,i=>if (!qf L q.1 q.2)=true then i else tn L l (i+1)
theorem Pq(L:List aq):∀(l:List aq) (i:Int),0≤i→decide (tn L l i≥0)=l.any (fun q => !qf L q.1 q.2)
 | [],i,_=>rfl
 | q::l,i,h=>by
  have cf:=Pq L l (i+1) (by omega);rw[List.any_cons];show decide ((if (!qf L q.1 q.2)=true then i else tn L l (i+1))≥0)=_;cases hp:(!qf L q.1 q.2) with
  | true=>rw[if_pos rfl,Bool.true_or];exact b5 h
  | false=>rw[if_neg (by decide),Bool.false_or];exact cf
def W2(L V:List aq)(rr:Int)(b g:Nat)(cs:List AC)(n:Nat)(R:aF)(az:List (Nat×ag))(aR:List (Nat×List AC)):Prop :=
 ∃(i:Nat) (ii:Int) (S:dV) (e:Nat),i≤V.length∧n=V.length-i∧ii=i∧tn L V 0=tn L (V.drop i) ii∧im rr L (bJ b) S∧R=ie b S g e cs∧az=[(0,fF V),(1,ME g),(7,aL V.length),(8,aL ii)]∧aR=[]
theorem afs(al:L.length≤1100){V:List aq}(mO:V.length≤1100){S:dV}(hS:im rr L (bJ b) S)(g e:Nat):cg ah 301 [fF V,ME g] bC (ie b S g e (fr E k rm ph I J T dirty hot fnd ch b)) fun bx aI ap=>aI=bC∧∃S' e',bx=aL (tn L V 0)∧im rr L (bJ b) S'∧ap=ie b S' g e' (fr E k rm ph I J T dirty hot fnd ch b):=by
 refine cG (f:=301) Tryz.func301 rfl (cn rfl) (by exact jW) ?_;(refine aT ?_);refine iH 19 (W2 L V rr b g (fr E k rm ph I J T dirty hot fnd ch b)) V.length (ie b S g e (fr E k rm ph I J T dirty hot fnd ch b)) _ [] ⟨0,0,S,e,dk _,rfl,rfl,rfl,hS,rfl,rfl,rfl⟩ (bc.refl _) rfl ⟨rfl,rfl,rfl,rfl,trivial⟩ trivial rfl ?_;clear hS;rintro n R az aR ⟨j,de,jU,aH,af,rfl,jy,gH,hS,rfl,rfl,rfl⟩ bz;clear bz
 by_cases hp:j<V.length
 ·have p2:de<(V.length:Int):=by omega
  have p3:0≤de:=by omega
  obtain⟨x,y,g1⟩:∃x y,V[j]?=some (x,y):=⟨_,_,bB hp⟩;have gQ:=oO jy g1;have hd:V.drop j=(x,y)::V.drop (j+1):=by rw[jK hp,(bq.1 g1).2]
  have a7:=afw (E:=E) (k:=k) (rm:=rm) (ph:=ph) (I:=I) (J:=J) (T:=T) (dirty:=dirty) (hot:=hot) (fnd:=fnd) (ch:=ch) al x y hS g aH;rw[hd,show tn L ((x,y)::V.drop (j+1)) de=if (!qf L x y)=true then de else tn L (V.drop (j+1)) (de+1) from rfl] at gH;cases aw:(!qf L x y) with
  | true =>
   rw[aw] at gH a7;rw[if_pos rfl] at gH;rw[gH];(refine aT ?_);refine QN rfl rfl rfl rfl a7 (bc.refl _) rfl rfl ?_;rintro _ ap ⟨S',e',rfl,ey,rfl⟩;rw[zt];(refine aT ?_)
   ((refine p7 rfl (aY rfl aM) (bc.refl _) rfl xA ?_))
   exact⟨rfl,S',e',rfl,ey,rfl⟩
  | false =>
   rw[aw] at gH a7;rw[if_neg (by decide)] at gH;(refine aT ?_);refine QN rfl rfl rfl rfl a7 (bc.refl _) rfl rfl ?_;rintro _ ap ⟨S',e',rfl,ey,rfl⟩;rw[zt];(refine aT ?_);exact⟨V.length-(j+1),_,_,[],by omega,⟨j+1,de+1,S',e',hp,rfl,by omega,gH,ey,rfl,rfl,rfl⟩,bc.refl _,rfl,⟨rfl,rfl,rfl,rfl,trivial⟩,trivial,rfl⟩
 ·have lL:j=V.length:=by omega
  subst lL;rw[List.drop_length] at gH;rw[show tn L [] de = -1 from rfl] at gH;rw[gH];(refine aT ?_)
  ((refine p7 rfl (aY rfl aM) (bc.refl _) rfl xA ?_))
  exact⟨rfl,jU,aH,rfl,hS,rfl⟩
theorem afn(al:L.length≤1100){V:List aq}(mO:V.length≤1100){S:dV}(hS:im rr L (bJ b) S)(g e:Nat):cg ah 259 [fF V,ME g] bC (ie b S g e (fr E k rm ph I J T dirty hot fnd ch b)) fun bx aI ap=>aI=bC∧∃S' e',bx=bl (V.any fun q => !qf L q.1 q.2)∧im rr L (bJ b) S'∧ap=ie b S' g e' (fr E k rm ph I J T dirty hot fnd ch b):=by
 have a7:=afs (E:=E) (k:=k) (rm:=rm) (ph:=ph) (I:=I) (J:=J) (T:=T) (dirty:=dirty) (hot:=hot) (fnd:=fnd) (ch:=ch) al mO hS g e;rw[←Pq L V 0 (by decide)];refine cG (f:=259) Tryz.func259 rfl (cn rfl) (by exact jW) ?_;(refine aT ?_);refine mU rfl rfl rfl rfl a7 (bc.refl _) rfl rfl ?_;rintro _ ap ⟨S',e',rfl,ey,rfl⟩;rw[zt];(refine aT ?_)
 ((refine p7 rfl (aY rfl aM) (bc.refl _) rfl xA ?_))
 exact⟨rfl,S',e',rfl,ey,rfl⟩
end
section
variable{E:List (Int×bN)}{k rm ph I J T rr:Int}{dirty:Bool}{hot fnd L:List aq}{ch:List (List aq×List Int)}{b:Nat}
theorem agw{f:FuncId}{args:List ag}{cs:List AC}{v:ag}(tI:v.aW=true)(dx:args.all ag.aW=true)(di:cs.all AC.aW=true)(cu:0<cs.length)(hp:rT f args cs v cs)(g e:Nat):cg ah f (aQ (bJ g)::args) bC (upd dP 9 (ev g e cs)) fun bx aI ap=>aI=bC∧∃e',bx=v∧ap=upd dP 9 (ev g e' cs):=by
 have h:=cg.G9 9 g e hp dx di cu rfl (fun bx aI ap aj=>by
  obtain⟨ds,rfl,rfl,rfl,rfl⟩:=aj;exact⟨tI,rfl,_,rfl,di,cu⟩)
 refine⟨fun U ad W vs cb c9 cO=>(h.call U ad W vs cb c9 cO).mono ?_⟩;rintro cr W' ⟨v1,cp,aI,ap,aV,cl,c4,⟨ay,bd,e',⟨gd,he,rfl,rfl,rfl⟩,rfl,rfl⟩,iV⟩;obtain rfl:=K2 he;exact⟨_,cp,bC,_,aV,cl,c4,⟨rfl,e',rfl,rfl⟩,iV⟩
theorem ahs{b:Nat}{S:dV}{g e e':Nat}{cs:List AC}:bQ (upd dP 9 (ev g e' cs)) (ie b S g e cs)=ie b S g e' cs:=by
 funext i
 by_cases h:i=9
 ·subst h;rw[fD (bW _ _ _)];exact(bW _ _ _).symm
 ·rw[gy (show upd dP 9 (ev g e' cs) i=none from bL _ _ h)];unfold ie;rw[bL _ _ h,bL _ _ h]
theorem afY{b:Nat}{S:dV}{g e:Nat}{cs:List AC}:bc (upd dP 9 (ev g e cs)) (ie b S g e cs):=fun i r h=>by
 by_cases Ev:i=9
 ·subst Ev;exact h
 ·rw[bL _ _ Ev] at h;cases h
structure M7 (r:Nat) (L:List aq) (e:Int×bN) (c:List aq×List Int):Prop where
 sw:c.1.length≤1100
 KT:c.2.length≤1100
 Ra:∀v∈c.1,Dz v
 ON:∀d∈c.2,0≤d∧d≤9223372036854775807
 rt:xx r c.1 c.2=true
 first:c.1[0]?=some (ca e.2.1.1 r,ca e.2.1.2 r)
 last:c.1[c.1.length-1]?=some (ca e.2.2.1 r,ca e.2.2.2 r)
 deep:mK c.2≤(c.2.length:Int)
 hot:(c.1.any fun q => !qf L q.1 q.2)=false
def Xm(E:List (Int×bN))(k rm ph I J T:Int)(dirty:Bool)(hot fnd:List aq)(ch:List (List aq×List Int))(b:Nat)(rr:Int)(L:List aq)(g:Nat)(n:Nat)(R:aF)(az:List (Nat×ag))(aR:List (Nat×List AC)):Prop :=
 ∃(i:Nat) (ii:Int) (S:dV) (e:Nat),i≤ch.length∧n=ch.length-i∧ii=i∧im rr L (bJ b) S∧R=ie b S g e (fr E k rm ph I J T dirty hot fnd ch b)∧az=[(1,.w (.one (.p (pc [.c (bJ g)])))),(3,aQ (ou g 1)),(25,rI ch),(26,aL ch.length),(27,aL ii)]∧aR=[]
theorem afg(qQ:MX)(s8:MW){r:Nat}(ao:r≤28)(ae:k=r)(aA:jD (E.map Prod.snd)=true)(fB:E.length≤1000)(al:L.length≤1100)(hlen:ch.length=E.length)(ado:∀(i:Nat) e c,E[i]?=some e→ch[i]?=some c→M7 r L e c):pO 210 [] (fr E k rm ph I J T dirty hot fnd ch b) rr L b (bl true):=by
 refine UN rfl rfl rfl (gE _) fun S hS g e => ?_;have anv:(ch.length:Int)=(E.length:Int):=by omega
 refine E5 (f:=210) Tryz.func210 rfl (cn rfl) (by exact jW) (L3 ?_);refine n6 (A3 ?_);(refine aT ?_);refine mg ?_;refine abl 1 _ rfl rfl ?_;refine A3 ?_;(repeat first|(with_reducible apply dB (id:=2) [0,1,2,3,4,5,6,7,8,9,10]);kernel_rfl;kernel_rfl;rfl|refine b9 ?_);refine pv 9 rfl rfl rfl rfl rfl rfl rfl ?_;(refine aT ?_);refine pv 9 rfl rfl rfl rfl rfl rfl rfl ?_;(refine aT ?_);refine pv 9 rfl rfl rfl rfl rfl rfl rfl ?_;(refine aT ?_);refine iH 78 (Xm E k rm ph I J T dirty hot fnd ch b rr L g) ch.length (ie b S g e (fr E k rm ph I J T dirty hot fnd ch b)) _ [] ⟨0,0,S,e,dk _,rfl,rfl,hS,rfl,rfl,rfl⟩ (bc.refl _) rfl ⟨rfl,rfl,rfl,rfl,rfl,trivial⟩ trivial rfl ?_;clear hS;rintro n R az aR ⟨i,ii,jU,aH,hi,rfl,ee,hS,rfl,rfl,rfl⟩ bz;clear bz
 by_cases aj:i<ch.length
 ·have q2:ii<(ch.length:Int):=by omega
  have q3:0≤ii:=by omega
  obtain⟨o,p1,p2,c1,c2,g1⟩:∃o p1 p2 c1 c2,E[i]?=some (o,(p1,p2),(c1,c2)):=⟨_,_,_,_,_,bB (by omega)⟩;obtain⟨V,D,g2⟩:∃V D,ch[i]?=some (V,D):=⟨_,_,bB aj⟩;obtain⟨sw,KT,Ra,ON,rt,fst,aga,deep,aC⟩:=ado i _ _ g1 g2;have jt:=yg ee g2;simp only at jt
  have Qt:gK (p1,p2)=true∧gK (c1,c2)=true:=by
   unfold jD at aA;have:=bZ.1 aA ((p1,p2),(c1,c2)) (fE.2 ⟨_,cM g1,rfl⟩);simpa [eg] using this
  have eV:=agw (cs:=fr E k rm ph I J T dirty hot fnd ch b) rfl rfl rfl (gE _) (afo (E:=E) (k:=k) (rm:=rm) (ph:=ph) (I:=I) (J:=J) (T:=T) (dirty:=dirty) (hot:=hot) (fnd:=fnd) (ch:=ch) (b:=b) ao ae g1 Qt.1 Qt.2) g aH;rw[show ((i:Nat):Int)=ii by omega] at eV;have a7:=qQ V D r ao sw KT Ra ON;have bK:=s8 V D sw KT;rw[rt,←ae] at a7;have nA:0<V.length:=(bq.1 fst).1;have pa:=oO (j:=0) (i:=0) rfl fst;have WY:=oO (j:=(V.length:Int)-1) (i:=V.length-1) (by omega) aga;have aob:(V.length:Int)≤1100:=by have:V.length≤1100:=sw;omega
  have aoa:(0:Int)<(V.length:Int):=by omega
  have amV:¬mK D>(D.length:Int):=by have:mK D≤(D.length:Int):=deep;omega
  generalize mK D=amU at *;generalize ca p1 r=a at *;generalize ca p2 r=a' at *;generalize ca c1 r=c at *;generalize ca c2 r=c' at *;have fI:(!dE a a' a a')=false:=by simp[dE]
  have gD:(!dE c c' c c')=false:=by simp[dE]
  (refine aT ?_);refine mU rfl rfl rfl rfl eV afY rfl rfl ?_;rintro _ ap ⟨aN,rfl,rfl⟩;rw[ahs];(repeat first|(with_reducible apply dB (id:=8) [0,1,2,3,4,5,6,7,8,9,10,11,12,13,14,15,16,17,18,19,20,21,22,23,24,25,26,27,28,29,30,31,32,33,34]);kernel_rfl;kernel_rfl;rfl|refine b9 ?_);refine pv 9 rfl rfl rfl rfl rfl rfl rfl ?_;(repeat first|refine b9 ?_|(with_reducible apply eT);rfl;(repeat first|refine hD ?_|refine fw ?_|refine DZ (xs:=[_]) (cs:=[_]) rfl rfl rfl rfl ?_|(with_reducible apply bR (c:=false));rfl;rfl;(assumption));(with_reducible apply dC));have dZ:=afn (E:=E) (k:=k) (rm:=rm) (ph:=ph) (I:=I) (J:=J) (T:=T) (dirty:=dirty) (hot:=hot) (fnd:=fnd) (ch:=ch) al sw hS g aN;rw[aC] at dZ;refine mU rfl rfl rfl rfl dZ (bc.refl _) rfl rfl ?_;rintro _ ap ⟨x5,b6,rfl,Bh,rfl⟩;rw[zt];(refine aT ?_);exact⟨ch.length-(i+1),_,_,[],by omega,⟨i+1,ii+1,x5,b6,aj,rfl,by omega,Bh,rfl,rfl,rfl⟩,bc.refl _,rfl,⟨rfl,rfl,rfl,rfl,rfl,trivial⟩,trivial,rfl⟩
 ·have q2:¬ii<(ch.length:Int):=by omega
  (refine aT ?_)
  ((refine p7 rfl (aY rfl aM) (bc.refl _) rfl xA ?_))
  exact⟨jU,aH,⟨rfl,hS⟩,rfl,rfl⟩
end
def WL(hv fv cv:Value)(k rm ph I J T:Int)(dirty:Bool)(hot fnd:List aq)(ch:List (List aq×List Int))(n:Nat)(R:aF)(az:List (Nat×ag))(aR:List (Nat×List AC)):Prop :=
 ∃(i:Nat) (ii:Int),i≤ch.length∧n=ch.length-i∧ii=i∧R=mz hv fv cv hot fnd ch∧az=[(1,.w (.one (.own 1 0))),(2,.w (.one (.own 2 0))),(18,aQ cv),(19,aL ch.length),(20,aL ii)]∧aR=[(1,lY k rm ph I J T dirty hv fv cv),(2,lY 0 0 0 0 0 0 false (.slice none 0 0) (.slice none 0 0) (.slice none 0 0))]
theorem ajM{hv fv cv:Value}{hot fnd:List aq}{ch:List (List aq×List Int)}:upd (mz hv fv cv hot fnd ch) 3 (wz cv ch)=mz hv fv cv hot fnd ch:=by
 funext k
 by_cases hX:k=3
 ·subst hX;rfl
 ·rw[bL _ _ hX]
theorem afm{k rm ph I J T:Int}{dirty:Bool}{hot fnd:List aq}{ch:List (List aq×List Int)}(aZ:hot.length≤900000)(aw:fnd.length≤900000)(ak:jS ch) :
  cg ah 83 [Db k rm ph I J T dirty hot fnd ch] bC dP fun bx aI ap=>aI=bC∧∃hv fv cv,bx = .w (.agg (lY k rm ph I J T dirty hv fv cv))∧ap=mz hv fv cv hot fnd ch:=by
 have hlen:=ak.1;have dO:=DS aZ (tO hot) (by rw[ol,Nat.mul_comm]);have jr:=DS aw (tO fnd) (by rw[ol,Nat.mul_comm]);have jR:=Nx (n:=ch.length) (xs:=eB ch) (by omega) (bZ.2 (Ot ch)) (AG ch);refine cG (f:=83) Tryz.func83 rfl (cn rfl) (by exact jW) ?_;(repeat first|(with_reducible apply iG (id:=1) [0,1,3,4,6,7,2,9,5,8,10,11,12,13,14] [7,10,13]);kernel_rfl;kernel_rfl;rfl|refine b9 ?_);refine FB 1 rfl rfl rfl rfl dO rfl rfl (fun v q h => ?_);obtain⟨bT,rfl,rfl⟩:=h;(refine aT ?_);refine FB 2 rfl rfl rfl rfl jr rfl rfl (fun v q h => ?_);obtain⟨dh,rfl,rfl⟩:=h
 skip
 refine FB 3 rfl rfl rfl rfl jR rfl rfl (fun v q h => ?_);obtain⟨da,rfl,rfl⟩:=h;(repeat first|refine b9 ?_|(with_reducible apply oK 3);(iterate 4 rfl);kernel_rfl;rfl);refine iH 33 (WL bT dh da k rm ph I J T dirty hot fnd ch) ch.length (mz bT dh da hot fnd ch) _ [(1,lY k rm ph I J T dirty bT dh da),(2,lY 0 0 0 0 0 0 false (.slice none 0 0) (.slice none 0 0) (.slice none 0 0))] ⟨0,0,dk _,rfl,rfl,rfl,rfl,rfl⟩ (bc.refl _) rfl ⟨rfl,rfl,rfl,rfl,rfl,trivial⟩ ⟨rfl,rfl,trivial⟩ rfl ?_;rintro n R az aR ⟨i,ii,hi,rfl,ee,rfl,rfl,rfl⟩ bz;clear bz
 by_cases aj:i<ch.length
 ·obtain⟨V,D,g1⟩:∃V D,ch[i]?=some (V,D):=⟨_,_,bB aj⟩;obtain⟨jw,gA⟩:=ak.2 _ (cM g1);simp only at jw gA;obtain⟨jt,pa⟩:=AF (ii:=ii) ee g1;have a7:=Rr V D gA (by omega);have q2:ii<(ch.length:Int):=by omega
  have q3:0≤ii:=by omega
  have q4:0<ch.length:=by omega
  have aH:ii.toNat*2=2*i:=by omega
  have BB:ii.toNat*2+2≤(eB ch).length:=by rw[AG];omega
  have b6:eP (eB ch) (ii.toNat*2) [.p (b3 2 V.length (bY V)),.p (b3 1 D.length (cw D))]=eB ch:=by rw[aH];exact Ov g1
  (repeat first|(with_reducible apply iG (id:=5) [0,1,2,3,4,5,6] [4000000]);kernel_rfl;kernel_rfl;rfl|refine b9 ?_|refine gP ?_|(with_reducible apply ky 3);(iterate 4 rfl);(omega);(assumption);rfl;kernel_rfl;rfl|(with_reducible apply oL 3);(iterate 3 rfl);(assumption);assumption;rfl;kernel_rfl;rfl);refine yO 3 rfl rfl rfl rfl q4 rfl rfl BB rfl ?_;(refine aT ?_);refine⟨ch.length-(i+1),mz bT dh da hot fnd ch,_,[(1,lY k rm ph I J T dirty bT dh da),(2,lY 0 0 0 0 0 0 false (.slice none 0 0) (.slice none 0 0) (.slice none 0 0))],by omega,⟨i+1,ii+1,by omega,rfl,by omega,rfl,rfl,rfl⟩,fun k q ae => ?_,rfl,⟨rfl,rfl,rfl,rfl,rfl,trivial⟩,⟨rfl,rfl,trivial⟩,rfl⟩
  have eb:upd (mz bT dh da hot fnd ch) 3 (⟨53,2,da,ch.length,eP (eB ch) (ii.toNat*2) [.p (b3 2 V.length (bY V)),.p (b3 1 D.length (cw D))]⟩:bE)=mz bT dh da hot fnd ch:=by
   rw[b6];exact ajM
  exact(congrFun eb k).trans ae
 ·have q2:¬ii<(ch.length:Int):=by omega
  (refine aT ?_)
  ((refine p7 rfl (c6 rfl rfl rfl aM) (bc.refl _) rfl (fun j q h=>by cases h) ?_))
  exact⟨rfl,bT,dh,da,rfl,rfl⟩
theorem ajO{b:Nat}{S:dV}{hv fv cv:Value}{hot fnd:List aq}{ch:List (List aq×List Int)}:bQ (mz hv fv cv hot fnd ch) (bp 0 (fp (bJ b) S))=eo b S hv fv cv hot fnd ch:=by
 funext i
 match i with
 | 0=>rfl
 | 1=>rfl
 | 2=>rfl
 | 3=>rfl
 | i+4=>rfl
section
variable{E:List (Int×bN)}{r rm:Nat}
def DM(K:Nat)(E:List (Int×bN))(r rm:Nat)(s:bH.bh aq):Prop :=
 cg ah 28 [sX E,sY r rm s] bC dP fun bx aI ap=>∃cs,bx = .ck [.one (.own K 0),.one (.c (.bool true))]∧aI=cH K cs∧ek E r rm s cs ap
theorem ae0{s:bH.bh aq}(aw:ik E r rm)(aZ:s.hot.length≤1100)(va:s.fnd.length≤900000)(ak:jS s.ch)(ar:s.ph≠3)(QU:nR r rm [] s.hot=true)
  (hp:∀b,pO 82 [] (fr E r rm s.ph s.I s.J s.T s.dirty s.hot s.fnd s.ch b) rm s.hot b (bl true)):DM 33 E r rm s:=by
 have a7:=Tc (E:=E) (by have:=aw.len;omega);rw[aw.near] at a7;have bK:=Gr (k:=(r:Int));have g1:(decide ((0:Int)≤(r:Int))&&decide ((r:Int)≤28))=true:=by have:=aw.r;simp;omega
 rw[g1] at bK;have dZ:=Te (E:=E) (by have:=aw.len;omega);have js:=Rv (rm:Int);have o9:=afm (k:=(r:Int)) (rm:=(rm:Int)) (ph:=(s.ph:Int)) (I:=(s.I:Int)) (J:=(s.J:Int)) (T:=(s.T:Int)) (dirty:=s.dirty) (hot:=s.hot) (fnd:=s.fnd) (ch:=s.ch) (by omega) va ak;have q1:¬(rm:Int)<1:=by have:=aw.pos;omega
 have q2:¬(rm:Int)>1024:=by have:=aw.room;omega
 have q3:¬(s.ph:Int)=3:=by omega
 have Ev:rE (rm:Int)=rm:=by have:=aw.pos;have:=aw.room;unfold rE;(repeat split) <;> omega
 have ae:hj (r:Int) r:=⟨aw.r,.inr (.inr rfl)⟩;refine cG (f:=28) Tryz.func28 rfl (cn rfl) (by exact jW) ?_;(repeat first|(with_reducible apply iG (id:=3) [0,1,2,3,4,5,6,7,8] [31]);kernel_rfl;kernel_rfl;rfl|refine b9 ?_|(with_reducible apply eT);rfl;(repeat first|refine hD ?_|refine fw ?_|(with_reducible apply bR (c:=false));rfl;rfl;(exact cc (by omega)));(with_reducible apply dC));refine Kr 0 rfl rfl rfl rfl js rfl rfl (fun p S jA => ?_);obtain⟨b,rfl,hS⟩:=jA;rw[Ev] at hS;(refine aT ?_);have zT:=cg.at 33 (afC (E:=E) (k:=(r:Int)) (rm:=(rm:Int)) (ph:=(s.ph:Int)) (I:=(s.I:Int)) (J:=(s.J:Int)) (T:=(s.T:Int)) (dirty:=s.dirty) (fnd:=s.fnd) (ch:=s.ch) ae aZ S hS) rfl rfl (fun bx ds ap aj=>by obtain⟨rfl,rfl,_⟩:=aj;exact⟨rfl,rfl⟩);refine oJ 33 rfl rfl rfl rfl zT rfl rfl (bc.refl _) rfl rfl rfl ?_;rintro _ _ _ ⟨rfl,rfl,l9,L',Bg,ab4,rfl⟩;obtain rfl:=ab4 QU;rw[show bQ (bp 0 (fp (bJ b) l9)) (upd dP 0 (fp (bJ b) S))=bp 0 (fp (bJ b) l9) from Cw,QU];(refine aT ?_);have MV:=cg.at 33 (hp b l9 Bg) rfl rfl (fun bx ds ap aj=>by obtain⟨rfl,rfl,_⟩:=aj;exact⟨rfl,rfl⟩);refine oJ 33 rfl rfl rfl rfl MV rfl rfl (bc.refl _) rfl rfl rfl ?_;rintro _ _ _ ⟨rfl,rfl,x5,Bh,rfl⟩;rw[Cw];(refine aT ?_);refine mU rfl rfl rfl rfl o9 (fun i r h=>by cases h) rfl rfl ?_;rintro _ ap ⟨hv,fv,cv,rfl,rfl⟩;rw[ajO];(refine aT ?_)
 ((refine yB 33 rfl (aY rfl (aY rfl aM)) rfl (bc.refl _) rfl rfl ?_))
 exact⟨_,rfl,rfl,hv,fv,cv,b,x5,.c iQ,Bh,rfl,fun h=>absurd h ar,rfl,rfl⟩
end
section
variable{P:Program}{f:FuncId}{args:List ag}
theorem cg.agt{k:Nat}(i:Nat){Q:List AC→aF→Prop}(h:cg P f args bC dP fun v aI ap=>∃cs,v = .ck [.one (.own k 0),.one (.c (.bool true))]∧aI=cH k cs∧Q cs ap)(aj:∀cs ap,Q cs ap→cs.all AC.aW=true∧0<cs.length∧ap i=none) :
  cg P f args bC dP fun v aI ap=>aI=bC∧∃g e cs bd,Q cs bd∧v = .ck [.one (.c (bJ g)),.one (.c (.bool true))]∧ap=upd bd i (ev g e cs):=by
 refine⟨fun U ad W vs cb c9 cO=>(h.call U ad W vs cb c9 cO).mono ?_⟩;rintro cr W' ⟨v,r,aI,ap,aV,cl,rfl,⟨cs,rfl,rfl,nC⟩,hG,oe,gY,bD,cm,cP,cQ,aa⟩;obtain⟨c1,c2,jc⟩:=aj _ _ nC;obtain⟨e,vY⟩:=Ea (aV:=aV) c2 c1 jc hG;obtain⟨xs,rfl,al,ab⟩:=oe;refine⟨_,.ck [.one (.c (bJ (aV k))),.one (.c (.bool true))],bC,_,aV,cl,rfl,⟨rfl,aV k,e,cs,ap,nC,rfl,rfl⟩,vY,⟨xs,rfl,al,fun i x v h1 h2 => ?_⟩,fun j af=>absurd af (ag.c8 rfl j),fun k cs h=>(by cases h),fun i r h=>(by cases h),cP,fun b cR=>cQ b ((sc c2 jc rfl).2 cR),aa⟩
 match i,h1 with
 | 0,h1=>cases h1;exact⟨ab 0 _ v rfl h2,rfl⟩
 | 1,h1=>cases h1;exact ab 1 _ v rfl h2
end
section
variable{A B:List (List cj)}{op fill rung cap:Int}{r:Nat}
theorem aeW{s:bH.bh aq}{st:Nat}(ct:A.length≤900000)(cX:B.length≤900000)(ao:∀r∈A++B,r.length≤900000)(h:kq A B op fill rung cap=0)(fH:(st:Int)≤lx (cJ A B).length cap)(ae:rung≤(r:Int))(bX:s.ph≠5)(dp:DM 33 (cJ A B) r cap.toNat s):rS 65 eE (cJ A B) cap.toNat 54 [.w (.agg (hL A B op fill rung cap)),aL st,sY r cap.toNat s] vw ⟨r,st,s⟩:=by
 obtain⟨⟨a0,a1⟩,⟨jb,b1⟩,c0,c1,wK,PI⟩:=AD h;obtain⟨r3,rfl⟩:∃r3:Nat,cap=r3:=⟨cap.toNat,by omega⟩;rw[kI] at *;have a7:=Gl (op:=op) (fill:=fill) (rung:=rung) (cap:=(r3:Int)) (A:=A) (B:=B) (by omega) (by omega) (fun r q=>by have:=ao r q;omega);have bK:=Lr (op:=op) (fill:=fill) (rung:=rung) (cap:=(r3:Int)) ct cX (fun r q=>ao r (sI _ q)) (fun r q=>ao r (xp _ q)) (by rw[uK];omega);have dZ:=Ta (n:=((cJ A B).length:Int)) (rm:=(r3:Int)) (by omega) (by rw[uK];omega) jb b1;have js:=cg.agt 4 (Q:=fun cs ap=>ek (cJ A B) r r3 s cs ap) dp fun cs ap bf=>⟨bf.closed,bf.gl,bf.kb 4 (cE _)⟩;have q1:¬(st:Int)<0:=by omega
 have q2:¬(st:Int)>lx (cJ A B).length (r3:Int):=by omega
 have q3:¬(r:Int)<rung:=by omega
 have q4:¬(s.ph:Int)=5:=by omega
 have lV:(!decide ((r3:Int)=(r3:Int)))=false:=by simp
 rw[h] at a7;generalize lx (cJ A B).length (r3:Int)=fC at *;refine cG (f:=54) Tryz.func54 rfl (cn rfl) (by exact jW) ?_;(repeat first|refine b9 ?_|(with_reducible apply eT);rfl;(repeat first|refine hD ?_|refine fw ?_|(with_reducible apply bR (c:=false));rfl;rfl;(first|assumption|exact cc (by omega)));(with_reducible apply dC));refine mU rfl rfl rfl rfl js (fun i r h=>by cases h) rfl rfl ?_;rintro _ ap ⟨g,e,cs,bd,bf,rfl,rfl⟩;rw[Lq];(refine aT ?_)
 ((refine yB 65 rfl (aY rfl (aY rfl aM)) rfl (bc.refl _) rfl rfl ?_))
 exact⟨_,_,rfl,rfl,rfl,g,e,cs,bd,bf,rfl,rfl⟩
theorem aeV{s:bH.bh aq}{st:Nat}(ct:A.length≤900000)(cX:B.length≤900000)(ao:∀r∈A++B,r.length≤900000)(h:kq A B op fill rung cap=0)(fH:(st:Int)≤lx (cJ A B).length cap)(ae:rung≤(r:Int))(bX:s.ph≠5)(dp:DM 33 (cJ A B) r cap.toNat s)(j:Nat){bS:Nat→Nat}(fl:∀j,bS (bS j)=j):rS j bS (cJ A B) cap.toNat 54 [.w (.agg (hL A B op fill rung cap)),aL st,sY r cap.toNat s] vw ⟨r,st,s⟩:=(aeW ct cX ao h fH ae bX dp).tO9 rfl S6 j fl
theorem ahL{s:bH.bh aq}{rm:Nat}(ct:A.length≤900000)(cX:B.length≤900000)(ao:∀r∈A++B,r.length≤900000)(h:kq A B op fill rung cap=0):aO ah 54 [.w (.agg (hL A B op fill rung cap)),aL (-1),sY r rm s] (.ck [.one (.c (.pointer none)),.one (.c (.int .i64 141))]):=by
 obtain⟨⟨a0,a1⟩,⟨jb,b1⟩,c0,c1,wK,PI⟩:=AD h;have a7:=Gl (op:=op) (fill:=fill) (rung:=rung) (cap:=cap) (A:=A) (B:=B) (by omega) (by omega) (fun r q=>by have:=ao r q;omega);have bK:=Lr (op:=op) (fill:=fill) (rung:=rung) (cap:=cap) ct cX (fun r q=>ao r (sI _ q)) (fun r q=>ao r (xp _ q)) (by rw[uK];omega);rw[h] at a7;refine bo (f:=54) Tryz.func54 rfl rfl rfl rfl ?_;(refine cK ?_)
 ((refine bk rfl (aY rfl (aY rfl aM)) ?_))
 exact ag.aU.refl _
end
theorem aet{r:Nat}{v:aq}(h:dX r v.1 v.2=true):Dz v:=by
 obtain⟨_,aw⟩:=EF r;unfold dX wi at h;simp only[eg,cT] at h;unfold Dz;omega
section
variable{E:List (Int×bN)}{r rm:Nat}
theorem afN{s:bH.bh aq}(hw:ik E r rm)(aa:iM (bt E r rm) s)(al:lI (bt E r rm) (zb (E.map Prod.snd) r) s):∀(i:Nat) e c,E[i]?=some e→s.ch[i]?=some c→M7 r s.hot e c:=by
 rintro i ⟨o,⟨a,b⟩,⟨c,d⟩⟩ ⟨V,D⟩ fB hi;have ae:=al.ja i _ hi;obtain⟨g1,_⟩:=ae.gG;simp only at g1;obtain⟨w1,w2,w3,zH,MH,MI⟩:=g1;have yw:=(hw.wA aa al).2 _ (cM hi);simp only at yw;have E8:=(IC hw.ok aa al (cM hi)).2;simp only at E8;have an:(bt E r rm).R=rm:=rfl;rw[an] at E8;have j8:=hw.room;have P4:=ae.deep;simp only at P4
 have OU:(E.map Prod.snd).getD i li=((a,b),(c,d)):=by
  rw[xt,dt,fB];rfl
 have JT:=ae.head;have Bt:=ae.last
 have II:(bt E r rm).P i=(ca a r,ca b r):=by
  show lU r ((E.map Prod.snd).getD i li).1=_;rw[OU];rfl
 have IJ:(bt E r rm).Q i=(ca c r,ca d r):=by
  show lU r ((E.map Prod.snd).getD i li).2=_;rw[OU];rfl
 rw[II] at JT;rw[IJ] at Bt;simp only at JT Bt;refine⟨yw.2,by have:=yw.1;have:=yw.2;show D.length≤1100;omega,fun v hv=>aet (w3 v hv),fun e he=>by have:=E8 e he;omega,UM ⟨w1,w2,w3,zH,fun e he=>by have:=E8 e he;omega,MH,MI⟩,by rw[←List.head?_eq_getElem?];exact JT,by rw[←List.getLast?_eq_getElem?];exact Bt,?_,?_⟩
 ·exact(aam (D:=D) (m:=(D.length:Int)) (by omega) fun e he=>(P4 e he).2).2
 ·show (V.any fun q => !qf s.hot q.1 q.2)=false;rw[List.any_eq_false];intro q aj;have h1:0≤ht s.hot q.1 q.2:=sB.2 (ae.hot q aj);unfold qf;simp[h1]
theorem VJ{rr:Int}:∀ {l L:List aq},(L++l).Nodup→(∀x∈l,dX r x.1 x.2=true)→(L.length:Int)+(l.length:Int)≤rr→nR r rr L l=true
 | [],L,_,_,_=>rfl
 | q::l,L,aA,au,ao=>by
  have aj:q∉L:=fun h=>by
   have:=(List.nodup_append.1 aA).2.2 q h q (hc ..);exact this rfl
  have aE:¬ 0≤ht L q.1 q.2:=fun h=>aj (sB.1 h);have a8:¬rr≤(L.length:Int):=by rw[hb] at ao;omega
  have aa:kQ rr L q.1 q.2=true:=by unfold kQ;rw[if_neg aE,if_neg a8]
  show (dX r q.1 q.2&&(kQ rr L q.1 q.2&&nR r rr (n1 rr L q.1 q.2) l))=true;rw[au q (hc ..),aa,Ny aa,pF,pF];refine VJ (by rw[hx];exact aA) (fun x ab=>au x (kH _ ab)) ?_;rw[cY];rw[hb] at ao;show ((L.length+1:Nat):Int)+_≤_;omega
theorem alN{s:bH.bh aq}(aa:iM (bt E r rm) s):nR r rm [] s.hot=true:=by
 refine VJ (by simpa using aa.nd) (fun x ab=>aa.hl x ab) ?_;have:s.hot.length≤rm:=aa.room;show ((0:Nat):Int)+_≤_;omega
end
section
variable{P:Program}{f:FuncId}{m0:Mem}{R0:aF}{Post:ag→Mem→aF→Prop}
theorem cg.B9{x y:ag}{ys:List ag}(h:cg P f (y::ys) m0 R0 Post)(Et:y.aW=true)(cs:ys.all ag.aW=true)(hle:x.aU y):cg P f (x::ys) m0 R0 Post :=
 ⟨fun U ad W vs cb c9 cO=>h.call U ad W vs cb (fun z aS j af=>by
  rcases fg.1 aS with rfl|aS
  ·exact absurd af (ag.c8 Et j)
  ·exact absurd af (ag.c8 (bZ.1 cs z aS) j)) ⟨cO.1,fun i z v aS hv=>by
  match i,aS with
  | 0,aS=>cases aS;exact hle U ad W v (cO.2 0 x v rfl hv)
  | i+1,aS=>exact cO.2 (i+1) z v aS hv⟩⟩
end
abbrev vL:List (List cj):=[[(0,0),(4,0),(4,4),(0,4)]]
abbrev eu:List (Int×bN):=cJ vL []
def hR:bH.bh aq:=⟨4,0,0,0,false,[(0,0)],[],[([(0,0)],[]),([(0,0)],[]),([(0,0)],[]),([(0,0)],[])]⟩
theorem Mm:kq vL [] 0 0 0 1=0:=by decide +kernel
theorem alq:(ec eu 1 [0,3,1000] (ft eu 1 0)).1=[0,3,11]:=by decide +kernel
theorem alr:(ec eu 1 [0,3,1000] (ft eu 1 0)).2.k=4∧(ec eu 1 [0,3,1000] (ft eu 1 0)).2.st=14:=by decide +kernel
theorem als:(ec eu 1 [0,3,1000] (ft eu 1 0)).2.s.ph=4∧(ec eu 1 [0,3,1000] (ft eu 1 0)).2.s.I=0∧(ec eu 1 [0,3,1000] (ft eu 1 0)).2.s.J=0∧(ec eu 1 [0,3,1000] (ft eu 1 0)).2.s.T=0∧(ec eu 1 [0,3,1000] (ft eu 1 0)).2.s.dirty=false∧(ec eu 1 [0,3,1000] (ft eu 1 0)).2.s.hot=[(0,0)]∧(ec eu 1 [0,3,1000] (ft eu 1 0)).2.s.fnd=[]∧(ec eu 1 [0,3,1000] (ft eu 1 0)).2.s.ch=hR.ch:=by decide +kernel
theorem akf{α:Type}{s t:bH.bh α}(h1:s.ph=t.ph)(h2:s.I=t.I)(ar:s.J=t.J)(aK:s.T=t.T)(bX:s.dirty=t.dirty)(fb:s.hot=t.hot)(kT:s.fnd=t.fnd)(n7:s.ch=t.ch):s=t:=by
 cases s;cases t;simp only at *;subst h1 h2 ar aK bX fb kT n7;rfl
theorem afV{l m:dD}(h1:l.k=m.k)(h2:l.st=m.st)(ar:l.s=m.s):l=m:=by
 cases l;cases m;simp only at *;subst h1 h2 ar;rfl
theorem Vs:ec eu 1 [0,3,1000] (ft eu 1 0)=([0,3,11],⟨4,14,hR⟩):=by
 obtain⟨bD,cm⟩:=alr;obtain⟨a,b,c,d,e,f,g,h⟩:=als;exact Prod.ext alq (afV bD cm (akf a b c d e f g h))
theorem Vr:ik eu 4 1:=⟨by decide,by decide,by decide,by decide,by decide⟩
theorem Mn:ik eu 0 1:=⟨by decide,by decide,by decide,by decide,by decide⟩
theorem Vp:kn eu 1 (ft eu 1 0):=by
 have:=Ss (E:=eu) (rm:=1) (k:=0) Mn;unfold kn;have e:29*qU eu.length 1=17400:=by decide
 show 0+px eu 1 (ft eu 1 0)≤_;omega
theorem Mo:ju eu 1 ⟨4,14,hR⟩∧kn eu 1 ⟨4,14,hR⟩:=by
 have:=C2 [0,3,1000] (y5 (E:=eu) (rm:=1) (k:=0) Mn) Vp;rwa [Vs] at this
theorem alu(b:Nat):pO 82 [] (fr eu 4 1 4 0 0 0 false [(0,0)] [] hR.ch b) 1 [(0,0)] b (bl true):=by
 have hi:=Mo.1.inv
 have al:lI (bt eu 4 1) (zb (eu.map Prod.snd) 4) hR:=by
  rcases aaF hi (by decide) with h|h
  ·exact h.laid
  ·exact absurd h.ph (by decide)
 exact afv (aft (by decide) (by decide) (by decide) (afg ae5 Rs (r:=4) (by decide) rfl (by decide) (by decide) (by decide) (by decide) (afN Vr hi.1 al)))
theorem Vq:jS hR.ch:=⟨by decide,by decide⟩
theorem alt:DM 33 eu 4 1 hR:=ae0 Vr (by decide) (by decide) Vq (by decide) (alN Mo.1.inv.1) fun b=>alu b
def rX(n:Nat)(R:aF):Prop:=(∀i,i<n→∃q,R i=some q)∧∀i,n≤i→R i=none
theorem fX.up{E:List (Int×bN)}{rm:Nat}{l:dD}{cs:List AC}{R:aF}(h:fX E rm l cs R):rX 5 R:=⟨h.xG,h.kb⟩
theorem Ma{i n:Nat}(aA:n≤10)(h:hg i<n):20≤i:=by
 unfold hg at h
 (repeat' split at h) <;> omega
section
variable{n m:Nat}{lJ DK lg x4:aF}
theorem zE:two lJ lg=bQ lJ (lg.bg hg):=rfl
theorem Ha(aX:rX n lJ)(aa:rX m lg)(aA:n≤10)(hm:m≤10):bc (lg.bg hg) (two lJ lg):=fun i q h=>by
 have h1:lg (hg i)=some q:=h;have hi:20≤i:=Ma hm (Nat.not_le.1 fun hle=>by rw[aa.2 _ hle] at h1;cases h1);rw[zE,gy (aX.2 i (by omega))];exact h
theorem vN(aX:rX n lJ)(Jz:rX n DK):bQ DK (two lJ lg)=two DK lg:=by
 funext i;rw[zE,zE]
 by_cases hi:i<n
 ·obtain⟨q,aj⟩:=Jz.1 i hi;rw[fD aj,fD aj]
 ·rw[gy (Jz.2 i (by omega)),gy (aX.2 i (by omega)),gy (Jz.2 i (by omega))]
theorem Hb(aX:rX n lJ)(aa:rX m lg)(mQ:rX m x4)(aA:n≤10)(hm:m≤10):bQ (x4.bg hg) (two lJ lg)=two lJ x4:=by
 funext i;rw[zE,zE]
 by_cases aK:hg i<m
 ·obtain⟨q,aj⟩:=mQ.1 _ aK;have hi:=Ma hm aK;rw[fD (show x4.bg hg i=some q from aj),gy (aX.2 i (by omega))];exact aj.symm
 ·have h1:x4.bg hg i=none:=mQ.2 _ (by omega);have h2:lg.bg hg i=none:=aa.2 _ (by omega);rw[gy h1];cases aj:lJ i with
  | some q=>rw[fD aj,fD aj]
  | none=>rw[gy aj,gy aj,h1,h2]
theorem VQ(aX:rX n lJ)(aa:rX m lg)(aA:n≤10)(hm:m≤10):bQ (lg.bg hg) lJ=two lJ lg:=by
 funext i;rw[zE];cases aj:lg.bg hg i with
 | some q =>
  have h1:lg (hg i)=some q:=aj;have hi:20≤i:=Ma hm (Nat.not_le.1 fun hle=>by rw[aa.2 _ hle] at h1;cases h1);rw[fD aj,gy (aX.2 i (by omega))];exact aj.symm
 | none =>
  rw[gy aj];cases ao:lJ i with
  | some r=>exact(fD ao).symm
  | none=>rw[gy ao,aj]
end
theorem ah3:aO ah 38 [] (bl true):=by
 obtain⟨KB,Zk⟩:=Mo;have ao:∀r∈vL++[],r.length≤900000:=by decide
 have Aa:rS 21 eE eu 1 39 [.w (.agg [hf vL,.c (.slice none 0 0),.c (.int .i64 0),.c (.int .i64 0),.c (.int .i64 0),.c (.int .i64 1)])] vw (ft eu 1 0):=cg.B9 (KI (A:=vL) (B:=[]) (by decide) (by decide) ao Mm 21 qe) rfl rfl KE;have Xq:=B9 (ahM (A:=[]) (B:=[]) (op:=0) (fill:=0) (rung:=0) (cap:=0) (by decide) (by decide) (by decide) (by decide)) rfl rfl aeQ;rw[show kq [] [] 0 0 0 0=113 by decide] at Xq;have jU:=KJ (y5 (E:=eu) (rm:=1) (k:=0) Mn) Vp (bs:=[0,3,1000]) (by decide) (by decide);rw[Vs] at jU;have jU:=jU.oD 21 (bS:=eE) qe rfl rfl;have qQ:=(KK KB).oD 21 (bS:=eE) qe rfl rfl;have kP:uD 21 eE eu 1 48 [] ⟨4,14,hR⟩ (aL 14) ⟨4,14,hR⟩:=(KL (E:=eu) (rm:=1) (l:=⟨4,14,hR⟩)).oD 21 (bS:=eE) qe rfl rfl;have xY:rS 49 hg eu 1 54 [.w (.agg [hf vL,.c (.slice none 0 0),.c (.int .i64 0),.c (.int .i64 0),.c (.int .i64 0),.c (.int .i64 1)]),aL 14,sY 4 1 hR] vw ⟨4,14,hR⟩:=cg.B9 (aeV (A:=vL) (B:=[]) (cap:=1) (r:=4) (s:=hR) (st:=14) (by decide) (by decide) ao Mm (by decide) (by decide) (by decide) alt 49 zw) rfl rfl KE;have amp:=B9 (ahL (A:=vL) (B:=[]) (op:=0) (fill:=0) (rung:=0) (cap:=1) (r:=4) (rm:=1) (s:=hR) (by decide) (by decide) ao Mm) rfl rfl KE;have zU:uD 21 eE eu 1 56 [] ⟨4,14,hR⟩ (bl true) ⟨4,14,hR⟩:=(Rt (E:=eu) (rm:=1) (l:=⟨4,14,hR⟩)).oD 21 (bS:=eE) qe rfl rfl;have WO:uD 49 hg eu 1 56 [] ⟨4,14,hR⟩ (bl true) ⟨4,14,hR⟩:=(Rt (E:=eu) (rm:=1) (l:=⟨4,14,hR⟩)).oD 49 (bS:=hg) zw rfl rfl;have DE:uD 21 eE eu 1 51 [] ⟨4,14,hR⟩ (aL 4) ⟨4,14,hR⟩:=(aeU (E:=eu) (rm:=1) (l:=⟨4,14,hR⟩)).oD 21 (bS:=eE) qe rfl rfl;have nl:uD 21 eE eu 1 43 [] ⟨4,14,hR⟩ (bl false) ⟨4,14,hR⟩:=(Ru KB (by decide)).oD 21 (bS:=eE) qe rfl rfl;have gz:uD 21 eE eu 1 44 [] ⟨4,14,hR⟩ (aL 0) ⟨4,14,hR⟩:=(aeT (E:=eu) (rm:=1) (l:=⟨4,14,hR⟩) Vq).oD 21 (bS:=eE) qe rfl rfl;have HM:=Ta (n:=4) (rm:=1) (by decide) (by decide) (by decide) (by decide);rw[show lx 4 1=17400 by decide] at HM;have xT:=oN (j:=0) (i:=0) (l:=[0,3,11]) rfl rfl;have jt:=oN (j:=1) (i:=1) (l:=[0,3,11]) rfl rfl;have pa:=oN (j:=2) (i:=2) (l:=[0,3,11]) rfl rfl;clear KB Zk ao;generalize ft eu 1 0=Xl at *;refine bo (f:=38) Tryz.func38 rfl rfl rfl rfl ?_;refine td ?_;(refine aT ?_);refine FC 21 eE rfl rfl rfl rfl Aa rfl rfl rfl rfl (fun cs Ae aP => ?_);rw[Lq];(refine oB ?_);refine og 21 eE rfl rfl rfl rfl rfl rfl rfl rfl jU aP (bc.refl _) (fun Er s5 dO => ?_);rw[show bQ (aF.bg eE s5) (aF.bg eE Ae)=aF.bg eE s5 from aP.bQ dO];(refine aT ?_);refine og 21 eE rfl rfl rfl rfl rfl rfl rfl rfl qQ dO (bc.refl _) (fun Z2 we jr => ?_);rw[show bQ (aF.bg eE we) (aF.bg eE s5)=aF.bg eE we from dO.bQ jr];(repeat first|(with_reducible apply iG (id:=8) [0,1,3,2,4,5,6,7,8,9] [47,49,2000021,2000049]);kernel_rfl;kernel_rfl;rfl|refine b9 ?_);refine og 21 eE rfl rfl rfl rfl rfl rfl rfl rfl kP jr (bc.refl _) (fun Z3 uF jR => ?_);rw[show bQ (aF.bg eE uF) (aF.bg eE we)=aF.bg eE uF from jr.bQ jR]
 skip
 refine FC 49 hg rfl rfl rfl rfl xY rfl rfl rfl rfl (fun ds lH aG => ?_);rw[show bQ (aF.bg hg lH) (aF.bg eE uF)=two uF lH from VQ jR.up aG.up (by decide) (by decide)];(repeat first|(with_reducible apply iG (id:=10) [0,1,2,3,4,5,6,7,8,9,10,11,12,13,14,15,16,17,18,19,20,21,22,23,24,25,27,28,29,30,31,32,33,26,34,35,36,37,38,39,40,41,42,43,44,45,46,47,48,49,50,51,52,53,54,55,56,57,58,59,60,61,62,63,64,65,66,67,68,69,70,71,72] [75,79,84,96,101,120,2000021,2000049]);kernel_rfl;kernel_rfl;rfl|refine b9 ?_|(with_reducible apply eT);rfl;(repeat first|refine hD ?_|refine fw ?_|(with_reducible apply bR (c:=true));rfl;rfl;(exact b5 (by omega)));(with_reducible apply dC));refine og 21 eE rfl rfl rfl rfl rfl rfl rfl rfl zU jR vM (fun amL HP Hq => ?_);rw[show bQ (aF.bg eE HP) (two uF lH)=two HP lH from vN jR.up Hq.up];(refine aT ?_);refine og 21 eE rfl rfl rfl rfl rfl rfl rfl rfl DE Hq vM (fun amM HQ Hr => ?_);rw[show bQ (aF.bg eE HQ) (two HP lH)=two HQ lH from vN Hq.up Hr.up];(repeat first|refine b9 ?_|(with_reducible apply eT);rfl;(repeat first|refine hD ?_|(with_reducible apply bR (c:=true));rfl;rfl;(exact b5 (by omega)));(with_reducible apply dC));refine og 21 eE rfl rfl rfl rfl rfl rfl rfl rfl kP Hr vM (fun amN HR Hs => ?_);rw[show bQ (aF.bg eE HR) (two HQ lH)=two HR lH from vN Hr.up Hs.up];(repeat first|refine b9 ?_|(with_reducible apply eT);rfl;(repeat first|refine hD ?_|(with_reducible apply bR (c:=true));rfl;rfl;(exact b5 (by omega)));(with_reducible apply dC));refine og 21 eE rfl rfl rfl rfl rfl rfl rfl rfl nl Hs vM (fun amO HS Ht => ?_);rw[show bQ (aF.bg eE HS) (two HR lH)=two HS lH from vN Hs.up Ht.up];(refine aT ?_);refine og 21 eE rfl rfl rfl rfl rfl rfl rfl rfl gz Ht vM (fun amP Ng Hu => ?_);rw[show bQ (aF.bg eE Ng) (two HS lH)=two Ng lH from vN Ht.up Hu.up];(repeat first|refine b9 ?_|(with_reducible apply eT);rfl;(repeat first|refine hD ?_|(with_reducible apply bR (c:=true));rfl;rfl;(exact b5 (by omega)));(with_reducible apply dC));refine og 49 hg rfl rfl rfl rfl rfl rfl rfl rfl WO aG (Ha Hu.up aG.up (by decide) (by decide)) (fun IF HT dG => ?_);rw[Hb Hu.up aG.up dG.up (by decide) (by decide)];(refine oB ?_)
 ((refine bk rfl (aY rfl aM) ?_))
 exact ag.aU.refl _
theorem aaV{A B:List (List cj)}(h:¬q0 A B>0):A.length+B.length+(bP A+bP B)≤14∧bP A+bP B≤8:=by
 unfold q0 at h
 by_cases ak:A.length+B.length+(bP A+bP B)≤14∧bP A+bP B≤8
 ·exact ak
 ·rw[if_neg ak] at h;omega
theorem G0{A B:List (List cj)}(h:A.length+B.length+(bP A+bP B)≤14):∀r∈A++B,r.length≤900000:=fun r q=>by
 rcases kf.1 q with q|q <;> (obtain⟨i,hi⟩:=kF q;have:=Vz hi;omega)
theorem X9{aR:List (Nat×List AC)}{x:AC}(h:x.aW=true):x8 aR x=true:=by
 cases x with
 | c v=>rfl
 | own k o=>cases h
 | p R=>rfl
theorem SS{az:List (Nat×ag)}{j k:Nat}{fA r2:List AC}(h:(az.all fun p=>NW [(j,fA),(k,r2)] p.2)=true)(h1:fA.all AC.aW=true)(h2:r2.all AC.aW=true):okB az [(j,fA),(k,r2)]=true:=by
 have key:∀l:List AC,l.all AC.aW=true→l.all (x8 [(j,fA),(k,r2)])=true:=fun l al=>bZ.2 fun x ab=>X9 (bZ.1 al x ab);unfold okB;rw[h,jI,jI,na,key fA h1,key r2 h2];rfl
section
variable{A B:List (List cj)}{op fill rung cap:Int}
end
def nQ(p:Int):Int:=if 500<(if -3>p then -3 else p) then 500 else(if -3>p then -3 else p)
def hT:List Int→Int
 | []=>0
 | x::l=>x+hT l
theorem drop1{r:bE}:(fun j=>if j=0 then none else bp 0 r j)=dP:=by
 funext j
 by_cases h:j=0
 ·rw[if_pos h];rfl
 ·rw[if_neg h];exact bL _ _ h
theorem alB(l m:List Int):hT (l++m)=hT l+hT m:=by
 induction l with
 | nil=>show hT m=0+hT m;omega
 | cons x l cf=>show x+hT (l++m)=x+hT l+hT m;omega
theorem Vx{l:List Int}{i:Nat}{x:Int}(h:l[i]?=some x):hT (l.take (i+1))=hT (l.take i)+x:=by
 rw[jL (bq.1 h).1,(bq.1 h).2,alB];show _+(x+0)=_;omega
section
variable{E:List (Int×bN)}{rm:Nat}
theorem Vn:∀(bs:List Int) (l:dD),(∀b∈bs,b≤500)→(0≤hT (ec E rm bs l).1∧hT (ec E rm bs l).1≤500*(bs.length:Int))∧(∀(i:Nat) g p,(ec E rm bs l).1[i]?=some g→bs[i]?=some p→0≤g∧g≤(if 0>p then 0 else p))∧cN E rm (hT (ec E rm bs l).1).toNat l=((hT (ec E rm bs l).1).toNat,(ec E rm bs l).2)
 | [],l,_=>⟨⟨mx _,mx _⟩,fun i g p h=>(by cases h),rfl⟩
 | b::bs,l,aa=>by
  obtain⟨⟨aE,h1⟩,h2,ar⟩:=Vn bs (cN E rm b.toNat l).2 fun x ab=>aa x (kH _ ab);have PZ:=aa b (hc ..);have hle:=L0 (E:=E) (rm:=rm) b.toNat l;have aH:(ec E rm (b::bs) l).1=((cN E rm b.toNat l).1:Int)::(ec E rm bs (cN E rm b.toNat l).2).1:=rfl;have aN:(ec E rm (b::bs) l).2=(ec E rm bs (cN E rm b.toNat l).2).2:=rfl;rw[aH,aN];have b6:hT (((cN E rm b.toNat l).1:Int)::(ec E rm bs (cN E rm b.toNat l).2).1)=((cN E rm b.toNat l).1:Int)+hT (ec E rm bs (cN E rm b.toNat l).2).1:=rfl;rw[b6];refine⟨⟨by omega,by rw[hb];omega⟩,fun i g p au hp => ?_,?_⟩
  ·match i with
   | 0=>cases au;cases hp;split <;> omega
   | i+1=>exact h2 i g p au hp
  ·generalize hT (ec E rm bs (cN E rm b.toNat l).2).1=S at *;rw[show ((((cN E rm b.toNat l).1:Nat):Int)+S).toNat=(cN E rm b.toNat l).1+S.toNat by omega,UQ,UT,ar]
theorem alk{S:Int}{l X:dD}(aE:0≤S)(h:cN E rm S.toNat l=(S.toNat,X)):ec E rm [S,0] l=([S,0],X):=by
 show (((cN E rm S.toNat l).1:Int)::((cN E rm (0:Int).toNat (cN E rm S.toNat l).2).1:Int)::[],(cN E rm (0:Int).toNat (cN E rm S.toNat l).2).2)=_;rw[h];show (((S.toNat:Nat):Int)::((0:Nat):Int)::[],X)=_;rw[show ((S.toNat:Nat):Int)=S by omega];rfl
end
def Xy(J:List AC)(ps:List Int)(n:Nat)(R:aF)(az:List (Nat×ag))(aR:List (Nat×List AC)):Prop :=
 ∃(i:Nat) (ii:Int) (v:Value),i≤ps.length∧n=ps.length-i∧ii=i∧R=bp 0 ⟨3,1,v,i,cw ((ps.take i).map nQ)⟩∧az=[(2,.w (.one (.own 2 0))),(5,aQ v),(31,iI ps),(32,aL ps.length),(33,aL ii)]∧aR=[(2,J)]
theorem alC{got sm:List Int}(au:∀(i:Nat) (g p:Int),got[i]?=some g→sm[i]?=some p→0≤g∧g≤if 0>p then 0 else p)(h:got.length=sm.length∧sm.length≤30∧∀b∈sm,b≤500)(j:Nat):0≤hT (got.take j)∧hT (got.take j)≤500*30:=by
 have key:∀j,j≤got.length→0≤hT (got.take j)∧hT (got.take j)≤500*(j:Int):=by
  intro j
  induction j with
  | zero=>intro _;exact⟨mx _,mx _⟩
  | succ j cf =>
   intro af;obtain⟨a,b⟩:=cf (by omega);obtain⟨g,g2⟩:∃g,got[j]?=some g:=⟨_,bB (by omega)⟩;obtain⟨p,g1⟩:∃p,sm[j]?=some p:=⟨_,bB (by omega)⟩;have ar:=au j g p g2 g1;have aK:=h.2.2 p (cM g1);rw[Vx g2]
   split at ar <;> omega
 rcases Nat.le_total j got.length with q|q
 ·have:=key j q;have:=h.2.1;omega
 ·have:=key got.length (cE _);rw[fL q];rw[uf] at this;have:=h.2.1;omega
def Xz(fA r2:List AC)(R0:aF)(sm got:List Int)(n:Nat)(R:aF)(az:List (Nat×ag))(aR:List (Nat×List AC)):Prop :=
 ∃(i:Nat) (ii s:Int),i≤sm.length∧n=sm.length-i∧ii=i∧s=hT (got.take i)∧R=R0∧az=[(8,.w (.one (.own 46 0))),(10,.w (.one (.own 51 0))),(12,iI got),(13,aL s),(76,iI sm),(77,aL sm.length),(78,aL ii)]∧aR=[(46,fA),(51,r2)]
section
variable{A B:List (List cj)}{op fill rung cap:Int}{ps:List Int}
theorem afO(aa:A.length+B.length+bP A+bP B≤1048576):aO ah 9 [.w (.agg (hL A B op fill rung cap)),iI ps] (bl true):=by
 have eV:=ah3;have a7:=ahG (op:=op) (fill:=fill) (rung:=rung) (cap:=cap) aa
 by_cases aw:q0 A B>0
 case pos =>
  generalize q0 A B=I9 at *;refine bo (f:=9) Tryz.func9 rfl rfl rfl rfl ?_;(repeat first|refine dc ?_|refine fw ?_|(with_reducible apply bR (c:=true));rfl;rfl;(exact b5 (by omega)))
  ((refine bk rfl (aY rfl aM) ?_))
  exact ag.aU.refl _
 obtain⟨hs,n7⟩:=aaV aw;have bK:=aiT (op:=op) (fill:=fill) (rung:=rung) (cap:=cap) (A:=A) (B:=B) (by omega) (fun r q=>by have:=G0 hs r (sI _ q);omega) (by omega) (fun r q=>by have:=G0 hs r (xp _ q);omega)
 by_cases ak:kq A B op fill rung cap=0
 case neg =>
  generalize q0 A B=I9 at *;generalize kq A B op fill rung cap=cv at *;refine bo (f:=9) Tryz.func9 rfl rfl rfl rfl ?_;(repeat first|refine dc ?_|refine fw ?_|(with_reducible apply bR (c:=true));rfl;rfl;((simp only[qT];(omega)))|(with_reducible apply bR (c:=false));rfl;rfl;(exact cc (by omega)))
  ((refine bk rfl (aY rfl aM) ?_))
  exact ag.aU.refl _
 by_cases al:(ps.length:Int)>30
 case pos =>
  rw[ak] at bK;generalize q0 A B=I9 at *;refine bo (f:=9) Tryz.func9 rfl rfl rfl rfl ?_;(repeat first|refine dc ?_|refine fw ?_|(with_reducible apply bR (c:=false));rfl;rfl;(exact cc (by omega)))
  ((refine bk rfl (aY rfl aM) ?_))
  exact ag.aU.refl _
 have Qa:=DD.fit ak;obtain⟨_,_,_,_,_,_,b1,_⟩:=amb ak;have Aa:=KI (op:=op) (fill:=fill) (A:=A) (B:=B) (by omega) (by omega) (G0 hs) ak 46 qe;have HL:=KI (op:=op) (fill:=fill) (A:=A) (B:=B) (by omega) (by omega) (G0 hs) ak 51 zw;have i0:=y5 (k:=rung.toNat) Qa
 have FD:∀b∈ps.map nQ,b≤500:=fun b aa=>by
  obtain⟨p,_,rfl⟩:=fE.1 aa;unfold nQ;(repeat' split) <;> omega
 obtain⟨⟨eA,s1⟩,au,fe⟩:=Vn (E:=cJ A B) (rm:=cap.toNat) (ps.map nQ) (ft (cJ A B) cap.toNat rung.toNat) FD;have ada:=Mj (E:=cJ A B) (rm:=cap.toNat) (ps.map nQ) (ft (cJ A B) cap.toNat rung.toNat);have hi:=C2 (ps.map nQ) i0 b1;have jU:=KJ i0 b1 (bs:=ps.map nQ) (by rw[iD];omega) (fun b aa=>by have:=FD b aa;omega);have fH:=(GQ (E:=cJ A B) (rm:=cap.toNat) (hT (ec (cJ A B) cap.toNat (ps.map nQ) (ft (cJ A B) cap.toNat rung.toNat)).1).toNat (ft (cJ A B) cap.toNat rung.toNat)).1;rw[fe] at fH;rw[iD] at s1 ada
 have l9:=KJ i0 b1 (bs:=[hT (ec (cJ A B) cap.toNat (ps.map nQ) (ft (cJ A B) cap.toNat rung.toNat)).1,0]) (by rw[hb,List.length_singleton];decide) (fun b aa=>by
  rcases fg.1 aa with rfl|aa
  ·omega
  ·rw[jJ.1 aa];decide)
 rw[alk eA fe] at l9
 have fH:(((ec (cJ A B) cap.toNat (ps.map nQ) (ft (cJ A B) cap.toNat rung.toNat)).2.st:Nat):Int)=hT (ec (cJ A B) cap.toNat (ps.map nQ) (ft (cJ A B) cap.toNat rung.toNat)).1:=by
  have e:(ft (cJ A B) cap.toNat rung.toNat).st=0:=rfl;rw[e] at fH;rw[fH];show ((0+(hT _).toNat:Nat):Int)=_;omega
 clear fe b1 hs n7;rw[ak] at bK;generalize lS:ps.map nQ=sm at *;generalize (ec (cJ A B) cap.toNat sm (ft (cJ A B) cap.toNat rung.toNat)).1=got at *;generalize (ec (cJ A B) cap.toNat sm (ft (cJ A B) cap.toNat rung.toNat)).2=qL at *;obtain⟨i1,b2⟩:=hi;have jU:=jU.oD 46 (bS:=eE) qe rfl rfl;have l9:=l9.oD 51 (bS:=hg) zw rfl rfl
 dsimp only at l9
 have qQ:=(KK i1).oD 46 (bS:=eE) qe rfl rfl;have s8:=(KK i1).oD 51 (bS:=hg) zw rfl rfl;have kP:=(KL (E:=cJ A B) (rm:=cap.toNat) (l:=qL)).oD 46 (bS:=eE) qe rfl rfl;have jV:=(KL (E:=cJ A B) (rm:=cap.toNat) (l:=qL)).oD 51 (bS:=hg) zw rfl rfl;rw[fH] at kP jV;have lQ:=i1.fit.st i1.inv;have xY:=ahY (k:=(qL.k:Int)) (rm:=(cap.toNat:Int)) (ph:=(qL.s.ph:Int)) (I:=(qL.s.I:Int)) (J:=(qL.s.J:Int)) (T:=(qL.s.T:Int)) (dirty:=qL.s.dirty) (hot:=qL.s.hot) (fnd:=qL.s.fnd) (ch:=qL.s.ch) (by omega) (by omega) lQ.2.2;have xT:=oN (j:=0) (i:=0) (l:=[hT got,0]) rfl rfl;have jt:=oN (j:=1) (i:=1) (l:=[hT got,0]) rfl rfl;generalize ft (cJ A B) cap.toNat rung.toNat=Xl at *;generalize q0 A B=I9 at *;clear lQ i0 i1 b2 fH Qa;refine bo (f:=9) Tryz.func9 rfl rfl rfl rfl ?_;refine td ?_;(repeat first|refine b9 ?_|(with_reducible apply eT);rfl;(repeat first|refine hD ?_|refine fw ?_|(with_reducible apply bR (c:=false));rfl;rfl;(exact cc (by omega)));(with_reducible apply dC));refine nO 0 3 1 rfl ?_
 skip
 have QR:sm.length=ps.length:=by rw[←lS,iD]
 have nA:ps.length≤30:=by omega
 refine iH 141 (Xy (hL A B op fill rung cap) ps) ps.length (bp 0 ⟨3,1,iQ,0,[]⟩) _ [(2,hL A B op fill rung cap)] ⟨0,0,iQ,dk _,rfl,rfl,rfl,rfl,rfl⟩ (kj _ _ _) rfl ⟨rfl,rfl,rfl,rfl,rfl,trivial⟩ ⟨rfl,trivial⟩ rfl ?_;rintro n R az aR ⟨i,ii,v,hi,rfl,ee,rfl,rfl,rfl⟩ bz;clear bz
 by_cases aj:i<ps.length
 case pos =>
  have q2:ii<(ps.length:Int):=by omega
  have q3:0≤ii:=by omega
  obtain⟨p,g1⟩:∃p,ps[i]?=some p:=⟨_,bB aj⟩;have gQ:=oN ee g1
  have b6:cw ((ps.take (i+1)).map nQ)=cw ((ps.take i).map nQ)++[.c (.int .i64 (nQ p))]:=by
   rw[jL aj,(bq.1 g1).2,rs];simp[cw]
  clear Aa HL jU l9 qQ s8 kP jV xY xT jt;(refine aT ?_);refine mm 0 rfl rfl rfl rfl ?q1 ?q2 rfl rfl (fun v1 jj => ?_)
  case q1=>exact iP (by show i+1≤1000000;omega)
  case q2=>show (i+1)*8≤140737488355328;omega
  (refine aT ?_);refine⟨ps.length-(i+1),bp 0 ⟨3,1,v1,i+1,cw ((ps.take (i+1)).map nQ)⟩,_,[(2,hL A B op fill rung cap)],by omega,⟨i+1,ii+1,v1,aj,rfl,by omega,rfl,rfl,rfl⟩,?_,rfl,⟨rfl,rfl,rfl,rfl,rfl,trivial⟩,⟨rfl,trivial⟩,rfl⟩;rw[b6];exact kj _ _ _
 have q2:¬ii<(ps.length:Int):=by omega
 have cr:i=ps.length:=by omega
 subst cr;rw[uf,lS,←QR];rw[←QR] at ee q2;refine xC 0 5 ⟨3,1,v,sm.length,cw sm⟩ rfl rfl ?_;rw[drop1];(refine aT ?_);refine FC 46 eE rfl rfl rfl rfl Aa rfl rfl rfl rfl (fun cs Ae aP => ?_);rw[Lq];(refine aT ?_);refine FC 51 hg rfl rfl rfl rfl HL rfl rfl rfl rfl (fun ds lH aG => ?_);rw[show bQ (aF.bg hg lH) (aF.bg eE Ae)=two Ae lH from VQ aP.up aG.up (by decide) (by decide)];(refine aT ?_);have Fh:(got.length:Int)=(sm.length:Int):=by omega
 have ac9:got.length=sm.length∧sm.length≤30∧∀b∈sm,b≤500:=⟨by omega,by omega,FD⟩;refine og 46 eE rfl rfl rfl rfl rfl rfl rfl rfl jU aP vM (fun Er s5 dO => ?_);rw[show bQ (aF.bg eE s5) (two Ae lH)=two s5 lH from vN aP.up dO.up];(refine aT ?_);refine iH 141 (Xz Er ds (two s5 lH) sm got) sm.length (two s5 lH) _ [(46,Er),(51,ds)] ⟨0,0,0,dk _,rfl,rfl,rfl,rfl,rfl,rfl⟩ (bc.refl _) rfl ⟨rfl,rfl,rfl,rfl,rfl,rfl,rfl,trivial⟩ ⟨rfl,rfl,trivial⟩ ?_ ?_
 ·exact SS rfl dO.closed aG.closed
 clear jU Aa HL aP a7 bK;rintro n R az aR ⟨j,de,xJ,af,rfl,jy,FE,rfl,rfl,rfl⟩ bz;clear bz
 by_cases hp:j<sm.length
 case pos =>
  have p2:de<(sm.length:Int):=by omega
  have p3:0≤de:=by omega
  have p4:de<(got.length:Int):=by omega
  obtain⟨p,g1⟩:∃p,sm[j]?=some p:=⟨_,bB hp⟩;obtain⟨g,g2⟩:∃g,got[j]?=some g:=⟨_,bB (by omega)⟩;have gQ:=oN jy g1;have uA:=oN jy g2;obtain⟨g3,g4⟩:=au j g p g2 g1;have g5:¬g>(if 0>p then 0 else p):=by omega
  have g6:¬g<0:=by omega
  have g7:0≤g∧g≤500:=by
   have:=FD p (cM g1)
   split at g4 <;> omega
  have FA:=Vx g2;rw[←FE] at FA;have lO:0≤xJ∧xJ≤500*30:=by rw[FE];exact alC au ac9 j
  clear l9 qQ s8 kP jV xY xT jt;(repeat first|refine b9 ?_|(with_reducible apply eT);rfl;(repeat first|refine hD ?_|(with_reducible apply bR (c:=false));rfl;rfl;(exact cc (by omega)));(with_reducible apply dC));exact⟨sm.length-(j+1),_,_,[(46,Er),(51,ds)],by omega,⟨j+1,de+1,xJ+g,hp,rfl,by omega,FA.symm,rfl,rfl,rfl⟩,bc.refl _,rfl,⟨rfl,rfl,rfl,rfl,rfl,rfl,rfl,trivial⟩,⟨rfl,rfl,trivial⟩,SS rfl dO.closed aG.closed⟩
 have p2:¬de<(sm.length:Int):=by omega
 have eb:got.take j=got:=fL (by omega);rw[eb] at FE;rw[←FE] at l9 kP jV xT;have z0:decide (xJ=xJ)=true:=b5 rfl;have jq:(0:Int)<(([xJ,0]:List Int).length:Int):=by show (0:Int)<((2:Nat):Int);decide
 have z2:(1:Int)<(([xJ,0]:List Int).length:Int):=by show (1:Int)<((2:Nat):Int);decide
 (refine aT ?_);refine og 51 hg rfl rfl rfl rfl rfl rfl rfl rfl l9 aG (Ha dO.up aG.up (by decide) (by decide)) (fun IF HT dG => ?_);rw[Hb dO.up aG.up dG.up (by decide) (by decide)];(repeat first|refine b9 ?_|(with_reducible apply eT);rfl;(repeat first|refine hD ?_|refine fw ?_|(with_reducible apply bR (c:=true));rfl;rfl;(first|assumption|exact b5 (by omega)));(with_reducible apply dC));refine og 46 eE rfl rfl rfl rfl rfl rfl rfl rfl qQ dO vM (fun Z2 we jr => ?_);rw[show bQ (aF.bg eE we) (two s5 HT)=two we HT from vN dO.up jr.up];(repeat first|refine b9 ?_|(with_reducible apply eT);rfl;(repeat first|refine hD ?_|(with_reducible apply bR (c:=true));rfl;rfl;(exact b5 (by omega)));(with_reducible apply dC));refine og 51 hg rfl rfl rfl rfl rfl rfl rfl rfl s8 dG (Ha jr.up dG.up (by decide) (by decide)) (fun amZ Nh l5 => ?_);rw[Hb jr.up dG.up l5.up (by decide) (by decide)];(refine oB ?_);refine og 46 eE rfl rfl rfl rfl rfl rfl rfl rfl kP jr vM (fun Z3 uF jR => ?_);rw[show bQ (aF.bg eE uF) (two we Nh)=two uF Nh from vN jr.up jR.up];(repeat first|refine b9 ?_|(with_reducible apply eT);rfl;(repeat first|refine hD ?_|(with_reducible apply bR (c:=true));rfl;rfl;(assumption));(with_reducible apply dC));refine og 51 hg rfl rfl rfl rfl rfl rfl rfl rfl jV l5 (Ha jR.up l5.up (by decide) (by decide)) (fun am0 amq Wt => ?_);rw[Hb jR.up l5.up Wt.up (by decide) (by decide)];(refine aT ?_)
 ((refine bk rfl (aY rfl aM) ?_))
 rw[z0];exact ag.aU.refl _
end
theorem ai4(A B:List (List cj))(op fill rung cap:Int)(ps:List Int)(h:A.length+B.length+bP A+bP B≤1048576)(_:(ps.length:Int)≤9223372036854775807):aO ah 9 [.w (.agg (hL A B op fill rung cap)),iI ps] (bl true):=afO h
end Go.Proofs.YtklpfooafbjnpaaGreat
