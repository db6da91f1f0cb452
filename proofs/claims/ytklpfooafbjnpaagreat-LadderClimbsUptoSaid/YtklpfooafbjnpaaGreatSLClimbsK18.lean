/-
  My own texts,without what this claim does not need. My own text.
-/
import Derived.Test.YtklpfooafbjnpaaGreatSLClimbsK17
set_option maxRecDepth 100000
set_option maxHeartbeats 64000000
set_option linter.unusedVariables false
set_option linter.unusedSimpArgs false
set_option linter.unusedSectionVars false
open Go.Proofs.Tryz renaming prog → ah
namespace Go.Proofs.YtklpfooafbjnpaaGreat
open Go.RowKit
open bB
section
variable{E:List (Int×bK)}{k rm ph I J T rr:Int}{dirty:Bool}{hot fnd L:List aq}{ch:List (List aq×List Int)}{b:Nat}
theorem afv(al:L.length≤1100)(x y:Int){S:dS}(hS:iC rr L (bJ b) S)(g e:Nat):b3 ah 260 [bm x y,.w (.one (.p (n5 [.c (bJ g)])))] bu (ix b S g e (ft E k rm ph I J T dirty hot fnd ch b)) fun br aG ao=>aG=bu∧∃S' e',br=bl (!qn L x y)∧iC rr L (bJ b) S'∧ao=ix b S' g e' (ft E k rm ph I J T dirty hot fnd ch b):=by
 have eV:=UW (cs:=ft E k rm ph I J T dirty hot fnd ch b) rfl rfl rfl (gJ _) (aft al x y) hS g e;obtain⟨v,hv⟩:∃v,v=decide (0≤hB L x y):=⟨_,rfl⟩;rw[show qn L x y=v from hv.symm];rw[←hv] at eV
 have aZ:b3 ah 257 [aR (bJ g),bm x y] bu (ix b S g e (ft E k rm ph I J T dirty hot fnd ch b)) fun br aG ao=>aG=bu∧∃S' e',br=bl v∧iC rr L (bJ b) S'∧ao=ix b S' g e' (ft E k rm ph I J T dirty hot fnd ch b) :=
  eV.imp (by rintro br aG ao ⟨S',e',⟨h1,h2⟩,ar,aJ⟩;exact⟨ar,S',e',h1,h2,aJ⟩)
 refine cC (f:=260) Tryz.func260 rfl (b8 rfl) (by exact ib) ?_;(refine aQ ?_);refine nc rfl rfl rfl rfl aZ (a8.refl _) rfl rfl ?_;rintro _ ao ⟨S',e',rfl,ep,rfl⟩;rw[zv];(refine aQ ?_)
 ((refine nH rfl (bb rfl aM) (a8.refl _) rfl xF ?_))
 exact⟨rfl,S',e',rfl,ep,rfl⟩
abbrev MA(g:Nat):ag := .w (.one (.p (l9 (.func 260) [.p (n5 [.c (bJ g)])])))
def tp(L:List aq):List aq→Int→Int
 | [],_ => -1
 | q::l,i=>if (!qn L q.1 q.2)=true then i else tp L l (i+1)
theorem Pv(L:List aq):∀(l:List aq) (i:Int),0≤i→decide (tp L l i≥0)=l.any (fun q => !qn L q.1 q.2)
 | [],i,_=>rfl
 | q::l,i,h=>by
  have cg:=Pv L l (i+1) (by omega);rw[List.any_cons];show decide ((if (!qn L q.1 q.2)=true then i else tp L l (i+1))≥0)=_;cases hp:(!qn L q.1 q.2) with
  | true=>rw[if_pos rfl,Bool.true_or];exact cd h
  | false=>rw[if_neg (by decide),Bool.false_or];exact cg
def W3(L V:List aq)(rr:Int)(b g:Nat)(cs:List AC)(n:Nat)(R:aC)(az:List (Nat×ag))(aS:List (Nat×List AC)):Prop :=
 ∃(i:Nat) (ii:Int) (S:dS) (e:Nat),i≤V.length∧n=V.length-i∧ii=i∧tp L V 0=tp L (V.drop i) ii∧iC rr L (bJ b) S∧R=ix b S g e cs∧az=[(0,gD V),(1,MA g),(7,aL V.length),(8,aL ii)]∧aS=[]
theorem afr(al:L.length≤1100){V:List aq}(mT:V.length≤1100){S:dS}(hS:iC rr L (bJ b) S)(g e:Nat):b3 ah 301 [gD V,MA g] bu (ix b S g e (ft E k rm ph I J T dirty hot fnd ch b)) fun br aG ao=>aG=bu∧∃S' e',br=aL (tp L V 0)∧iC rr L (bJ b) S'∧ao=ix b S' g e' (ft E k rm ph I J T dirty hot fnd ch b):=by
 refine cC (f:=301) Tryz.func301 rfl (b8 rfl) (by exact ib) ?_;(refine aQ ?_);refine iy 19 (W3 L V rr b g (ft E k rm ph I J T dirty hot fnd ch b)) V.length (ix b S g e (ft E k rm ph I J T dirty hot fnd ch b)) _ [] ⟨0,0,S,e,du _,rfl,rfl,rfl,hS,rfl,rfl,rfl⟩ (a8.refl _) rfl ⟨rfl,rfl,rfl,rfl,trivial⟩ trivial rfl ?_;clear hS;rintro n R az aS ⟨j,dl,kq,aI,af,rfl,kz,gN,hS,rfl,rfl,rfl⟩ bC;clear bC
 by_cases hp:j<V.length
 ·have p2:dl<(V.length:Int):=by omega
  have p3:0≤dl:=by omega
  obtain⟨x,y,g1⟩:∃x y,V[j]?=some (x,y):=⟨_,_,bF hp⟩;have hL:=qo kz g1;have hd:V.drop j=(x,y)::V.drop (j+1):=by rw[jU hp,(bt.1 g1).2]
  have aZ:=afv (E:=E) (k:=k) (rm:=rm) (ph:=ph) (I:=I) (J:=J) (T:=T) (dirty:=dirty) (hot:=hot) (fnd:=fnd) (ch:=ch) al x y hS g aI;rw[hd,show tp L ((x,y)::V.drop (j+1)) dl=if (!qn L x y)=true then dl else tp L (V.drop (j+1)) (dl+1) from rfl] at gN;cases ay:(!qn L x y) with
  | true =>
   rw[ay] at gN aZ;rw[if_pos rfl] at gN;rw[gN];(refine aQ ?_);refine QR rfl rfl rfl rfl aZ (a8.refl _) rfl rfl ?_;rintro _ ao ⟨S',e',rfl,ep,rfl⟩;rw[zv];(refine aQ ?_)
   ((refine nH rfl (bb rfl aM) (a8.refl _) rfl xF ?_))
   exact⟨rfl,S',e',rfl,ep,rfl⟩
  | false =>
   rw[ay] at gN aZ;rw[if_neg (by decide)] at gN;(refine aQ ?_);refine QR rfl rfl rfl rfl aZ (a8.refl _) rfl rfl ?_;rintro _ ao ⟨S',e',rfl,ep,rfl⟩;rw[zv];(refine aQ ?_);exact⟨V.length-(j+1),_,_,[],by omega,⟨j+1,dl+1,S',e',hp,rfl,by omega,gN,ep,rfl,rfl,rfl⟩,a8.refl _,rfl,⟨rfl,rfl,rfl,rfl,trivial⟩,trivial,rfl⟩
 ·have lV:j=V.length:=by omega
  subst lV;rw[List.drop_length] at gN;rw[show tp L [] dl = -1 from rfl] at gN;rw[gN];(refine aQ ?_)
  ((refine nH rfl (bb rfl aM) (a8.refl _) rfl xF ?_))
  exact⟨rfl,kq,aI,rfl,hS,rfl⟩
theorem afm(al:L.length≤1100){V:List aq}(mT:V.length≤1100){S:dS}(hS:iC rr L (bJ b) S)(g e:Nat):b3 ah 259 [gD V,MA g] bu (ix b S g e (ft E k rm ph I J T dirty hot fnd ch b)) fun br aG ao=>aG=bu∧∃S' e',br=bl (V.any fun q => !qn L q.1 q.2)∧iC rr L (bJ b) S'∧ao=ix b S' g e' (ft E k rm ph I J T dirty hot fnd ch b):=by
 have aZ:=afr (E:=E) (k:=k) (rm:=rm) (ph:=ph) (I:=I) (J:=J) (T:=T) (dirty:=dirty) (hot:=hot) (fnd:=fnd) (ch:=ch) al mT hS g e;rw[←Pv L V 0 (by decide)];refine cC (f:=259) Tryz.func259 rfl (b8 rfl) (by exact ib) ?_;(refine aQ ?_);refine nc rfl rfl rfl rfl aZ (a8.refl _) rfl rfl ?_;rintro _ ao ⟨S',e',rfl,ep,rfl⟩;rw[zv];(refine aQ ?_)
 ((refine nH rfl (bb rfl aM) (a8.refl _) rfl xF ?_))
 exact⟨rfl,S',e',rfl,ep,rfl⟩
end
section
variable{E:List (Int×bK)}{k rm ph I J T rr:Int}{dirty:Bool}{hot fnd L:List aq}{ch:List (List aq×List Int)}{b:Nat}
theorem agx{f:FuncId}{args:List ag}{cs:List AC}{v:ag}(tJ:v.aV=true)(dc:args.all ag.aV=true)(dp:cs.all AC.aV=true)(cq:0<cs.length)(hp:rU f args cs v cs)(g e:Nat):b3 ah f (aR (bJ g)::args) bu (upd dq 9 (ey g e cs)) fun br aG ao=>aG=bu∧∃e',br=v∧ao=upd dq 9 (ey g e' cs):=by
 have h:=b3.Hc 9 g e hp dc dp cq rfl (fun br aG ao aj=>by
  obtain⟨ds,rfl,rfl,rfl,rfl⟩:=aj;exact⟨tJ,rfl,_,rfl,dp,cq⟩)
 refine⟨fun U ad W vs ca c9 cJ=>(h.call U ad W vs ca c9 cJ).mono ?_⟩;rintro cB W' ⟨v1,cn,aG,ao,aU,ck,dt,⟨au,R1,e',⟨gg,he,rfl,rfl,rfl⟩,rfl,rfl⟩,jc⟩;obtain rfl:=K1 he;exact⟨_,cn,bu,_,aU,ck,dt,⟨rfl,e',rfl,rfl⟩,jc⟩
theorem ahv{b:Nat}{S:dS}{g e e':Nat}{cs:List AC}:bG (upd dq 9 (ey g e' cs)) (ix b S g e cs)=ix b S g e' cs:=by
 funext i
 by_cases h:i=9
 ·subst h;rw[fH (bZ _ _ _)];exact(bZ _ _ _).symm
 ·rw[gA (show upd dq 9 (ey g e' cs) i=none from bP _ _ h)];unfold ix;rw[bP _ _ h,bP _ _ h]
theorem afY{b:Nat}{S:dS}{g e:Nat}{cs:List AC}:a8 (upd dq 9 (ey g e cs)) (ix b S g e cs):=fun i r h=>by
 by_cases EB:i=9
 ·subst EB;exact h
 ·rw[bP _ _ EB] at h;cases h
structure M5 (r:Nat) (L:List aq) (e:Int×bK) (c:List aq×List Int):Prop where
 sA:c.1.length≤1100
 KS:c.2.length≤1100
 Rd:∀v∈c.1,DG v
 OQ:∀d∈c.2,0≤d∧d≤9223372036854775807
 rt:xC r c.1 c.2=true
 first:c.1[0]?=some (bV e.2.1.1 r,bV e.2.1.2 r)
 last:c.1[c.1.length-1]?=some (bV e.2.2.1 r,bV e.2.2.2 r)
 deep:mP c.2≤(c.2.length:Int)
 hot:(c.1.any fun q => !qn L q.1 q.2)=false
def Xn(E:List (Int×bK))(k rm ph I J T:Int)(dirty:Bool)(hot fnd:List aq)(ch:List (List aq×List Int))(b:Nat)(rr:Int)(L:List aq)(g:Nat)(n:Nat)(R:aC)(az:List (Nat×ag))(aS:List (Nat×List AC)):Prop :=
 ∃(i:Nat) (ii:Int) (S:dS) (e:Nat),i≤ch.length∧n=ch.length-i∧ii=i∧iC rr L (bJ b) S∧R=ix b S g e (ft E k rm ph I J T dirty hot fnd ch b)∧az=[(1,.w (.one (.p (n5 [.c (bJ g)])))),(3,aR (oC g 1)),(25,Dg ch),(26,aL ch.length),(27,aL ii)]∧aS=[]
theorem aff(wo:MT)(Am:MS){r:Nat}(ap:r≤28)(ae:k=r)(aA:jD (E.map Prod.snd)=true)(fA:E.length≤1000)(al:L.length≤1100)(hlen:ch.length=E.length)(adj:∀(i:Nat) e c,E[i]?=some e→ch[i]?=some c→M5 r L e c):pX 210 [] (ft E k rm ph I J T dirty hot fnd ch b) rr L b (bl true):=by
 refine UU rfl rfl rfl (gJ _) fun S hS g e => ?_;have anr:(ch.length:Int)=(E.length:Int):=by omega
 refine va (f:=210) Tryz.func210 rfl (b8 rfl) (by exact ib) (xH ?_);refine fz (hc ?_);(refine aQ ?_);refine fk ?_;refine Jb 1 _ rfl rfl ?_;refine hc ?_;(repeat first|(with_reducible apply dv (id:=2) [0,1,2,3,4,5,6,7,8,9,10]);kernel_rfl;kernel_rfl;rfl|refine bQ ?_);refine pz 9 rfl rfl rfl rfl rfl rfl rfl ?_;(refine aQ ?_);refine pz 9 rfl rfl rfl rfl rfl rfl rfl ?_;(refine aQ ?_);refine pz 9 rfl rfl rfl rfl rfl rfl rfl ?_;(refine aQ ?_);refine iy 78 (Xn E k rm ph I J T dirty hot fnd ch b rr L g) ch.length (ix b S g e (ft E k rm ph I J T dirty hot fnd ch b)) _ [] ⟨0,0,S,e,du _,rfl,rfl,hS,rfl,rfl,rfl⟩ (a8.refl _) rfl ⟨rfl,rfl,rfl,rfl,rfl,trivial⟩ trivial rfl ?_;clear hS;rintro n R az aS ⟨i,ii,kq,aI,hi,rfl,ev,hS,rfl,rfl,rfl⟩ bC;clear bC
 by_cases aj:i<ch.length
 ·have q2:ii<(ch.length:Int):=by omega
  have q3:0≤ii:=by omega
  obtain⟨o,p1,p2,c1,c2,g1⟩:∃o p1 p2 c1 c2,E[i]?=some (o,(p1,p2),(c1,c2)):=⟨_,_,_,_,_,bF (by omega)⟩;obtain⟨V,D,g2⟩:∃V D,ch[i]?=some (V,D):=⟨_,_,bF aj⟩;obtain⟨sA,KS,Rd,OQ,rt,fst,aga,deep,aE⟩:=adj i _ _ g1 g2;have ko:=Ep ev g2;simp only at ko
  have Qw:gQ (p1,p2)=true∧gQ (c1,c2)=true:=by
   unfold jD at aA;have:=b4.1 aA ((p1,p2),(c1,c2)) (fV.2 ⟨_,cP g1,rfl⟩);simpa [ef] using this
  have eV:=agx (cs:=ft E k rm ph I J T dirty hot fnd ch b) rfl rfl rfl (gJ _) (afn (E:=E) (k:=k) (rm:=rm) (ph:=ph) (I:=I) (J:=J) (T:=T) (dirty:=dirty) (hot:=hot) (fnd:=fnd) (ch:=ch) (b:=b) ap ae g1 Qw.1 Qw.2) g aI;rw[show ((i:Nat):Int)=ii by omega] at eV;have aZ:=wo V D r ap sA KS Rd OQ;have bM:=Am V D sA KS;rw[rt,←ae] at aZ;have om:0<V.length:=(bt.1 fst).1;have pU:=qo (j:=0) (i:=0) rfl fst;have WZ:=qo (j:=(V.length:Int)-1) (i:=V.length-1) (by omega) aga;have an7:(V.length:Int)≤1100:=by have:V.length≤1100:=sA;omega
  have an6:(0:Int)<(V.length:Int):=by omega
  have amU:¬mP D>(D.length:Int):=by have:mP D≤(D.length:Int):=deep;omega
  generalize mP D=amT at *;generalize bV p1 r=a at *;generalize bV p2 r=a' at *;generalize bV c1 r=c at *;generalize bV c2 r=c' at *;have fq:(!dG a a' a a')=false:=by simp[dG]
  have gI:(!dG c c' c c')=false:=by simp[dG]
  (refine aQ ?_);refine nc rfl rfl rfl rfl eV afY rfl rfl ?_;rintro _ ao ⟨aO,rfl,rfl⟩;rw[ahv];(repeat first|(with_reducible apply dv (id:=8) [0,1,2,3,4,5,6,7,8,9,10,11,12,13,14,15,16,17,18,19,20,21,22,23,24,25,26,27,28,29,30,31,32,33,34]);kernel_rfl;kernel_rfl;rfl|refine bQ ?_);refine pz 9 rfl rfl rfl rfl rfl rfl rfl ?_;(repeat first|refine bQ ?_|(with_reducible apply eH);rfl;(repeat first|refine gW ?_|refine fX ?_|refine D4 (xs:=[_]) (cs:=[_]) rfl rfl rfl rfl ?_|(with_reducible apply bU (c:=false));rfl;rfl;(assumption));(with_reducible apply dC));have eh:=afm (E:=E) (k:=k) (rm:=rm) (ph:=ph) (I:=I) (J:=J) (T:=T) (dirty:=dirty) (hot:=hot) (fnd:=fnd) (ch:=ch) al sA hS g aO;rw[aE] at eh;refine nc rfl rfl rfl rfl eh (a8.refl _) rfl rfl ?_;rintro _ ao ⟨x8,cf,rfl,Bg,rfl⟩;rw[zv];(refine aQ ?_);exact⟨ch.length-(i+1),_,_,[],by omega,⟨i+1,ii+1,x8,cf,aj,rfl,by omega,Bg,rfl,rfl,rfl⟩,a8.refl _,rfl,⟨rfl,rfl,rfl,rfl,rfl,trivial⟩,trivial,rfl⟩
 ·have q2:¬ii<(ch.length:Int):=by omega
  (refine aQ ?_)
  ((refine nH rfl (bb rfl aM) (a8.refl _) rfl xF ?_))
  exact⟨kq,aI,⟨rfl,hS⟩,rfl,rfl⟩
end
def WQ(hv fv cv:Value)(k rm ph I J T:Int)(dirty:Bool)(hot fnd:List aq)(ch:List (List aq×List Int))(n:Nat)(R:aC)(az:List (Nat×ag))(aS:List (Nat×List AC)):Prop :=
 ∃(i:Nat) (ii:Int),i≤ch.length∧n=ch.length-i∧ii=i∧R=mz hv fv cv hot fnd ch∧az=[(1,.w (.one (.own 1 0))),(2,.w (.one (.own 2 0))),(18,aR cv),(19,aL ch.length),(20,aL ii)]∧aS=[(1,l5 k rm ph I J T dirty hv fv cv),(2,l5 0 0 0 0 0 0 false (.slice none 0 0) (.slice none 0 0) (.slice none 0 0))]
theorem ajJ{hv fv cv:Value}{hot fnd:List aq}{ch:List (List aq×List Int)}:upd (mz hv fv cv hot fnd ch) 3 (wD cv ch)=mz hv fv cv hot fnd ch:=by
 funext k
 by_cases hq:k=3
 ·subst hq;rfl
 ·rw[bP _ _ hq]
theorem afl{k rm ph I J T:Int}{dirty:Bool}{hot fnd:List aq}{ch:List (List aq×List Int)}(ba:hot.length≤900000)(ay:fnd.length≤900000)(ak:lp ch) :
  b3 ah 83 [V1 k rm ph I J T dirty hot fnd ch] bu dq fun br aG ao=>aG=bu∧∃hv fv cv,br = .w (.agg (l5 k rm ph I J T dirty hv fv cv))∧ao=mz hv fv cv hot fnd ch:=by
 have hlen:=ak.1;have dj:=DV ba (tP hot) (by rw[oy,Nat.mul_comm]);have fI:=DV ay (tP fnd) (by rw[oy,Nat.mul_comm]);have lN:=Nx (n:=ch.length) (xs:=eB ch) (by omega) (b4.2 (Ow ch)) (AG ch);refine cC (f:=83) Tryz.func83 rfl (b8 rfl) (by exact ib) ?_;(repeat first|(with_reducible apply fW (id:=1) [0,1,3,4,6,7,2,9,5,8,10,11,12,13,14] [7,10,13]);kernel_rfl;kernel_rfl;rfl|refine bQ ?_);refine FC 1 rfl rfl rfl rfl dj rfl rfl (fun v q h => ?_);obtain⟨bT,rfl,rfl⟩:=h;(refine aQ ?_);refine FC 2 rfl rfl rfl rfl fI rfl rfl (fun v q h => ?_);obtain⟨c8,rfl,rfl⟩:=h
 skip
 refine FC 3 rfl rfl rfl rfl lN rfl rfl (fun v q h => ?_);obtain⟨cY,rfl,rfl⟩:=h;(repeat first|refine bQ ?_|(with_reducible apply oQ 3);(iterate 4 rfl);kernel_rfl;rfl);refine iy 33 (WQ bT c8 cY k rm ph I J T dirty hot fnd ch) ch.length (mz bT c8 cY hot fnd ch) _ [(1,l5 k rm ph I J T dirty bT c8 cY),(2,l5 0 0 0 0 0 0 false (.slice none 0 0) (.slice none 0 0) (.slice none 0 0))] ⟨0,0,du _,rfl,rfl,rfl,rfl,rfl⟩ (a8.refl _) rfl ⟨rfl,rfl,rfl,rfl,rfl,trivial⟩ ⟨rfl,rfl,trivial⟩ rfl ?_;rintro n R az aS ⟨i,ii,hi,rfl,ev,rfl,rfl,rfl⟩ bC;clear bC
 by_cases aj:i<ch.length
 ·obtain⟨V,D,g1⟩:∃V D,ch[i]?=some (V,D):=⟨_,_,bF aj⟩;obtain⟨kx,hO⟩:=ak.2 _ (cP g1);simp only at kx hO;obtain⟨ko,pU⟩:=AF (ii:=ii) ev g1;have aZ:=Rw V D hO (by omega);have q2:ii<(ch.length:Int):=by omega
  have q3:0≤ii:=by omega
  have q4:0<ch.length:=by omega
  have aI:ii.toNat*2=2*i:=by omega
  have BB:ii.toNat*2+2≤(eB ch).length:=by rw[AG];omega
  have cf:eP (eB ch) (ii.toNat*2) [.p (b6 2 V.length (b0 V)),.p (b6 1 D.length (cK D))]=eB ch:=by rw[aI];exact Oy g1
  (repeat first|(with_reducible apply fW (id:=5) [0,1,2,3,4,5,6] [4000000]);kernel_rfl;kernel_rfl;rfl|refine bQ ?_|refine fO ?_|(with_reducible apply kB 3);(iterate 4 rfl);(omega);(assumption);rfl;kernel_rfl;rfl|(with_reducible apply oR 3);(iterate 3 rfl);(assumption);assumption;rfl;kernel_rfl;rfl);refine yR 3 rfl rfl rfl rfl q4 rfl rfl BB rfl ?_;(refine aQ ?_);refine⟨ch.length-(i+1),mz bT c8 cY hot fnd ch,_,[(1,l5 k rm ph I J T dirty bT c8 cY),(2,l5 0 0 0 0 0 0 false (.slice none 0 0) (.slice none 0 0) (.slice none 0 0))],by omega,⟨i+1,ii+1,by omega,rfl,by omega,rfl,rfl,rfl⟩,fun k q ae => ?_,rfl,⟨rfl,rfl,rfl,rfl,rfl,trivial⟩,⟨rfl,rfl,trivial⟩,rfl⟩
  have ei:upd (mz bT c8 cY hot fnd ch) 3 (⟨53,2,cY,ch.length,eP (eB ch) (ii.toNat*2) [.p (b6 2 V.length (b0 V)),.p (b6 1 D.length (cK D))]⟩:bE)=mz bT c8 cY hot fnd ch:=by
   rw[cf];exact ajJ
  exact(congrFun ei k).trans ae
 ·have q2:¬ii<(ch.length:Int):=by omega
  (refine aQ ?_)
  ((refine nH rfl (da rfl rfl rfl aM) (a8.refl _) rfl (fun j q h=>by cases h) ?_))
  exact⟨rfl,bT,c8,cY,rfl,rfl⟩
theorem ajL{b:Nat}{S:dS}{hv fv cv:Value}{hot fnd:List aq}{ch:List (List aq×List Int)}:bG (mz hv fv cv hot fnd ch) (bp 0 (fr (bJ b) S))=ea b S hv fv cv hot fnd ch:=by
 funext i
 match i with
 | 0=>rfl
 | 1=>rfl
 | 2=>rfl
 | 3=>rfl
 | i+4=>rfl
section
variable{E:List (Int×bK)}{r rm:Nat}
def DP(K:Nat)(E:List (Int×bK))(r rm:Nat)(s:bB.bd aq):Prop :=
 b3 ah 28 [pP E,sZ r rm s] bu dq fun br aG ao=>∃cs,br = .cj [.one (.own K 0),.one (.c (.bool true))]∧aG=cz K cs∧dE E r rm s cs ao
theorem ae0{s:bB.bd aq}(ay:gL E r rm)(ba:s.hot.length≤1100)(ve:s.fnd.length≤900000)(ak:lp s.ch)(ar:s.ph≠3)(QX:nZ r rm [] s.hot=true)
  (hp:∀b,pX 82 [] (ft E r rm s.ph s.I s.J s.T s.dirty s.hot s.fnd s.ch b) rm s.hot b (bl true)):DP 33 E r rm s:=by
 have aZ:=Tj (E:=E) (by have:=ay.len;omega);rw[ay.near] at aZ;have bM:=Gu (k:=(r:Int));have g1:(decide ((0:Int)≤(r:Int))&&decide ((r:Int)≤28))=true:=by have:=ay.r;simp;omega
 rw[g1] at bM;have eh:=Tl (E:=E) (by have:=ay.len;omega);have j1:=RC (rm:Int);have pf:=afl (k:=(r:Int)) (rm:=(rm:Int)) (ph:=(s.ph:Int)) (I:=(s.I:Int)) (J:=(s.J:Int)) (T:=(s.T:Int)) (dirty:=s.dirty) (hot:=s.hot) (fnd:=s.fnd) (ch:=s.ch) (by omega) ve ak;have q1:¬(rm:Int)<1:=by have:=ay.pos;omega
 have q2:¬(rm:Int)>1024:=by have:=ay.room;omega
 have q3:¬(s.ph:Int)=3:=by omega
 have EB:qH (rm:Int)=rm:=by have:=ay.pos;have:=ay.room;unfold qH;(repeat split) <;> omega
 have ae:gY (r:Int) r:=⟨ay.r,.inr (.inr rfl)⟩;refine cC (f:=28) Tryz.func28 rfl (b8 rfl) (by exact ib) ?_;(repeat first|(with_reducible apply fW (id:=3) [0,1,2,3,4,5,6,7,8] [31]);kernel_rfl;kernel_rfl;rfl|refine bQ ?_|(with_reducible apply eH);rfl;(repeat first|refine gW ?_|refine fX ?_|(with_reducible apply bU (c:=false));rfl;rfl;(exact cb (by omega)));(with_reducible apply dC));refine Kt 0 rfl rfl rfl rfl j1 rfl rfl (fun p S jK => ?_);obtain⟨b,rfl,hS⟩:=jK;rw[EB] at hS;(refine aQ ?_);have zV:=b3.at 33 (afB (E:=E) (k:=(r:Int)) (rm:=(rm:Int)) (ph:=(s.ph:Int)) (I:=(s.I:Int)) (J:=(s.J:Int)) (T:=(s.T:Int)) (dirty:=s.dirty) (fnd:=s.fnd) (ch:=s.ch) ae ba S hS) rfl rfl (fun br ds ao aj=>by obtain⟨rfl,rfl,_⟩:=aj;exact⟨rfl,rfl⟩);refine ou 33 rfl rfl rfl rfl zV rfl rfl (a8.refl _) rfl rfl rfl ?_;rintro _ _ _ ⟨rfl,rfl,s7,L',Bf,abZ,rfl⟩;obtain rfl:=abZ QX;rw[show bG (bp 0 (fr (bJ b) s7)) (upd dq 0 (fr (bJ b) S))=bp 0 (fr (bJ b) s7) from Cw,QX];(refine aQ ?_);have MR:=b3.at 33 (hp b s7 Bf) rfl rfl (fun br ds ao aj=>by obtain⟨rfl,rfl,_⟩:=aj;exact⟨rfl,rfl⟩);refine ou 33 rfl rfl rfl rfl MR rfl rfl (a8.refl _) rfl rfl rfl ?_;rintro _ _ _ ⟨rfl,rfl,x8,Bg,rfl⟩;rw[Cw];(refine aQ ?_);refine nc rfl rfl rfl rfl pf (fun i r h=>by cases h) rfl rfl ?_;rintro _ ao ⟨hv,fv,cv,rfl,rfl⟩;rw[ajL];(refine aQ ?_)
 ((refine wR 33 rfl (bb rfl (bb rfl aM)) rfl (a8.refl _) rfl rfl ?_))
 exact⟨_,rfl,rfl,hv,fv,cv,b,x8,.c jN,Bg,rfl,fun h=>absurd h ar,rfl,rfl⟩
end
section
variable{P:Program}{f:FuncId}{args:List ag}
theorem b3.agu{k:Nat}(i:Nat){Q:List AC→aC→Prop}(h:b3 P f args bu dq fun v aG ao=>∃cs,v = .cj [.one (.own k 0),.one (.c (.bool true))]∧aG=cz k cs∧Q cs ao)(aj:∀cs ao,Q cs ao→cs.all AC.aV=true∧0<cs.length∧ao i=none) :
  b3 P f args bu dq fun v aG ao=>aG=bu∧∃g e cs R1,Q cs R1∧v = .cj [.one (.c (bJ g)),.one (.c (.bool true))]∧ao=upd R1 i (ey g e cs):=by
 refine⟨fun U ad W vs ca c9 cJ=>(h.call U ad W vs ca c9 cJ).mono ?_⟩;rintro cB W' ⟨v,r,aG,ao,aU,ck,rfl,⟨cs,rfl,rfl,nJ⟩,hN,mZ,hg,bx,cl,cN,cO,aa⟩;obtain⟨c1,c2,jm⟩:=aj _ _ nJ;obtain⟨e,v8⟩:=Ee (aU:=aU) c2 c1 jm hN;obtain⟨xs,rfl,al,ab⟩:=mZ;refine⟨_,.cj [.one (.c (bJ (aU k))),.one (.c (.bool true))],bu,_,aU,ck,rfl,⟨rfl,aU k,e,cs,ao,nJ,rfl,rfl⟩,v8,⟨xs,rfl,al,fun i x v h1 h2 => ?_⟩,fun j af=>absurd af (ag.cU rfl j),fun k cs h=>(by cases h),fun i r h=>(by cases h),cN,fun b cL=>cO b ((se c2 jm rfl).2 cL),aa⟩
 match i,h1 with
 | 0,h1=>cases h1;exact⟨ab 0 _ v rfl h2,rfl⟩
 | 1,h1=>cases h1;exact ab 1 _ v rfl h2
end
section
variable{A B:List (List cc)}{op fill rung cap:Int}{r:Nat}
theorem aeS{s:bB.bd aq}{st:Nat}(cp:A.length≤900000)(cZ:B.length≤900000)(ap:∀r∈A++B,r.length≤900000)(h:jn A B op fill rung cap=0)(hx:(st:Int)≤ir (cu A B).length cap)(ae:rung≤(r:Int))(bO:s.ph≠5)(dn:DP 33 (cu A B) r cap.toNat s):pV 65 cM (cu A B) cap.toNat 54 [.w (.agg (im A B op fill rung cap)),aL st,sZ r cap.toNat s] vA ⟨r,st,s⟩:=by
 obtain⟨⟨a0,a1⟩,⟨iV,b1⟩,c0,c1,wN,PN⟩:=uL h;obtain⟨r4,rfl⟩:∃r4:Nat,cap=r4:=⟨cap.toNat,by omega⟩;rw[kL] at *;have aZ:=Gp (op:=op) (fill:=fill) (rung:=rung) (cap:=(r4:Int)) (A:=A) (B:=B) (by omega) (by omega) (fun r q=>by have:=ap r q;omega);have bM:=Gq (op:=op) (fill:=fill) (rung:=rung) (cap:=(r4:Int)) cp cZ (fun r q=>ap r (rA _ q)) (fun r q=>ap r (vD _ q)) (by rw[oL];omega);have eh:=Th (n:=((cu A B).length:Int)) (rm:=(r4:Int)) (by omega) (by rw[oL];omega) iV b1;have j1:=b3.agu 4 (Q:=fun cs ao=>dE (cu A B) r r4 s cs ao) dn fun cs ao a7=>⟨a7.closed,a7.iq,a7.jO 4 (cF _)⟩;have q1:¬(st:Int)<0:=by omega
 have q2:¬(st:Int)>ir (cu A B).length (r4:Int):=by omega
 have q3:¬(r:Int)<rung:=by omega
 have q4:¬(s.ph:Int)=5:=by omega
 have rz:(!decide ((r4:Int)=(r4:Int)))=false:=by simp
 rw[h] at aZ;generalize ir (cu A B).length (r4:Int)=e3 at *;refine cC (f:=54) Tryz.func54 rfl (b8 rfl) (by exact ib) ?_;(repeat first|refine bQ ?_|(with_reducible apply eH);rfl;(repeat first|refine gW ?_|refine fX ?_|(with_reducible apply bU (c:=false));rfl;rfl;(first|assumption|exact cb (by omega)));(with_reducible apply dC));refine nc rfl rfl rfl rfl j1 (fun i r h=>by cases h) rfl rfl ?_;rintro _ ao ⟨g,e,cs,R1,a7,rfl,rfl⟩;rw[xt];(refine aQ ?_)
 ((refine wR 65 rfl (bb rfl (bb rfl aM)) rfl (a8.refl _) rfl rfl ?_))
 exact⟨_,_,rfl,rfl,rfl,g,e,cs,R1,a7,rfl,rfl⟩
theorem aeR{s:bB.bd aq}{st:Nat}(cp:A.length≤900000)(cZ:B.length≤900000)(ap:∀r∈A++B,r.length≤900000)(h:jn A B op fill rung cap=0)(hx:(st:Int)≤ir (cu A B).length cap)(ae:rung≤(r:Int))(bO:s.ph≠5)(dn:DP 33 (cu A B) r cap.toNat s)(j:Nat){bD:Nat→Nat}(eX:∀j,bD (bD j)=j):pV j bD (cu A B) cap.toNat 54 [.w (.agg (im A B op fill rung cap)),aL st,sZ r cap.toNat s] vA ⟨r,st,s⟩:=(aeS cp cZ ap h hx ae bO dn).tO9 rfl Tc j eX
theorem ahM{s:bB.bd aq}{rm:Nat}(cp:A.length≤900000)(cZ:B.length≤900000)(ap:∀r∈A++B,r.length≤900000)(h:jn A B op fill rung cap=0):aP ah 54 [.w (.agg (im A B op fill rung cap)),aL (-1),sZ r rm s] (.cj [.one (.c (.pointer none)),.one (.c (.int .i64 141))]):=by
 obtain⟨⟨a0,a1⟩,⟨iV,b1⟩,c0,c1,wN,PN⟩:=uL h;have aZ:=Gp (op:=op) (fill:=fill) (rung:=rung) (cap:=cap) (A:=A) (B:=B) (by omega) (by omega) (fun r q=>by have:=ap r q;omega);have bM:=Gq (op:=op) (fill:=fill) (rung:=rung) (cap:=cap) cp cZ (fun r q=>ap r (rA _ q)) (fun r q=>ap r (vD _ q)) (by rw[oL];omega);rw[h] at aZ;refine bq (f:=54) Tryz.func54 rfl rfl rfl rfl ?_;(refine cR ?_)
 ((refine bn rfl (bb rfl (bb rfl aM)) ?_))
 exact ag.aW.refl _
end
theorem aep{r:Nat}{v:aq}(h:dW r v.1 v.2=true):DG v:=by
 obtain⟨_,ay⟩:=EK r;unfold dW wi at h;simp only[ef,cV] at h;unfold DG;omega
section
variable{E:List (Int×bK)}{r rm:Nat}
theorem afM{s:bB.bd aq}(hw:gL E r rm)(aa:iT (bh E r rm) s)(al:lR (bh E r rm) (xq (E.map Prod.snd) r) s):∀(i:Nat) e c,E[i]?=some e→s.ch[i]?=some c→M5 r s.hot e c:=by
 rintro i ⟨o,⟨a,b⟩,⟨c,d⟩⟩ ⟨V,D⟩ fA hi;have ae:=al.iU i _ hi;obtain⟨g1,_⟩:=ae.gM;simp only at g1;obtain⟨w1,w2,w3,zJ,MC,MD⟩:=g1;have yA:=(hw.wE aa al).2 _ (cP hi);simp only at yA;have Fb:=(IB hw.ok aa al (cP hi)).2;simp only at Fb;have an:(bh E r rm).R=rm:=rfl;rw[an] at Fb;have ju:=hw.room;have P8:=ae.deep;simp only at P8
 have AO:(E.map Prod.snd).getD i ku=((a,b),(c,d)):=by
  rw[vF,dD,fA];rfl
 have JT:=ae.head;have Bs:=ae.last
 have IH:(bh E r rm).P i=(bV a r,bV b r):=by
  show lG r ((E.map Prod.snd).getD i ku).1=_;rw[AO];rfl
 have II:(bh E r rm).Q i=(bV c r,bV d r):=by
  show lG r ((E.map Prod.snd).getD i ku).2=_;rw[AO];rfl
 rw[IH] at JT;rw[II] at Bs;simp only at JT Bs;refine⟨yA.2,by have:=yA.1;have:=yA.2;show D.length≤1100;omega,fun v hv=>aep (w3 v hv),fun e he=>by have:=Fb e he;omega,UT ⟨w1,w2,w3,zJ,fun e he=>by have:=Fb e he;omega,MC,MD⟩,by rw[←List.head?_eq_getElem?];exact JT,by rw[←List.getLast?_eq_getElem?];exact Bs,?_,?_⟩
 ·exact(aak (D:=D) (m:=(D.length:Int)) (by omega) fun e he=>(P8 e he).2).2
 ·show (V.any fun q => !qn s.hot q.1 q.2)=false;rw[List.any_eq_false];intro q aj;have h1:0≤hB s.hot q.1 q.2:=sE.2 (ae.hot q aj);unfold qn;simp[h1]
theorem VP{rr:Int}:∀ {l L:List aq},(L++l).Nodup→(∀x∈l,dW r x.1 x.2=true)→(L.length:Int)+(l.length:Int)≤rr→nZ r rr L l=true
 | [],L,_,_,_=>rfl
 | q::l,L,aA,aw,ap=>by
  have aj:q∉L:=fun h=>by
   have:=(List.nodup_append.1 aA).2.2 q h q (hE ..);exact this rfl
  have aF:¬ 0≤hB L q.1 q.2:=fun h=>aj (sE.1 h);have bc:¬rr≤(L.length:Int):=by rw[hX] at ap;omega
  have aa:kT rr L q.1 q.2=true:=by unfold kT;rw[if_neg aF,if_neg bc]
  show (dW r q.1 q.2&&(kT rr L q.1 q.2&&nZ r rr (oc rr L q.1 q.2) l))=true;rw[aw q (hE ..),aa,Ny aa,pK,pK];refine VP (by rw[hD];exact aA) (fun x ab=>aw x (k8 _ ab)) ?_;rw[c3];rw[hX] at ap;show ((L.length+1:Nat):Int)+_≤_;omega
theorem alJ{s:bB.bd aq}(aa:iT (bh E r rm) s):nZ r rm [] s.hot=true:=by
 refine VP (by simpa using aa.nd) (fun x ab=>aa.hr x ab) ?_;have:s.hot.length≤rm:=aa.room;show ((0:Nat):Int)+_≤_;omega
end
section
variable{P:Program}{f:FuncId}{m0:Mem}{R0:aC}{Post:ag→Mem→aC→Prop}
theorem b3.B8{x y:ag}{ys:List ag}(h:b3 P f (y::ys) m0 R0 Post)(Ez:y.aV=true)(cs:ys.all ag.aV=true)(hle:x.aW y):b3 P f (x::ys) m0 R0 Post :=
 ⟨fun U ad W vs ca c9 cJ=>h.call U ad W vs ca (fun z aT j af=>by
  rcases fg.1 aT with rfl|aT
  ·exact absurd af (ag.cU Ez j)
  ·exact absurd af (ag.cU (b4.1 cs z aT) j)) ⟨cJ.1,fun i z v aT hv=>by
  match i,aT with
  | 0,aT=>cases aT;exact hle U ad W v (cJ.2 0 x v rfl hv)
  | i+1,aT=>exact cJ.2 (i+1) z v aT hv⟩⟩
end
abbrev vR:List (List cc):=[[(0,0),(4,0),(4,4),(0,4)]]
abbrev ew:List (Int×bK):=cu vR []
def h6:bB.bd aq:=⟨4,0,0,0,false,[(0,0)],[],[([(0,0)],[]),([(0,0)],[]),([(0,0)],[]),([(0,0)],[])]⟩
theorem Mj:jn vR [] 0 0 0 1=0:=by decide +kernel
theorem alo:(fh ew 1 [0,3,1000] (gR ew 1 0)).1=[0,3,11]:=by decide +kernel
theorem alp:(fh ew 1 [0,3,1000] (gR ew 1 0)).2.k=4∧(fh ew 1 [0,3,1000] (gR ew 1 0)).2.st=14:=by decide +kernel
theorem alq:(fh ew 1 [0,3,1000] (gR ew 1 0)).2.s.ph=4∧(fh ew 1 [0,3,1000] (gR ew 1 0)).2.s.I=0∧(fh ew 1 [0,3,1000] (gR ew 1 0)).2.s.J=0∧(fh ew 1 [0,3,1000] (gR ew 1 0)).2.s.T=0∧(fh ew 1 [0,3,1000] (gR ew 1 0)).2.s.dirty=false∧(fh ew 1 [0,3,1000] (gR ew 1 0)).2.s.hot=[(0,0)]∧(fh ew 1 [0,3,1000] (gR ew 1 0)).2.s.fnd=[]∧(fh ew 1 [0,3,1000] (gR ew 1 0)).2.s.ch=h6.ch:=by decide +kernel
theorem akc{α:Type}{s t:bB.bd α}(h1:s.ph=t.ph)(h2:s.I=t.I)(ar:s.J=t.J)(aJ:s.T=t.T)(bO:s.dirty=t.dirty)(fl:s.hot=t.hot)(kW:s.fnd=t.fnd)(oh:s.ch=t.ch):s=t:=by
 cases s;cases t;simp only at *;subst h1 h2 ar aJ bO fl kW oh;rfl
theorem afV{l m:dH}(h1:l.k=m.k)(h2:l.st=m.st)(ar:l.s=m.s):l=m:=by
 cases l;cases m;simp only at *;subst h1 h2 ar;rfl
theorem VA:fh ew 1 [0,3,1000] (gR ew 1 0)=([0,3,11],⟨4,14,h6⟩):=by
 obtain⟨bx,cl⟩:=alp;obtain⟨a,b,c,d,e,f,g,h⟩:=alq;exact la alo (afV bx cl (akc a b c d e f g h))
theorem Vz:gL ew 4 1:=⟨by decide,by decide,by decide,by decide,by decide⟩
theorem Mk:gL ew 0 1:=⟨by decide,by decide,by decide,by decide,by decide⟩
theorem Vx:kp ew 1 (gR ew 1 0):=by
 have:=SB (E:=ew) (rm:=1) (k:=0) Mk;unfold kp;have e:29*p5 ew.length 1=17400:=by decide
 show 0+pC ew 1 (gR ew 1 0)≤_;omega
theorem Ml:jj ew 1 ⟨4,14,h6⟩∧kp ew 1 ⟨4,14,h6⟩:=by
 have:=G7 [0,3,1000] (y8 (E:=ew) (rm:=1) (k:=0) Mk) Vx;rwa [VA] at this
theorem als(b:Nat):pX 82 [] (ft ew 4 1 4 0 0 0 false [(0,0)] [] h6.ch b) 1 [(0,0)] b (bl true):=by
 have hi:=Ml.1.inv
 have al:lR (bh ew 4 1) (xq (ew.map Prod.snd) 4) h6:=by
  rcases O8 hi (by decide) with h|h
  ·exact h.laid
  ·exact absurd h.ph (by decide)
 exact afu (afs (by decide) (by decide) (by decide) (aff ae5 Rx (r:=4) (by decide) rfl (by decide) (by decide) (by decide) (by decide) (afM Vz hi.1 al)))
theorem Vy:lp h6.ch:=⟨by decide,by decide⟩
theorem alr:DP 33 ew 4 1 h6:=ae0 Vz (by decide) (by decide) Vy (by decide) (alJ Ml.1.inv.1) fun b=>als b
def qW(n:Nat)(R:aC):Prop:=(∀i,i<n→∃q,R i=some q)∧∀i,n≤i→R i=none
theorem fZ.up{E:List (Int×bK)}{rm:Nat}{l:dH}{cs:List AC}{R:aC}(h:fZ E rm l cs R):qW 5 R:=⟨h.vQ,h.jO⟩
theorem dE.up{E:List (Int×bK)}{r rm:Nat}{s:bB.bd aq}{cs:List AC}{R:aC}(h:dE E r rm s cs R):qW 4 R:=⟨h.vQ,h.jO⟩
theorem L8{i n:Nat}(aA:n≤10)(h:gC i<n):20≤i:=by
 unfold gC at h
 (repeat' split at h) <;> omega
section
variable{n m:Nat}{lT DO lr x6:aC}
theorem zG:two lT lr=bG lT (lr.aY gC):=rfl
theorem C9(aX:qW n lT)(aa:qW m lr)(aA:n≤10)(hm:m≤10):a8 (lr.aY gC) (two lT lr):=fun i q h=>by
 have h1:lr (gC i)=some q:=h;have hi:20≤i:=L8 hm (Nat.not_le.1 fun hle=>by rw[aa.2 _ hle] at h1;cases h1);rw[zG,gA (aX.2 i (by omega))];exact h
theorem Da(aX:qW n lT)(Jy:qW n DO):bG DO (two lT lr)=two DO lr:=by
 funext i;rw[zG,zG]
 by_cases hi:i<n
 ·obtain⟨q,aj⟩:=Jy.1 i hi;rw[fH aj,fH aj]
 ·rw[gA (Jy.2 i (by omega)),gA (aX.2 i (by omega)),gA (Jy.2 i (by omega))]
theorem Db(aX:qW n lT)(aa:qW m lr)(mV:qW m x6)(aA:n≤10)(hm:m≤10):bG (x6.aY gC) (two lT lr)=two lT x6:=by
 funext i;rw[zG,zG]
 by_cases aJ:gC i<m
 ·obtain⟨q,aj⟩:=mV.1 _ aJ;have hi:=L8 hm aJ;rw[fH (show x6.aY gC i=some q from aj),gA (aX.2 i (by omega))];exact aj.symm
 ·have h1:x6.aY gC i=none:=mV.2 _ (by omega);have h2:lr.aY gC i=none:=aa.2 _ (by omega);rw[gA h1];cases aj:lT i with
  | some q=>rw[fH aj,fH aj]
  | none=>rw[gA aj,gA aj,h1,h2]
theorem Mv(aX:qW n lT)(aa:qW m lr)(aA:n≤10)(hm:m≤10):bG (lr.aY gC) lT=two lT lr:=by
 funext i;rw[zG];cases aj:lr.aY gC i with
 | some q =>
  have h1:lr (gC i)=some q:=aj;have hi:20≤i:=L8 hm (Nat.not_le.1 fun hle=>by rw[aa.2 _ hle] at h1;cases h1);rw[fH aj,gA (aX.2 i (by omega))];exact aj.symm
 | none =>
  rw[gA aj];cases ap:lT i with
  | some r=>exact(fH ap).symm
  | none=>rw[gA ap,aj]
end
theorem ah3:aP ah 38 [] (bl true):=by
 obtain⟨KC,Zl⟩:=Ml;have ap:∀r∈vR++[],r.length≤900000:=by decide
 have wj:pV 21 cM ew 1 39 [.w (.agg [hl vR,.c (.slice none 0 0),.c (.int .i64 0),.c (.int .i64 0),.c (.int .i64 0),.c (.int .i64 1)])] vA (gR ew 1 0):=b3.B8 (Rz (A:=vR) (B:=[]) (by decide) (by decide) ap Mj 21 pA) rfl rfl KH;have Xr:=B8 (ahN (A:=[]) (B:=[]) (op:=0) (fill:=0) (rung:=0) (cap:=0) (by decide) (by decide) (by decide) (by decide)) rfl rfl aeN;rw[show jn [] [] 0 0 0 0=113 by decide] at Xr;have kq:=RA (y8 (E:=ew) (rm:=1) (k:=0) Mk) Vx (bs:=[0,3,1000]) (by decide) (by decide);rw[VA] at kq;have kq:=kq.oN 21 (bD:=cM) pA rfl rfl;have wo:=(aeV KC).oN 21 (bD:=cM) pA rfl rfl;have n8:uE 21 cM ew 1 48 [] ⟨4,14,h6⟩ (aL 14) ⟨4,14,h6⟩:=(aeW (E:=ew) (rm:=1) (l:=⟨4,14,h6⟩)).oN 21 (bD:=cM) pA rfl rfl;have wh:pV 49 gC ew 1 54 [.w (.agg [hl vR,.c (.slice none 0 0),.c (.int .i64 0),.c (.int .i64 0),.c (.int .i64 0),.c (.int .i64 1)]),aL 14,sZ 4 1 h6] vA ⟨4,14,h6⟩:=b3.B8 (aeR (A:=vR) (B:=[]) (cap:=1) (r:=4) (s:=h6) (st:=14) (by decide) (by decide) ap Mj (by decide) (by decide) (by decide) alr 49 CY) rfl rfl KH;have aml:=B8 (ahM (A:=vR) (B:=[]) (op:=0) (fill:=0) (rung:=0) (cap:=1) (r:=4) (rm:=1) (s:=h6) (by decide) (by decide) ap Mj) rfl rfl KH;have uA:uE 21 cM ew 1 56 [] ⟨4,14,h6⟩ (bl true) ⟨4,14,h6⟩:=(KL (E:=ew) (rm:=1) (l:=⟨4,14,h6⟩)).oN 21 (bD:=cM) pA rfl rfl;have WT:uE 49 gC ew 1 56 [] ⟨4,14,h6⟩ (bl true) ⟨4,14,h6⟩:=(KL (E:=ew) (rm:=1) (l:=⟨4,14,h6⟩)).oN 49 (bD:=gC) CY rfl rfl;have qR:uE 21 cM ew 1 51 [] ⟨4,14,h6⟩ (aL 4) ⟨4,14,h6⟩:=(Ry (E:=ew) (rm:=1) (l:=⟨4,14,h6⟩)).oN 21 (bD:=cM) pA rfl rfl;have nv:uE 21 cM ew 1 43 [] ⟨4,14,h6⟩ (bl false) ⟨4,14,h6⟩:=(RB KC (by decide)).oN 21 (bD:=cM) pA rfl rfl;have fw:uE 21 cM ew 1 44 [] ⟨4,14,h6⟩ (aL 0) ⟨4,14,h6⟩:=(aeQ (E:=ew) (rm:=1) (l:=⟨4,14,h6⟩) Vy).oN 21 (bD:=cM) pA rfl rfl;have HM:=Th (n:=4) (rm:=1) (by decide) (by decide) (by decide) (by decide);rw[show ir 4 1=17400 by decide] at HM;have Hz:=xa (j:=0) (i:=0) (l:=[0,3,11]) rfl rfl;have ko:=xa (j:=1) (i:=1) (l:=[0,3,11]) rfl rfl;have pU:=xa (j:=2) (i:=2) (l:=[0,3,11]) rfl rfl;clear KC Zl ap;generalize gR ew 1 0=Xm at *;refine bq (f:=38) Tryz.func38 rfl rfl rfl rfl ?_;refine uJ ?_;(refine aQ ?_);refine w7 21 cM rfl rfl rfl rfl wj rfl rfl rfl rfl (fun cs qT aN => ?_);rw[xt];(refine mD ?_);refine nb 21 cM rfl rfl rfl rfl rfl rfl rfl rfl kq aN (a8.refl _) (fun AK kS dj => ?_);rw[show bG (aC.aY cM kS) (aC.aY cM qT)=aC.aY cM kS from aN.bG dj];(refine aQ ?_);refine nb 21 cM rfl rfl rfl rfl rfl rfl rfl rfl wo dj (a8.refl _) (fun Ex mI fI => ?_);rw[show bG (aC.aY cM mI) (aC.aY cM kS)=aC.aY cM mI from dj.bG fI];(repeat first|(with_reducible apply fW (id:=8) [0,1,3,2,4,5,6,7,8,9] [47,49,2000021,2000049]);kernel_rfl;kernel_rfl;rfl|refine bQ ?_);refine nb 21 cM rfl rfl rfl rfl rfl rfl rfl rfl n8 fI (a8.refl _) (fun amI Ag lN => ?_);rw[show bG (aC.aY cM Ag) (aC.aY cM mI)=aC.aY cM Ag from fI.bG lN]
 skip
 refine w7 49 gC rfl rfl rfl rfl wh rfl rfl rfl rfl (fun ds mc aH => ?_);rw[show bG (aC.aY gC mc) (aC.aY cM Ag)=two Ag mc from Mv lN.up aH.up (by decide) (by decide)];(repeat first|(with_reducible apply fW (id:=10) [0,1,2,3,4,5,6,7,8,9,10,11,12,13,14,15,16,17,18,19,20,21,22,23,24,25,27,28,29,30,31,32,33,26,34,35,36,37,38,39,40,41,42,43,44,45,46,47,48,49,50,51,52,53,54,55,56,57,58,59,60,61,62,63,64,65,66,67,68,69,70,71,72] [75,79,84,96,101,120,2000021,2000049]);kernel_rfl;kernel_rfl;rfl|refine bQ ?_|(with_reducible apply eH);rfl;(repeat first|refine gW ?_|refine fX ?_|(with_reducible apply bU (c:=true));rfl;rfl;(exact cd (by omega)));(with_reducible apply dC));refine nb 21 cM rfl rfl rfl rfl rfl rfl rfl rfl uA lN C7 (fun amJ HP Hr => ?_);rw[show bG (aC.aY cM HP) (two Ag mc)=two HP mc from Da lN.up Hr.up];(refine aQ ?_);refine nb 21 cM rfl rfl rfl rfl rfl rfl rfl rfl qR Hr C7 (fun amK HQ Hs => ?_);rw[show bG (aC.aY cM HQ) (two HP mc)=two HQ mc from Da Hr.up Hs.up];(repeat first|refine bQ ?_|(with_reducible apply eH);rfl;(repeat first|refine gW ?_|(with_reducible apply bU (c:=true));rfl;rfl;(exact cd (by omega)));(with_reducible apply dC));refine nb 21 cM rfl rfl rfl rfl rfl rfl rfl rfl n8 Hs C7 (fun amL HR Ht => ?_);rw[show bG (aC.aY cM HR) (two HQ mc)=two HR mc from Da Hs.up Ht.up];(repeat first|refine bQ ?_|(with_reducible apply eH);rfl;(repeat first|refine gW ?_|(with_reducible apply bU (c:=true));rfl;rfl;(exact cd (by omega)));(with_reducible apply dC));refine nb 21 cM rfl rfl rfl rfl rfl rfl rfl rfl nv Ht C7 (fun amM HS Hu => ?_);rw[show bG (aC.aY cM HS) (two HR mc)=two HS mc from Da Ht.up Hu.up];(refine aQ ?_);refine nb 21 cM rfl rfl rfl rfl rfl rfl rfl rfl fw Hu C7 (fun amN Nd Hv => ?_);rw[show bG (aC.aY cM Nd) (two HS mc)=two Nd mc from Da Hu.up Hv.up];(repeat first|refine bQ ?_|(with_reducible apply eH);rfl;(repeat first|refine gW ?_|(with_reducible apply bU (c:=true));rfl;rfl;(exact cd (by omega)));(with_reducible apply dC));refine nb 49 gC rfl rfl rfl rfl rfl rfl rfl rfl WT aH (C9 Hv.up aH.up (by decide) (by decide)) (fun IE Nf dy => ?_);rw[Db Hv.up aH.up dy.up (by decide) (by decide)];(refine mD ?_)
 ((refine bn rfl (bb rfl aM) ?_))
 exact ag.aW.refl _
theorem Rs{o:cT aq}{ok:Nat→List aq×List Int→Prop}(ae:lS o ok):∀(n:Nat) {s:bB.bd aq},jl o ok s→4≤s.ph→jy o n s=s
 | 0,s,_,_=>rfl
 | n+1,s,h,aJ=>by
  have e:=(xM ae h).2.2 aJ;show jy o n (dh o s)=s;rw[e];exact Rs ae n h aJ
theorem aeI{o:cT aq}{ok:Nat→List aq×List Int→Prop}(ae:lS o ok){s:bB.bd aq}(h:jl o ok s){m n:Nat}(hm:4≤(jy o m s).ph)(aA:4≤(jy o n s).ph):jy o m s=jy o n s:=by
 have key:∀a b,a≤b→4≤(jy o a s).ph→jy o a s=jy o b s:=fun a b oi aX=>by
  obtain⟨d,rfl⟩:=Nat.exists_eq_add_of_le oi;rw[KF];exact(Rs ae d (KG ae a h).1 aX).symm
 rcases Nat.le_total m n with q|q
 ·exact key m n q hm
 ·exact(key n m q aA).symm
theorem Rr{o:cT aq}(n:Nat)(s:bB.bd aq):jy o (n+1) s=dh o (jy o n s):=by
 rw[KF];rfl
section
variable{E:List (Int×bK)}{rm:Nat}
structure s6 (E:List (Int×bK)) (rm ee:Nat) (l:dH):Prop where
 over:∀j,ee≤j→j<l.k→∃m,(jy (bh E j rm) m (fe (bh E j rm))).ph=5
 here:∃m,l.s=jy (bh E l.k rm) m (fe (bh E l.k rm))
 low:ee≤l.k
theorem s6.new(ee:Nat):s6 E rm ee (gR E rm ee):=⟨fun j h1 h2=>by have h2:j<ee:=h2;omega,⟨0,rfl⟩,cF _⟩
theorem s6.step{ee:Nat}{l:dH}(h:s6 E rm ee l):s6 E rm ee (fS E rm l):=by
 unfold fS
 by_cases aJ:4≤l.s.ph
 ·rw[if_pos aJ];exact h
 ·rw[if_neg aJ];obtain⟨m,hm⟩:=h.here
  by_cases bO:(dh (bh E l.k rm) l.s).ph=5
  ·rw[if_pos bO];refine⟨fun j h1 h2 => ?_,⟨0,rfl⟩,Nat.le_succ_of_le h.low⟩;have h2:j<l.k+1:=h2
   by_cases e:j=l.k
   ·subst e;exact⟨m+1,by rw[Rr,←hm];exact bO⟩
   ·exact h.over j h1 (by omega)
  ·rw[if_neg bO];exact⟨h.over,⟨m+1,by show dh (bh E l.k rm) l.s=jy (bh E l.k rm) (m+1) _;rw[Rr,←hm]⟩,h.low⟩
theorem UZ{ee:Nat}:∀(n:Nat) {l:dH},s6 E rm ee l→s6 E rm ee (e4 E rm n l).2
 | 0,l,h=>h
 | n+1,l,h=>by
  unfold e4
  split
  ·exact h
  ·exact UZ n h.step
theorem aht{k:Nat}(ay:gL E k rm){m n:Nat}(hm:(jy (bh E k rm) m (fe (bh E k rm))).ph=5)(aA:p5 E.length rm≤n):(h4 (bh E k rm) n (fe (bh E k rm))).2.ph=5:=by
 have hi:=Ge (bh E k rm) (xq (E.map Prod.snd) k);obtain⟨h1,h2,ar⟩:=U4 (o:=bh E k rm) n (fe (bh E k rm))
 have nG:4≤(h4 (bh E k rm) n (fe (bh E k rm))).2.ph:=by
  by_cases ak:(h4 (bh E k rm) n (fe (bh E k rm))).1<n
  ·exact ar ak
  ·have e:(h4 (bh E k rm) n (fe (bh E k rm))).1=n:=by omega
   rw[h1,e];exact(KG ay.ok n hi).2 (eI (Lg k ay.pos) aA)
 rw[h1] at nG ⊢;rw[aeI ay.ok hi nG (m:=_) (n:=m) (by omega)];exact hm
theorem ago{l:List aq}(h:l.length≤1){x y:aq}(ab:x∈l)(ai:y∈l):x=y:=by
 match l,h,ab,ai with
 | [a],_,ab,ai=>rw[je.1 ab,je.1 ai]
theorem aho{l:dH}(h:jj E 1 l)(aJ:l.s.ph=4){i j:Nat}(hi:i<E.length)(af:j<E.length):(bh E l.k 1).P i=(bh E l.k 1).P j:=by
 have ju:l.s.hot.length≤1:=h.inv.1.room
 have key:∀i,i<E.length→(bh E l.k 1).P i∈l.s.hot:=fun i hi=>by
  rcases O8 h.inv (by omega) with q|q
  ·have hlen:l.s.ch.length=E.length:=by rw[q.laid.len,gL.n]
   obtain⟨c,ak⟩:∃c,l.s.ch[i]?=some c:=⟨_,bF (by omega)⟩;have bC:=q.laid.iU i c ak;refine bC.hot _ ?_;have:=bC.head;exact List.mem_of_mem_head? (by rw[this];rfl)
  ·rw[q.ph] at aJ;cases aJ
 exact ago ju (key i hi) (key j af)
end
section
variable{α:Type} [DecidableEq α]
variable{o:cT α}{R:Nat}
end
section
variable{E:List (Int×bK)}{rm ajW:Nat}
end
theorem aaR{A B:List (List cc)}(h:¬sa A B>0):A.length+B.length+(bN A+bN B)≤14∧bN A+bN B≤8:=by
 unfold sa at h
 by_cases ak:A.length+B.length+(bN A+bN B)≤14∧bN A+bN B≤8
 ·exact ak
 ·rw[if_neg ak] at h;omega
theorem G3{A B:List (List cc)}(h:A.length+B.length+(bN A+bN B)≤14):∀r∈A++B,r.length≤900000:=fun r q=>by
 rcases kh.1 q with q|q <;> (obtain⟨i,hi⟩:=kJ q;have:=VG hi;omega)
section
variable{A B:List (List cc)}{op fill rung cap:Int}
theorem aeY(hs:A.length+B.length+(bN A+bN B)≤14)(h:jn A B op fill rung cap=0):pV 7 cM (cu A B) cap.toNat 46 [.w (.agg (im A B op fill rung cap))] Gn (h7 A B rung cap):=by
 obtain⟨i1,aJ,f1,f2,f3,f4,b1,b2⟩:=MG h;obtain⟨⟨a0,a1⟩,⟨c0,c1⟩,d0,d1,_,_⟩:=uL h;have ay:=DI.fit h;have wj:=Rz (op:=op) (fill:=fill) (A:=A) (B:=B) (by omega) (by omega) (G3 hs) h 7 pA;have hL:=Lw (A:=A) (B:=B) (op:=op) (fill:=fill) (rung:=rung) (cap:=cap) (by omega);have wh:=TB (n:=((cu A B).length:Int)) (rm:=cap) (by omega) (by rw[oL];omega) c0 c1;obtain⟨_,_,m0,m1⟩:=Ch (n:=((cu A B).length:Int)) (rm:=cap) (by omega) (by rw[oL];omega) c0 c1;have kq:=RA (y8 (k:=rung.toNat) ay) b1 (bs:=[ir (cu A B).length cap]) (by rw[List.length_singleton];decide) (fun b aa=>by rw[je.1 aa];omega);rw[show (fh (cu A B) cap.toNat [ir (cu A B).length cap] (gR (cu A B) cap.toNat rung.toNat)).2=h7 A B rung cap from rfl] at kq;have kq:=kq.oN 7 (bD:=cM) pA rfl rfl;have uA:=(KL (E:=cu A B) (rm:=cap.toNat) (l:=h7 A B rung cap)).oN 7 (bD:=cM) pA rfl rfl;rw[cd (show ((h7 A B rung cap).s.ph:Int)=4 by omega)] at uA;generalize (fh (cu A B) cap.toNat [ir (cu A B).length cap] (gR (cu A B) cap.toNat rung.toNat)).1=did at *;generalize h7 A B rung cap=fu at *;generalize gR (cu A B) cap.toNat rung.toNat=Xm at *;generalize ir (cu A B).length cap=e3 at *;clear i1 aJ f1 f2 f3 f4 b1 b2 ay a0 a1 c0 c1 d0 d1 m0 m1 hs h;refine cC (f:=46) Tryz.func46 rfl (b8 rfl) (by exact ib) ?_;(refine aQ ?_);refine w7 7 cM rfl rfl rfl rfl wj rfl rfl rfl rfl (fun cs qT aN => ?_);rw[xt];(repeat first|(with_reducible apply fW (id:=4) [0,1,2,3,4,5,6,7,8] [24,2000007]);kernel_rfl;kernel_rfl;rfl|refine bQ ?_|refine fO ?_);refine nb 7 cM rfl rfl rfl rfl rfl rfl rfl rfl kq aN (a8.refl _) (fun AK kS dj => ?_);rw[show bG (aC.aY cM kS) (aC.aY cM qT)=aC.aY cM kS from aN.bG dj];(refine aQ ?_);refine nb 7 cM rfl rfl rfl rfl rfl rfl rfl rfl uA dj (a8.refl _) (fun Ex mI fI => ?_);rw[show bG (aC.aY cM mI) (aC.aY cM kS)=aC.aY cM mI from dj.bG fI];(refine aQ ?_)
 ((refine wR 7 rfl (bb rfl aM) rfl (a8.refl _) fI.closed rfl ?_))
 exact⟨Ex,mI,rfl,rfl,rfl,fI⟩
theorem aeX(hs:A.length+B.length+(bN A+bN B)≤14)(h:jn A B op fill rung cap=0)(j:Nat){bD:Nat→Nat}(eX:∀j,bD (bD j)=j):pV j bD (cu A B) cap.toNat 46 [.w (.agg (im A B op fill rung cap))] Gn (h7 A B rung cap):=(aeY hs h).tO9 rfl ahz j eX
end
section
variable{A B:List (List cc)}{op fill rung cap more:Int}
theorem al7:s6 (cu A B) cap.toNat rung.toNat (h7 A B rung cap):=UZ _ (s6.new _)
end
end Go.Proofs.YtklpfooafbjnpaaGreat
