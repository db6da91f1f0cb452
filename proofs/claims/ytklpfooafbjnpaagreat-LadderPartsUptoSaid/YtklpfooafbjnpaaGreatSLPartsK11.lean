/-
  My own texts,without what this claim does not need. My own text.
-/
import Derived.Conc.LoneCalls
import Derived.Conc.LoneSelectN
import Derived.Conc.SmallLaws
import Derived.Conc.EventLaws
import Derived.Test.YtklpfooafbjnpaaGreatSLPartsK10
set_option maxRecDepth 100000
set_option maxHeartbeats 64000000
set_option linter.unusedVariables false
set_option linter.unusedSimpArgs false
set_option linter.unusedSectionVars false
open Go.Proofs.Tryz renaming prog → ah
namespace Go.Proofs.YtklpfooafbjnpaaGreat
open Go.RowKit
theorem aiE{V l:List aq}{f t:Int}(aw:0≤f∧f≤V.length)(aC:0≤t∧t≤V.length)(mO:V.length≤10000)(al:l.length≤10000):aO ah 196 [fF V,aL f,aL t,fF l] (fF (V.take f.toNat++l++V.drop t.toNat)):=by
 have J:=To (LL:=[V.take f.toNat,l,V.drop t.toNat]) (by show 3≤1100;decide) (by simp[cY];omega);have cr:[V.take f.toNat,l,V.drop t.toNat].flatten=V.take f.toNat++l++V.drop t.toNat:=by simp
 rw[cr] at J
 replace J:aO ah 217 [cF 1 3 [.p (b3 2 (V.take f.toNat).length (bY (V.take f.toNat))),.p (b3 2 l.length (bY l)),.p (b3 2 (V.drop t.toNat).length (bY (V.drop t.toNat)))]] (fF (V.take f.toNat++l++V.drop t.toNat)):=J
 have a1:0≤f:=aw.1;have a2:f≤f:=mx f;have a3:f≤V.length:=aw.2;have a4:0≤t:=aC.1;have a5:t≤V.length:=aC.2;have a6:(V.length:Int)≤V.length:=mx _;have m1:f.toNat-0=(V.take f.toNat).length:=by rw[dY];omega
 have aH:((bY V).drop (0*2)).take ((V.take f.toNat).length*2)=bY (V.take f.toNat):=by
  have h:bY V=bY (V.take f.toNat)++bY (V.drop f.toNat):=by rw[←tN,kg]
  rw[h,Nat.zero_mul,List.drop_zero,←ol,List.take_left]
 have m2:(V.length:Int).toNat-t.toNat=(V.drop t.toNat).length:=by rw[iE];omega
 have aN:((bY V).drop (t.toNat*2)).take ((V.drop t.toNat).length*2)=bY (V.drop t.toNat):=by
  have h:bY V=bY (V.take t.toNat)++bY (V.drop t.toNat):=by rw[←tN,kg]
  rw[h,show t.toNat*2=(bY (V.take t.toNat)).length by rw[ol,dY];omega,List.drop_left,Rn rfl]
 refine bo (f:=196) Tryz.func196 rfl rfl rfl rfl ?_;(repeat first|refine dc ?_|refine fw ?_|(with_reducible apply Ib);(iterate 4 rfl);(assumption);(assumption);(assumption);(assumption);(assumption);rfl|(with_reducible apply Ic);(iterate 5 rfl);(assumption);(assumption);(assumption);(assumption);(assumption);(assumption);rfl)
 ((refine bk rfl (aY rfl aM) ?_))
 exact ag.aU.refl _
theorem aiD{V l:List Int}{f t:Int}(aw:0≤f∧f≤V.length)(aC:0≤t∧t≤V.length)(mO:V.length≤10000)(al:l.length≤10000):aO ah 197 [iI V,aL f,aL t,iI l] (iI (V.take f.toNat++l++V.drop t.toNat)):=by
 have J:=Tn (LL:=[V.take f.toNat,l,V.drop t.toNat]) (by show 3≤1100;decide) (by simp[cY];omega);have cr:[V.take f.toNat,l,V.drop t.toNat].flatten=V.take f.toNat++l++V.drop t.toNat:=by simp
 rw[cr] at J
 replace J:aO ah 218 [cF 1 3 [.p (b3 1 (V.take f.toNat).length (cw (V.take f.toNat))),.p (b3 1 l.length (cw l)),.p (b3 1 (V.drop t.toNat).length (cw (V.drop t.toNat)))]] (iI (V.take f.toNat++l++V.drop t.toNat)):=J
 have a1:0≤f:=aw.1;have a2:f≤f:=mx f;have a3:f≤V.length:=aw.2;have a4:0≤t:=aC.1;have a5:t≤V.length:=aC.2;have a6:(V.length:Int)≤V.length:=mx _;have m1:f.toNat-0=(V.take f.toNat).length:=by rw[dY];omega
 have aH:((cw V).drop (0*1)).take ((V.take f.toNat).length*1)=cw (V.take f.toNat):=by
  have h:cw V=cw (V.take f.toNat)++cw (V.drop f.toNat):=by rw[←BZ,kg]
  rw[h,Nat.zero_mul,List.drop_zero,←FM,List.take_left]
 have m2:(V.length:Int).toNat-t.toNat=(V.drop t.toNat).length:=by rw[iE];omega
 have aN:((cw V).drop (t.toNat*1)).take ((V.drop t.toNat).length*1)=cw (V.drop t.toNat):=by
  have h:cw V=cw (V.take t.toNat)++cw (V.drop t.toNat):=by rw[←BZ,kg]
  rw[h,show t.toNat*1=(cw (V.take t.toNat)).length by rw[FM,dY];omega,List.drop_left,Q9 rfl]
 refine bo (f:=197) Tryz.func197 rfl rfl rfl rfl ?_;(repeat first|refine dc ?_|refine fw ?_|(with_reducible apply Ib);(iterate 4 rfl);(assumption);(assumption);(assumption);(assumption);(assumption);rfl|(with_reducible apply Ic);(iterate 5 rfl);(assumption);(assumption);(assumption);(assumption);(assumption);(assumption);rfl)
 ((refine bk rfl (aY rfl aM) ?_))
 exact ag.aU.refl _
theorem Rr:Wz:=by
 intro V D aa hd;have HJ:=To (LL:=[V]) (by show 1≤1100;decide) (by simp;omega);have HK:=Tn (LL:=[D]) (by show 1≤1100;decide) (by simp;omega);rw[show [V].flatten=V by simp] at HJ;rw[show [D].flatten=D by simp] at HK
 replace HJ:aO ah 217 [cF 1 1 [.p (b3 2 V.length (bY V))]] (fF V):=HJ
 replace HK:aO ah 218 [cF 1 1 [.p (b3 1 D.length (cw D))]] (iI D):=HK
 refine bo (f:=155) Tryz.func155 rfl rfl rfl rfl ?_;(refine cK ?_)
 ((refine bk rfl (c6 rfl rfl rfl aM) ?_))
 exact ag.aU.refl _
theorem alR{xs ys:List bF}(al:xs.length=ys.length)(h:∀(i:Nat) x y,xs[i]?=some x→ys[i]?=some y→ag.aU (.w x) (.w y)):ag.aU (.ck xs) (.ck ys):=fun U ad W v hv=>by
 obtain⟨vs,e,aA,aZ⟩:=hv
 exact⟨vs,e,by rw[←al];exact aA,fun i y u ai hu=>by
  have hi:i<xs.length:=by rw[al];exact(bq.1 ai).1
  exact h i _ y (bB hi) ai U ad W u (aZ i _ u (bB hi) hu)⟩
theorem aaY:ag.aU (.ck [.agg [.c (.slice none 0 0),.c (.slice none 0 0)],.one (.c (.bool false))]) (.ck [.agg (xa [] []),.one (.c (.bool false))]):=alR rfl fun i x y ab ai=>by
 match i with
 | 0=>cases ab;cases ai;exact ZI
 | 1=>cases ab;cases ai;exact ag.aU.refl _
 | i+2=>simp at ab
theorem alo{V l:List aq}{D:List Int}{j:Nat}(aa:V.length≤1100)(hd:D.length≤1100)(af:j≤1100)
  (cs:(j:Int)≥D.length∨(¬(j:Int)≥D.length∧(j:Int)≥(V.length:Int)-1)∨(¬(j:Int)≥D.length∧¬(j:Int)≥(V.length:Int)-1∧(l.length:Int)=0)):aO ah 139 [oA V D,aL j,fF l] (.ck [.agg (xa [] []),.one (.c (.bool false))]):=by
 have c4:¬(j:Int)<0:=by omega
 generalize (j:Int)=de at *;rcases cs with q1|⟨q1,q2⟩|⟨q1,q2,q3⟩
 all_goals
  refine bo (f:=139) Tryz.func139 rfl rfl rfl rfl ?_;(repeat first|refine dc ?_|(with_reducible apply bR (c:=true));rfl;rfl;(exact b5 (by omega))|(with_reducible apply bR (c:=false));rfl;rfl;(exact cc (by omega)))
  ((refine bk rfl (c6 rfl rfl rfl (aY rfl aM)) ?_))
  exact aaY
theorem alp{V l:List aq}{D:List Int}{j:Nat}{de pV:Int}(jy:de=j)(se:D[j]?=some pV)(P3:1≤pV∧pV≤1048576)(al:0<l.length)(e4:V.length=D.length+1)(aa:V.length≤1100)(P0:l.length≤1100):aO ah 139 [oA V D,aL de,fF l] (.ck [.agg (xa (G3 V j l) (C1 D j l.length)),.one (.c (.bool true))]):=by
 have Fj:j<D.length:=(bq.1 se).1;have c4:¬de<0:=by omega
 have q1:¬de≥D.length:=by omega
 have q2:¬de≥(V.length:Int)-1:=by omega
 have q3:¬(l.length:Int)=0:=by omega
 have q4:de<(D.length:Int):=by omega
 have gQ:=oN jy se;have gz:=ahX (d:=pV+1) (m:=l.length+1) (by omega) (by omega);have hU:=aiE (V:=V) (l:=l) (f:=de+1) (t:=de+1) (by omega) (by omega) (by omega) (by omega);have Xw:=aiD (V:=D) (l:=List.replicate (l.length+1) (pV+1)) (f:=de) (t:=de+1) (by omega) (by omega) (by omega) (by rw[List.length_replicate];omega);have aH:(de+1).toNat=j+1:=by omega
 have aN:de.toNat=j:=by omega
 have b6:D.getD j 0=pV:=by simp[List.getD,se]
 have eb:D.take j++List.replicate (l.length+1) (pV+1)++D.drop (j+1)=C1 D j l.length:=by unfold C1;rw[b6]
 have jd:V.take (j+1)++l++V.drop (j+1)=G3 V j l:=rfl;rw[aH,jd] at hU;rw[aH,aN,eb] at Xw;have pX:(((l.length+1:Nat):Int))=(l.length:Int)+1:=by omega
 rw[pX] at gz;clear aH aN b6 eb jd pX;generalize G3 V j l=Nr at *;generalize C1 D j l.length=xS at *;generalize List.replicate (l.length+1) (pV+1)=T at *;refine bo (f:=139) Tryz.func139 rfl rfl rfl rfl ?_;(repeat first|refine dc ?_|refine fw ?_|refine ur hU ?_|(with_reducible apply bR (c:=false));rfl;rfl;(exact cc (by omega)))
 ((refine bk rfl (c6 rfl rfl rfl (aY rfl aM)) ?_))
 exact ag.aU.refl _
theorem ae7:WJ:=by
 intro V D j l mO aa P0 af oG;cases al:l with
 | nil=>exact alo (V:=V) (D:=D) (l:=[]) (j:=j) (by omega) (by omega) (by omega) (.inr (.inr ⟨by omega,by omega,rfl⟩))
 | cons p m =>
  rw[←al];have e:l.isEmpty=false:=by rw[al];rfl
  rw[e];have nA:0<l.length:=by rw[al];exact gE _
  obtain⟨pV,se⟩:∃pV,D[j]?=some pV:=⟨_,bB af⟩;exact alp (V:=V) (l:=l) (D:=D) (j:=j) rfl se (oG pV (cM se)) nA mO aa P0
theorem ZJ(V:List aq):ag.aU (.w (.agg [.p (b3 2 V.length (bY V)),.c (.slice none 0 0)])) (oA V []):=DX rfl fun j x y ab ai=>by
 match j with
 | 0=>cases ab;cases ai;exact .inl rfl
 | 1=>cases ab;cases ai;exact .inr ⟨rfl,1,rfl⟩
 | j+2=>simp at ab
theorem ae1:WC:=by
 intro x y z w;cases aj:dE x y z w with
 | true =>
  obtain⟨rfl,rfl⟩:=qY.1 aj;rw[show xh (x,y) (x,y)=[(x,y)] from if_pos rfl,show xg (x,y) (x,y)=[] from if_pos rfl];refine bo (f:=191) Tryz.func191 rfl rfl rfl rfl ?_;(refine eK ?_)
  ((refine bk rfl (c6 rfl rfl rfl aM) ?_))
  exact ZJ [(x,y)]
 | false =>
  have aA:¬((x,y):aq)=(z,w):=fun e=>by
   have:=qY.2 (⟨congrArg Prod.fst e,congrArg Prod.snd e⟩:x=z∧y=w);rw[aj] at this;cases this
  rw[show xh (x,y) (z,w)=[(x,y),(z,w)] from if_neg aA,show xg (x,y) (z,w)=[1] from if_neg aA];refine bo (f:=191) Tryz.func191 rfl rfl rfl rfl ?_;(refine eK ?_)
  ((refine bk rfl (c6 rfl rfl rfl aM) ?_))
  exact ag.aU.refl _
def WS(V:List aq)(D:List Int)(n:Nat)(az:List (Nat×ag))(aR:List (Nat×List AC)):Prop :=
 ∃(k:Nat) (db d:Int),k≤D.length∧n=D.length-k∧db=k∧d=mK (D.take k)∧aR=[(1,xa V D)]∧az=[(1,VU 1),(3,aL d),(7,cF 1 D.length (cw D)),(8,aL D.length),(9,aL db)]
theorem aan{D:List Int}{k:Nat}{d:Int}(h:D[k]?=some d):mK (D.take (k+1))=max (mK (D.take k)) d:=by
 have ae:=(bq.1 h).1
 have e:D.take (k+1)=D.take k++[d]:=by
  rw[jL ae,(bq.1 h).2]
 unfold mK;rw[e,List.foldl_append];rfl
theorem Rs:MW:=by
 intro V D aa hd;refine bo (f:=76) Tryz.func76 rfl rfl rfl rfl ?_;(refine eK ?_);refine oE 18 (WS V D) D.length _ [(1,xa V D)] ⟨0,0,0,dk _,rfl,rfl,rfl,rfl,rfl⟩ rfl ⟨rfl,rfl,rfl,rfl,rfl,trivial⟩ ⟨rfl,trivial⟩ rfl ?_;rintro n az aR ⟨k,db,d,ae,rfl,jf,nz,rfl,rfl⟩ bz;clear bz
 by_cases aj:k<D.length
 ·have q2:db<(D.length:Int):=by omega
  have q3:0≤db:=by omega
  obtain⟨e,g1⟩:∃e,D[k]?=some e:=⟨_,bB aj⟩;have gQ:=oN jf g1;have aC:=aan g1;rw[←nz,show max d e=if e>d then e else d by split <;> omega] at aC;(refine eK ?_);exact⟨D.length-(k+1),_,[(1,xa V D)],by omega,⟨k+1,db+1,_,by omega,rfl,by omega,aC.symm,rfl,rfl⟩,rfl,⟨rfl,rfl,rfl,rfl,rfl,trivial⟩,⟨rfl,trivial⟩,rfl⟩
 ·have q2:¬db<(D.length:Int):=by omega
  have cr:D.take k=D:=fL (by omega);rw[cr] at nz;rw[←nz];(refine eK ?_)
  ((refine bk rfl (aY rfl aM) ?_))
  exact ag.aU.refl _
theorem VF{α:Type}{D E:List α}{k:Nat}{d e:α}(h:D.take k=E.take k)(g1:D[k]?=some d)(g2:E[k]?=some e):(d=e→D.take (k+1)=E.take (k+1))∧(d≠e→D≠E):=by
 refine⟨fun hd => ?_,fun hd e4=>hd ?_⟩
 ·rw[jL (bq.1 g1).1,jL (bq.1 g2).1,(bq.1 g1).2,(bq.1 g2).2,h,hd]
 ·rw[e4,g2] at g1;exact(lA g1).symm
def WW(D E:List Int)(n:Nat)(az:List (Nat×ag))(aR:List (Nat×List AC)):Prop :=
 ∃(k:Nat) (db:Int),k≤D.length∧n=D.length-k∧db=k∧D.take k=E.take k∧aR=[]∧az=[(0,iI D),(1,iI E),(12,aL D.length),(13,aL db)]
theorem ahF{D E:List Int}(hd:D.length≤1000000):aO ah 161 [iI D,iI E] (bl (decide (D=E))):=by
 by_cases al:(D.length:Int)=E.length
 ·have ads:D.length=E.length:=by omega
  refine bo (f:=161) Tryz.func161 rfl rfl rfl rfl ?_;(refine eK ?_);refine oE 26 (WW D E) D.length _ [] ⟨0,0,dk _,rfl,rfl,rfl,rfl,rfl⟩ rfl ⟨rfl,rfl,rfl,rfl,trivial⟩ trivial rfl ?_;rintro n az aR ⟨k,db,ae,rfl,jf,nz,rfl,rfl⟩ bz;clear bz
  by_cases aj:k<D.length
  ·have q2:db<(D.length:Int):=by omega
   have q3:0≤db:=by omega
   have q4:db<(E.length:Int):=by omega
   obtain⟨d,g1⟩:∃d,D[k]?=some d:=⟨_,bB aj⟩;obtain⟨e,g2⟩:∃e,E[k]?=some e:=⟨_,bB (by omega)⟩;have gQ:=oN jf g1;have uA:=oN jf g2;have st:=VF nz g1 g2
   by_cases he:d=e
   ·have aC:=st.1 he;(refine eK ?_);exact⟨D.length-(k+1),_,[],by omega,⟨k+1,db+1,by omega,rfl,by omega,aC,rfl,rfl⟩,rfl,⟨rfl,rfl,rfl,rfl,trivial⟩,trivial,rfl⟩
   ·rw[cc (st.2 he)];(refine eK ?_)
    ((refine bk rfl (aY rfl aM) ?_))
    exact ag.aU.refl _
  ·have q2:¬db<(D.length:Int):=by omega
   rw[fL (by omega),fL (by omega)] at nz;rw[b5 nz];(refine eK ?_)
   ((refine bk rfl (aY rfl aM) ?_))
   exact ag.aU.refl _
 ·rw[cc (show ¬D=E from fun e=>al (by rw[e]))];refine bo (f:=161) Tryz.func161 rfl rfl rfl rfl ?_;(refine eK ?_)
  ((refine bk rfl (aY rfl aM) ?_))
  exact ag.aU.refl _
def WX(D E:List aq)(n:Nat)(az:List (Nat×ag))(aR:List (Nat×List AC)):Prop :=
 ∃(k:Nat) (db:Int),k≤D.length∧n=D.length-k∧db=k∧D.take k=E.take k∧aR=[]∧az=[(0,fF D),(1,fF E),(12,aL D.length),(13,aL db)]
theorem Ls{D E:List aq}(hd:D.length≤1000000):aO ah 93 [fF D,fF E] (bl (decide (D=E))):=by
 by_cases al:(D.length:Int)=E.length
 ·have ads:D.length=E.length:=by omega
  refine bo (f:=93) Tryz.func93 rfl rfl rfl rfl ?_;(refine eK ?_);refine oE 26 (WX D E) D.length _ [] ⟨0,0,dk _,rfl,rfl,rfl,rfl,rfl⟩ rfl ⟨rfl,rfl,rfl,rfl,trivial⟩ trivial rfl ?_;rintro n az aR ⟨k,db,ae,rfl,jf,nz,rfl,rfl⟩ bz;clear bz
  by_cases aj:k<D.length
  ·have q2:db<(D.length:Int):=by omega
   have q3:0≤db:=by omega
   have q4:db<(E.length:Int):=by omega
   obtain⟨x,y,g1⟩:∃x y,D[k]?=some (x,y):=⟨_,_,bB aj⟩;obtain⟨z,w,g2⟩:∃z w,E[k]?=some (z,w):=⟨_,_,bB (by omega)⟩;have gQ:=oO jf g1;have uA:=oO jf g2;have st:=VF nz g1 g2;cases he:dE x y z w with
   | true =>
    have aC:=st.1 (by obtain⟨rfl,rfl⟩:=qY.1 he;rfl);(refine eK ?_);exact⟨D.length-(k+1),_,[],by omega,⟨k+1,db+1,by omega,rfl,by omega,aC,rfl,rfl⟩,rfl,⟨rfl,rfl,rfl,rfl,trivial⟩,trivial,rfl⟩
   | false =>
    rw[cc (st.2 fun e=>by
     have:=qY.2 (⟨congrArg Prod.fst e,congrArg Prod.snd e⟩:x=z∧y=w);rw[he] at this;cases this)]
    (refine eK ?_)
    ((refine bk rfl (aY rfl aM) ?_))
    exact ag.aU.refl _
  ·have q2:¬db<(D.length:Int):=by omega
   rw[fL (by omega),fL (by omega)] at nz;rw[b5 nz];(refine eK ?_)
   ((refine bk rfl (aY rfl aM) ?_))
   exact ag.aU.refl _
 ·rw[cc (show ¬D=E from fun e=>al (by rw[e]))];refine bo (f:=93) Tryz.func93 rfl rfl rfl rfl ?_;(refine eK ?_)
  ((refine bk rfl (aY rfl aM) ?_))
  exact ag.aU.refl _
theorem ae6:WI:=by
 intro V W D E h1 h2 ar aK;have a7:=Ls (D:=V) (E:=W) (by omega);have bK:=ahF (D:=D) (E:=E) (by omega);generalize decide (V=W)=p1 at *;generalize decide (D=E)=p2 at *;cases p1 with
 | false =>
  refine bo (f:=95) Tryz.func95 rfl rfl rfl rfl ?_;(refine cK ?_)
  ((refine bk rfl (aY rfl aM) ?_))
  exact ag.aU.refl _
 | true =>
  refine bo (f:=95) Tryz.func95 rfl rfl rfl rfl ?_;(refine cK ?_)
  ((refine bk rfl (aY rfl aM) ?_))
  exact ag.aU.refl _
def n1(r:Int)(L:List aq)(x y:Int):List aq:=if 0≤ht L x y then L else if r≤(L.length:Int) then L else L++[(x,y)]
def kQ(r:Int)(L:List aq)(x y:Int):Bool:=if 0≤ht L x y then false else if r≤(L.length:Int) then false else true
def n0(r:Int)(L:List aq)(x y:Int):Int:=if 0≤ht L x y then 0 else if r≤(L.length:Int) then 90 else 0
theorem sB{L:List aq}{x y:Int}:0≤ht L x y↔(x,y)∈L:=by
 unfold ht;cases h:L.findIdx? fun e=>decide (e.1=x)&&decide (e.2=y) with
 | none =>
  rw[List.findIdx?_eq_none_iff] at h;refine⟨fun aJ=>absurd aJ (by decide),fun aJ => ?_⟩;have:=h _ aJ;simp at this
 | some k =>
  obtain⟨ae,h1,_⟩:=List.findIdx?_eq_some_iff_getElem.1 h;simp only[eg,cT] at h1;refine⟨fun _ => ?_,fun _=>Int.natCast_nonneg k⟩;have:L[k]=(x,y):=Prod.ext h1.1 h1.2;rw[←this];exact List.getElem_mem ae
abbrev Ai:=Int→List aq→Value→dV→Prop
def WD(rW:Ai):Prop:=∀n:Int,HY ah 60 [aL n] fun p S=>∃b,p=bJ b∧rW (rE n) [] p S
def Wy(rW:Ai):Prop:=∀(r:Int) L b S (x y:Int),rW r L (bJ b) S→L.length≤1100→x6 ah 146 [aQ (bJ b),bn x y] (bJ b) S fun v S'=>v = .ck [.one (.c (.bool (kQ r L x y))),.one (.c (.int .i64 (n0 r L x y)))]∧rW r (n1 r L x y) (bJ b) S'
def WH(rW:Ai):Prop:=∀(r:Int) L b S,rW r L (bJ b) S→L.length≤1100→x6 ah 62 [aQ (bJ b)] (bJ b) S fun v S'=>v=aL r∧rW r L (bJ b) S'
def WE(rW:Ai):Prop:=∀(r:Int) L b S (x y:Int),rW r L (bJ b) S→L.length≤1100→x6 ah 203 [aQ (bJ b),bn x y] (bJ b) S fun v S'=>∃k:Int,v = .ck [.one (.c (.int .i64 k)),.one (.c (.bool (decide (0≤ht L x y))))]∧(0≤ht L x y→k=ht L x y)∧rW r L (bJ b) S'
end Go.Proofs.YtklpfooafbjnpaaGreat
namespace Go.Proofs.YtklpfooafbjnpaaGreat
def fq(l:List dH)(x y:Int):Nat:=(vy l x y).length
theorem TJ(l:List dH)(x y:Int):fq l x y≤l.length:=ajo l x y
theorem zf:∀ {l:List dH} (h:lh l) (x y:Int) (k:Nat) (e:dH),l[k]?=some e→(k<fq l x y↔nJ e.1 e.2.1 x y=true)
 | [],_,_,_,k,e,ae=>by simp at ae
 | f::l,h,x,y,k,e,ae=>by
  have ak:=kh.1 h
  by_cases aw:nJ f.1 f.2.1 x y=true
  ·have hp:fq (f::l) x y=fq l x y+1:=by
    unfold fq vy;rw[List.filter_cons,if_pos aw];rfl
   rw[hp];cases k with
   | zero=>simp at ae;subst ae;simp[aw]
   | succ k =>
    have:=zf ak.2 x y k e (by simpa using ae);rw[←this];omega
  ·have dL:∀g∈f::l,¬nJ g.1 g.2.1 x y=true:=by
    intro g au;rcases fg.1 au with rfl|au
    ·exact aw
    ·have h1:=ak.1 g au;rw[qn] at h1 aw ⊢;omega
   have hp:fq (f::l) x y=0:=by
    unfold fq vy;rw[List.filter_eq_nil_iff.2 dL];rfl
   rw[hp];have:=dL e (cM ae);simp[this]
theorem Mv{l:List dH}(h:lh l){x y:Int}:∀e∈l.take (fq l x y),nJ e.1 e.2.1 x y=true:=by
 intro e he;obtain⟨k,ae⟩:=kF he;have a8:=(bq.1 ae).1;rw[dY] at a8;rw[gp (by omega)] at ae;exact(zf h x y k e ae).1 (by omega)
theorem OQ{l:List dH}(h:lh l){x y:Int}:∀e∈l.drop (fq l x y),¬nJ e.1 e.2.1 x y=true:=by
 intro e he;obtain⟨k,ae⟩:=kF he;rw[gN] at ae;intro a8;have:=(zf h x y _ e ae).2 a8;omega
theorem TX{l:List dH}(h:lh l){x y:Int}:vy l x y=l.take (fq l x y):=by
 conv=>lhs;rw[←kg (fq l x y) l]
 unfold vy;rw[List.filter_append,List.filter_eq_self.2 (Mv h),List.filter_eq_nil_iff.2 (OQ h),nb]
theorem E2{l:List dH}(h:lh l){x y:Int}:iu l x y=true↔∃u,l[fq l x y]?=some (x,y,u):=by
 constructor
 ·intro aZ;unfold iu at aZ;rw[List.any_eq_true] at aZ;obtain⟨e,he,aj⟩:=aZ;simp only[eg,cT] at aj;obtain⟨k,ae⟩:=kF he;have h1:=zf h x y k e ae;have h2:¬k<fq l x y:=by rw[h1,qn];omega
  have yF:=(bq.1 ae).1;have nB:fq l x y<l.length:=by omega
  have hp:=bB nB;have ar:=zf h x y _ _ hp
  by_cases e':k=fq l x y
  ·refine⟨e.2.2,?_⟩;rw[←e',ae];exact congrArg some (Prod.ext aj.1 (Prod.ext aj.2 rfl))
  ·exfalso;have aK:=List.pairwise_iff_getElem.1 h (fq l x y) k nB yF (by omega);have hX:l[k]=e:=(bq.1 ae).2;rw[hX,qn] at aK;have bX:nJ l[fq l x y].1 l[fq l x y].2.1 x y=true:=by rw[qn];omega
   have:=ar.2 bX;omega
 ·rintro⟨u,hu⟩;exact List.any_eq_true.2 ⟨_,cM hu,by simp⟩
theorem aao{l:List dH}(h:lh l){x y:Int}(aA:iu l x y=false):∀e∈l.drop (fq l x y),nJ x y e.1 e.2.1=true:=by
 intro e he;have h1:=OQ h e he
 have h2:¬(e.1=x∧e.2.1=y):=by
  rintro⟨ar,aK⟩;have:iu l x y=true:=List.any_eq_true.2 ⟨_,ow he,by simp[ar,aK]⟩;rw[aA] at this;cases this
 rw[qn] at *;omega
theorem TY{l:List dH}(h:lh l){x y v:Int}(aA:iu l x y=false):tY l x y v=l.take (fq l x y)++(x,y,v)::l.drop (fq l x y):=by
 unfold tY;rw[TX h];congr 2
 conv=>lhs;rw[←kg (fq l x y) l]
 unfold Gy;rw[List.filter_append,List.filter_eq_self.2 (aao h aA),List.filter_eq_nil_iff.2 fun e he => ?_,ue];have:=Mv h e he;rw[qn] at *;omega
theorem ajp{l:List dH}(h:lh l){x y v u:Int}(hp:l[fq l x y]?=some (x,y,u)):tY l x y v=l.take (fq l x y)++(x,y,v)::l.drop (fq l x y+1):=by
 unfold tY;rw[TX h];congr 2;have al:=(bq.1 hp).1;have he:=(bq.1 hp).2
 conv=>lhs;rw[←kg (fq l x y) l]
 unfold Gy;rw[List.filter_append,List.filter_eq_nil_iff.2 (fun e he=>by have:=Mv h e he;rw[qn] at *;omega),ue,jK al,he,List.filter_cons_of_neg (by rw[qn];simp)];refine List.filter_eq_self.2 fun e hm => ?_;obtain⟨k,ae⟩:=kF hm;rw[gN] at ae;have yF:=(bq.1 ae).1;have aK:=List.pairwise_iff_getElem.1 h (fq l x y) _ al yF (by omega);rw[he,(bq.1 ae).2] at aK;exact aK
theorem al6{l:List dH}(h:lh l){x y u:Int}(hp:l[fq l x y]?=some (x,y,u)):iu l x y=true∧pK l x y=u:=VW h (cM hp)
abbrev ajh(e:dH):aq:=(e.1,e.2.1)
def qm:Nat→List aq→List dH
 | _,[]=>[]
 | k,p::l=>(p.1,p.2,(k:Int))::qm (k+1) l
theorem SG:∀(k:Nat) (l:List aq) (p:aq),qm k (l++[p])=qm k l++[(p.1,p.2,((k+l.length:Nat):Int))]
 | k,[],p=>by simp[qm]
 | k,q::l,p=>by
  simp only[uc,qm,SG (k+1) l p,hb];rw[show k+1+l.length=k+(l.length+1) by omega]
theorem SH:∀(k:Nat) (l:List aq),(qm k l).map ajh=l
 | _,[]=>rfl
 | k,p::l=>by simp only[qm,hO,SH (k+1) l]
theorem ag2(k:Nat)(l:List aq):(qm k l).length=l.length:=by
 have:=congrArg List.length (SH k l);rwa [iD] at this
theorem Lk:∀(k:Nat) (l:List aq) (x y w:Int),(x,y,w)∈qm k l↔∃i:Nat,l[i]?=some (x,y)∧w=((k+i:Nat):Int)
 | k,[],x,y,w=>by simp[qm]
 | k,p::l,x,y,w=>by
  rw[qm,fg,Lk (k+1) l x y w]
  constructor
  ·rintro (h|⟨i,h1,h2⟩)
   ·simp only[Prod.mk.injEq] at h;exact⟨0,by rw[vB,h.1,h.2.1],by rw[h.2.2];rfl⟩
   ·exact⟨i+1,by rw[zj];exact h1,by rw[h2];omega⟩
  ·rintro⟨i,h1,h2⟩
   match i with
   | 0=>rw[vB] at h1;cases h1;exact .inl (by rw[h2];rfl)
   | i+1=>rw[zj] at h1;exact .inr ⟨i,h1,by rw[h2];omega⟩
def pb(L:List aq)(es:List dH):Prop:=lh es∧es.Perm (qm 0 L)∧L.Nodup
theorem pb.len{L:List aq}{es:List dH}(h:pb L es):es.length=L.length:=by rw[h.2.1.length_eq,ag2]
theorem ag3{L:List aq}(aA:L.Nodup){i:Nat}{x y:Int}(h:L[i]?=some (x,y)):ht L x y=(i:Int):=by
 have aE:0≤ht L x y:=sB.2 (cM h);unfold ht at aE ⊢;cases aw:L.findIdx? fun e=>decide (e.1=x)&&decide (e.2=y) with
 | none=>rw[aw] at aE;exact absurd aE (by decide)
 | some k =>
  obtain⟨ae,h1,_⟩:=List.findIdx?_eq_some_iff_getElem.1 aw;simp only[eg,cT] at h1;have aH:L[k]=(x,y):=Prod.ext h1.1 h1.2;obtain⟨hi,aN⟩:=bq.1 h;have:=(List.getElem_inj (h₀:=ae) (h₁:=hi) aA).1 (aH.trans aN.symm);rw[this]
theorem aco{es:List dH}{a b:Int}:iu es a b=true↔∃w,(a,b,w)∈es:=by
 unfold iu;rw[List.any_eq_true]
 constructor
 ·rintro⟨⟨p,q,w⟩,h1,h2⟩;simp only[eg,cT] at h2;exact⟨w,by rw[←h2.1,←h2.2];exact h1⟩
 ·rintro⟨w,h⟩;exact⟨_,h,by simp⟩
theorem pb.num{L:List aq}{es:List dH}(h:pb L es)(x y:Int):iu es x y=decide (0≤ht L x y)∧(0≤ht L x y→pK es x y=ht L x y):=by
 by_cases aZ:0≤ht L x y
 ·obtain⟨i,hi⟩:=kF (sB.1 aZ);have hm:(x,y,((0+i:Nat):Int))∈es:=h.2.1.mem_iff.2 ((Lk 0 L x y _).2 ⟨i,hi,rfl⟩);have h1:=VW h.1 hm;exact⟨by rw[h1.1,b5 aZ],fun _=>by rw[h1.2,ag3 h.2.2 hi,ib]⟩
 ·refine⟨?_,fun aJ=>absurd aJ aZ⟩;rw[cc aZ];cases he:iu es x y with
  | false=>rfl
  | true =>
   obtain⟨w,hw⟩:=aco.1 he;obtain⟨i,hi,_⟩:=(Lk 0 L x y w).1 (h.2.1.mem_iff.1 hw);exact absurd (sB.2 (cM hi)) aZ
theorem pb.add{L:List aq}{es:List dH}(h:pb L es){x y:Int}(aA:¬ 0≤ht L x y):pb (L++[(x,y)]) (tY es x y L.length):=by
 have cA:iu es x y=false:=by rw[(h.num x y).1];exact cc aA
 refine⟨ajq h.1 x y L.length,?_,?_⟩
 ·rw[TY h.1 cA,SG,ib];refine List.perm_middle.trans ?_;rw[kg];refine(h.2.1.cons _).trans ?_;exact(List.perm_append_singleton _ _).symm
 ·rw[List.nodup_append];refine⟨h.2.2,by simp,fun a aX b aa e => ?_⟩;rw[jJ] at aa;subst aa;subst e;exact aA (sB.2 aX)
theorem pb.nil:pb [] []:=⟨.nil,.refl _,.nil⟩
theorem Yb{r:Int}{L:List aq}{x y:Int}(h:0≤ht L x y):n1 r L x y=L∧kQ r L x y=false∧n0 r L x y=0:=by unfold n1 kQ n0;rw[if_pos h,if_pos h,if_pos h];exact⟨rfl,rfl,rfl⟩
theorem Ya{r:Int}{L:List aq}{x y:Int}(h:¬ 0≤ht L x y)(h2:r≤(L.length:Int)):n1 r L x y=L∧kQ r L x y=false∧n0 r L x y=90:=by unfold n1 kQ n0;rw[if_neg h,if_neg h,if_neg h,if_pos h2,if_pos h2,if_pos h2];exact⟨rfl,rfl,rfl⟩
theorem Yc{r:Int}{L:List aq}{x y:Int}(h:¬ 0≤ht L x y)(h2:¬r≤(L.length:Int)):n1 r L x y=L++[(x,y)]∧kQ r L x y=true∧n0 r L x y=0:=by unfold n1 kQ n0;rw[if_neg h,if_neg h,if_neg h,if_neg h2,if_neg h2,if_neg h2];exact⟨rfl,rfl,rfl⟩
end Go.Proofs.YtklpfooafbjnpaaGreat
namespace Go.Proofs.YtklpfooafbjnpaaGreat
open Go.RowKit
abbrev hN(v:Value)(l:List dH):bE:=⟨293,3,v,l.length,eC l⟩
end Go.Proofs.YtklpfooafbjnpaaGreat
namespace Go.Proofs.YtklpfooafbjnpaaGreat
theorem SX{a1 a2 b1 b2 p1 p2:Int}(h:cq a1 a2 b1 b2 p1 p2=0):(b2-a2)*a1+(a1-b1)*a2=(b2-a2)*p1+(a1-b1)*p2:=by unfold cq at h;grind
theorem SZ{a1 a2 b1 b2 c1 c2 d1 d2 p1 p2:Int}(h:cq a1 a2 b1 b2 p1 p2=0)(k:cq c1 c2 d1 d2 p1 p2=0) :
  k0 a1 a2 b1 b2 c1 c2 d1 d2=p1*du a1 a2 b1 b2 c1 c2 d1 d2∧k1 a1 a2 b1 b2 c1 c2 d1 d2=p2*du a1 a2 b1 b2 c1 c2 d1 d2:=by
 have e:=SX h;have f:=SX k;unfold k0 k1 du;rw[e,f]
 constructor <;> grind
theorem Ge(p w:Int):kE (p*w) w=p*jE w:=by
 unfold kE jE
 split
 ·rw[Int.mul_neg]
 ·rfl
theorem Ed{p d a b:Int}(aE:hK a b≤p)(h1:p≤hJ a b)(hd:0<d):mb (p*d) d a b :=
 ⟨qx aE (by omega),qx h1 (by omega)⟩
theorem Pj{a1 a2 b1 b2 c1 c2 d1 d2 p1 p2 d:Int}(h:dJ p1 p2 a1 a2 b1 b2)(k:dJ p1 p2 c1 c2 d1 d2)(hd:0<d):four a1 a2 b1 b2 c1 c2 d1 d2 (p1*d) (p2*d) d :=
 ⟨Ed h.2.1 h.2.2.1 hd,Ed h.2.2.2.1 h.2.2.2.2 hd,Ed k.2.1 k.2.2.1 hd,Ed k.2.2.2.1 k.2.2.2.2 hd⟩
theorem agE{a1 a2 b1 b2 c1 c2 d1 d2:Int}(h:du a1 a2 b1 b2 c1 c2 d1 d2=0) :
  (jn a1 a2 b1 b2 c1 c2 d1 d2=iR∧∀p1 p2,dJ p1 p2 a1 a2 b1 b2→¬dJ p1 p2 c1 c2 d1 d2) ∨
  ∃f1 f2 g1 g2,jn a1 a2 b1 b2 c1 c2 d1 d2=w6 f1 f2 g1 g2∧dM f1 f2 g1 g2∧dJ f1 f2 a1 a2 b1 b2∧dJ f1 f2 c1 c2 d1 d2∧dJ g1 g2 a1 a2 b1 b2∧dJ g1 g2 c1 c2 d1 d2
   ∧ f1=en (eZ a1 a2 b1 b2) (eH a1 a2 b1 b2) (eZ c1 c2 d1 d2) (eH c1 c2 d1 d2)∧f2=eh (eZ a1 a2 b1 b2) (eH a1 a2 b1 b2) (eZ c1 c2 d1 d2) (eH c1 c2 d1 d2)
   ∧ g1=eZ (en a1 a2 b1 b2) (eh a1 a2 b1 b2) (en c1 c2 d1 d2) (eh c1 c2 d1 d2)∧g2=eH (en a1 a2 b1 b2) (eh a1 a2 b1 b2) (en c1 c2 d1 d2) (eh c1 c2 d1 d2)
   ∧ ∀p1 p2,dJ p1 p2 a1 a2 b1 b2→dJ p1 p2 c1 c2 d1 d2→dM f1 f2 p1 p2∧dM p1 p2 g1 g2:=by
 have hs:=yV a1 a2 b1 b2;have aC:=yV c1 c2 d1 d2
 have hw:qp (eZ a1 a2 b1 b2) (eH a1 a2 b1 b2) (en a1 a2 b1 b2) (eh a1 a2 b1 b2) (eZ c1 c2 d1 d2) (eH c1 c2 d1 d2) (en c1 c2 d1 d2) (eh c1 c2 d1 d2)=0:=by
  have h1:=Hi a1 a2 b1 b2 c1 c2 d1 d2;have h2:=Dc a1 a2 b1 b2 c1 c2 d1 d2;have ar:=Dc b1 b2 a1 a2 c1 c2 d1 d2;rw[←V0];rcases oP a1 a2 b1 b2 with ⟨h1,h2,ar,aK,_⟩|⟨h1,h2,ar,aK,_⟩ <;> rcases oP c1 c2 d1 d2 with ⟨bD,cm,jB,lv,_⟩|⟨bD,cm,jB,lv,_⟩ <;> rw[h1,h2,ar,aK,bD,cm,jB,lv] <;> omega
 have zB:∀p1 p2,dJ p1 p2 (eZ a1 a2 b1 b2) (eH a1 a2 b1 b2) (en a1 a2 b1 b2) (eh a1 a2 b1 b2)↔dJ p1 p2 a1 a2 b1 b2:=fun _ _=>Cu;have tO9:∀p1 p2,dJ p1 p2 (eZ c1 c2 d1 d2) (eH c1 c2 d1 d2) (en c1 c2 d1 d2) (eh c1 c2 d1 d2)↔dJ p1 p2 c1 c2 d1 d2:=fun _ _=>Cu;unfold jn;rw[if_pos h];unfold w7 inl;generalize eZ a1 a2 b1 b2=s1 at *;generalize eH a1 a2 b1 b2=s2 at *;generalize en a1 a2 b1 b2=bV at *;generalize eh a1 a2 b1 b2=b8 at *;generalize eZ c1 c2 d1 d2=t1 at *;generalize eH c1 c2 d1 d2=t2 at *;generalize en c1 c2 d1 d2=t3 at *;generalize eh c1 c2 d1 d2=t4 at *;have key:=fun p1 p2 => @RO s1 s2 bV b8 t1 t2 t3 t4 p1 p2 hs aC hw
 by_cases q:dJ (en s1 s2 t1 t2) (eh s1 s2 t1 t2) s1 s2 bV b8∧dJ (en s1 s2 t1 t2) (eh s1 s2 t1 t2) t1 t2 t3 t4
 ·right;rw[if_pos q];obtain⟨cP,cQ,kL,mC,aoA,alX⟩:=key _ _ q.1 q.2;exact⟨_,_,_,_,rfl,alX,(zB _ _).1 cP,(tO9 _ _).1 cQ,(zB _ _).1 kL,(tO9 _ _).1 mC,rfl,rfl,rfl,rfl,fun p1 p2 hp aj=>⟨(key p1 p2 ((zB _ _).2 hp) ((tO9 _ _).2 aj)).2.2.2.2.1,(key p1 p2 ((zB _ _).2 hp) ((tO9 _ _).2 aj)).2.2.2.2.2⟩⟩
 ·left;rw[if_neg q];exact⟨rfl,fun p1 p2 hp aj=>q ⟨(key p1 p2 ((zB _ _).2 hp) ((tO9 _ _).2 aj)).1,(key p1 p2 ((zB _ _).2 hp) ((tO9 _ _).2 aj)).2.1⟩⟩
theorem ahl{a1 a2 b1 b2 f1 f2 g1 g2 p1 p2:Int}(aw:dJ f1 f2 a1 a2 b1 b2)(au:dJ g1 g2 a1 a2 b1 b2)(hp:dJ p1 p2 a1 a2 b1 b2)(aE:dM f1 f2 p1 p2)(h1:dM p1 p2 g1 g2):dJ p1 p2 f1 f2 g1 g2:=by
 refine(xl (aE.trans h1)).2 ⟨?_,aE,h1⟩
 by_cases e:a1=b1∧a2=b2
 ·obtain⟨rfl,rfl⟩:=e;obtain⟨rfl,rfl⟩:=Ct aw;obtain⟨rfl,rfl⟩:=Ct au;obtain⟨rfl,rfl⟩:=Ct hp;exact Ix ..
 ·have a:=aw.1;have b:=au.1;have c:=hp.1;unfold cq at *;have d1:(b1-a1)*((g1-f1)*(p2-f2)-(g2-f2)*(p1-f1))=0:=by grind
  have d2:(b2-a2)*((g1-f1)*(p2-f2)-(g2-f2)*(p1-f1))=0:=by grind
  rcases ug.1 d1 with e'|e'
  ·rcases ug.1 d2 with f|f
   ·omega
   ·exact f
  ·exact e'
theorem agD(a1 a2 b1 b2 c1 c2 d1 d2:Int) :
  (jn a1 a2 b1 b2 c1 c2 d1 d2=iR∧∀p1 p2,dJ p1 p2 a1 a2 b1 b2→¬dJ p1 p2 c1 c2 d1 d2) ∨
  (∃x y d,jn a1 a2 b1 b2 c1 c2 d1 d2=kd x d y d∧0<d∧(d=1∨d=jE (du a1 a2 b1 b2 c1 c2 d1 d2))∧four a1 a2 b1 b2 c1 c2 d1 d2 x y d∧∀p1 p2,dJ p1 p2 a1 a2 b1 b2→dJ p1 p2 c1 c2 d1 d2→x=p1*d∧y=p2*d) ∨
  (∃f1 f2 g1 g2,jn a1 a2 b1 b2 c1 c2 d1 d2=uH f1 f2 g1 g2∧¬(f1=g1∧f2=g2)∧dM f1 f2 g1 g2∧dJ f1 f2 a1 a2 b1 b2∧dJ f1 f2 c1 c2 d1 d2∧dJ g1 g2 a1 a2 b1 b2∧dJ g1 g2 c1 c2 d1 d2
   ∧ f1=en (eZ a1 a2 b1 b2) (eH a1 a2 b1 b2) (eZ c1 c2 d1 d2) (eH c1 c2 d1 d2)∧f2=eh (eZ a1 a2 b1 b2) (eH a1 a2 b1 b2) (eZ c1 c2 d1 d2) (eH c1 c2 d1 d2)
   ∧ g1=eZ (en a1 a2 b1 b2) (eh a1 a2 b1 b2) (en c1 c2 d1 d2) (eh c1 c2 d1 d2)∧g2=eH (en a1 a2 b1 b2) (eh a1 a2 b1 b2) (en c1 c2 d1 d2) (eh c1 c2 d1 d2)
   ∧ ∀p1 p2,dJ p1 p2 a1 a2 b1 b2→dJ p1 p2 c1 c2 d1 d2→dJ p1 p2 f1 f2 g1 g2):=by
 by_cases h:du a1 a2 b1 b2 c1 c2 d1 d2=0
 ·rcases agE h with ⟨e,aA⟩|⟨f1,f2,g1,g2,e,al,cP,cQ,kL,mC,v1,v2,v3,v4,hp⟩
  ·exact .inl ⟨e,aA⟩
  ·right;rw[e];unfold w6
   by_cases q:f1=g1∧f2=g2
   ·left;rw[if_pos q];refine⟨f1,f2,1,rfl,by omega,.inl rfl,?_,fun p1 p2 aX aa => ?_⟩
    ·have:=Pj cP cQ (d:=1) (by omega);rwa [Int.mul_one,Int.mul_one] at this
    ·obtain⟨bD,cm⟩:=hp p1 p2 aX aa;obtain⟨rfl,rfl⟩:=q;have:=dM.D1 bD cm;omega
   ·right;rw[if_neg q];exact⟨f1,f2,g1,g2,rfl,q,al,cP,cQ,kL,mC,v1,v2,v3,v4,fun p1 p2 aX aa=>ahl cP kL aX (hp p1 p2 aX aa).1 (hp p1 p2 aX aa).2⟩
 ·have hd:=SC h;unfold jn;rw[if_neg h];unfold oq vm
  by_cases q:four a1 a2 b1 b2 c1 c2 d1 d2 (kE (k0 a1 a2 b1 b2 c1 c2 d1 d2) (du a1 a2 b1 b2 c1 c2 d1 d2)) (kE (k1 a1 a2 b1 b2 c1 c2 d1 d2) (du a1 a2 b1 b2 c1 c2 d1 d2)) (jE (du a1 a2 b1 b2 c1 c2 d1 d2))
  ·right;left;rw[if_pos q];refine⟨_,_,_,rfl,hd,.inr rfl,q,fun p1 p2 aX aa => ?_⟩;obtain⟨aH,aN⟩:=SZ aX.1 aa.1;rw[aH,aN,Ge,Ge];exact⟨rfl,rfl⟩
  ·left;rw[if_neg q];refine⟨rfl,fun p1 p2 aX aa=>q ?_⟩;obtain⟨aH,aN⟩:=SZ aX.1 aa.1;rw[aH,aN,Ge,Ge];exact Pj aX aa hd
end Go.Proofs.YtklpfooafbjnpaaGreat
namespace Go.Proofs.YtklpfooafbjnpaaGreat
open Go.RowKit
theorem ama{a1 a2 b1 b2 c1 c2 d1 d2:Int}(aX:c5 a1 a2=true)(aa:c5 b1 b2=true)(ak:c5 c1 c2=true)(hd:c5 d1 d2=true) : -144115188075855872≤du a1 a2 b1 b2 c1 c2 d1 d2∧du a1 a2 b1 b2 c1 c2 d1 d2≤144115188075855872:=by
 rw[ui] at aX aa ak hd;have m1:=F8 (x:=b2-a2) (y:=c1-d1) (by omega) (by omega) (by omega) (by omega);have m2:=F8 (x:=a1-b1) (y:=d2-c2) (by omega) (by omega) (by omega) (by omega);unfold du;omega
theorem Og{n d a b:Int}(h:mb n d a b)(a0 : -134217728≤a)(a1:a≤134217728)(jb : -134217728≤b)(b1:b≤134217728)(d0:0≤d)(d1:d≤144115188075855872) : -19342813113834066795298816≤n∧n≤19342813113834066795298816:=by
 obtain⟨aE,h1⟩:=h;have i0 : -134217728≤hK a b∧hK a b≤134217728:=by unfold hK;split <;> omega
 have i1 : -134217728≤hJ a b∧hJ a b≤134217728:=by unfold hJ;split <;> omega
 have m0:=D8 i0.1 i0.2 (show -144115188075855872≤d by omega) d1;have m1:=D8 i1.1 i1.2 (show -144115188075855872≤d by omega) d1;omega
def Dt(M:fY):Prop:=(M=iR)∨(∃x y d,M=kd x d y d∧0<d∧d≤144115188075855872∧(-19342813113834066795298816≤x∧x≤19342813113834066795298816)∧(-19342813113834066795298816≤y∧y≤19342813113834066795298816))∨(∃f1 f2 g1 g2,M=uH f1 f2 g1 g2)
theorem abE{a1 a2 b1 b2 c1 c2 d1 d2 x y d:Int}(aX:c5 a1 a2=true)(aa:c5 b1 b2=true)(ak:c5 c1 c2=true)(hd:c5 d1 d2=true)(aE:0<d)(h1:d=1∨d=jE (du a1 a2 b1 b2 c1 c2 d1 d2))(aw:four a1 a2 b1 b2 c1 c2 d1 d2 x y d) :
  d≤144115188075855872∧(-19342813113834066795298816≤x∧x≤19342813113834066795298816)∧(-19342813113834066795298816≤y∧y≤19342813113834066795298816):=by
 have cR:=ama aX aa ak hd;rw[ui] at aX aa
 have tA:d≤144115188075855872:=by
  rcases h1 with rfl|rfl
  ·omega
  ·unfold jE;split <;> omega
 exact⟨tA,Og aw.1 aX.1.1 aX.1.2 aa.1.1 aa.1.2 (by omega) tA,Og aw.2.1 aX.2.1 aX.2.2 aa.2.1 aa.2.2 (by omega) tA⟩
theorem agd(a1 a2 b1 b2 c1 c2 d1 d2:Int):Dt (sx a1 a2 b1 b2 c1 c2 d1 d2):=by
 unfold sx
 by_cases h:(c5 a1 a2&&c5 b1 b2&&c5 c1 c2&&c5 d1 d2)=true
 ·rw[if_pos h];simp only[eg] at h;rcases agD a1 a2 b1 b2 c1 c2 d1 d2 with ⟨e,_⟩|⟨x,y,d,e,aE,h1,aw,_⟩|⟨f1,f2,g1,g2,e,_⟩
  ·exact .inl e
  ·exact .inr (.inl ⟨x,y,d,e,aE,abE h.1.1.1 h.1.1.2 h.1.2 h.2 aE h1 aw⟩)
  ·exact .inr (.inr ⟨f1,f2,g1,g2,e⟩)
 ·rw[if_neg h];exact .inl rfl
end Go.Proofs.YtklpfooafbjnpaaGreat
namespace Go.Proofs.YtklpfooafbjnpaaGreat
open Go.RowKit
open Go.Conc
structure iX where
 cap:Nat
 buf:List Value
 shut:Bool
 ns:Nat
 Cp:Nat
def iX.obj(eQ:iX):Obj := .chan eQ.cap eQ.buf.toArray eQ.shut eQ.ns eQ.Cp false
abbrev lF:=Option (Nat×Obj)
def W6(g:lF)(aG:cU)(aP:Nat→Prop)(dG:cU)(dO:Nat→Prop):Prop:=match g with
 | none=>dG=aG∧dO=aP
 | some (c,eQ)=>(∀b,aG.F b→dG.F b)∧dG.F c∧¬aG.F c∧(∀b,dO b→aP b)∧¬dO c∧dG.N=aG.N∧dG.marks=aG.marks∧dG.W.heap[c]?=some eQ∧eR aG dG.W
def fW(g:lF)(aG:cU)(aP:Nat→Prop)(R:aF)(s:aB)(a:Act)(w:World):Prop:=∃dG dO,W6 g aG aP dG dO∧ij dG dO R s a w
section
variable{P:Program}{aG dG:cU}{aP dO A:Nat→Prop}{R ap:aF}{s s':aB}{a a':Act}{w w':World}{ad:Nat→Nat}{g:lF}
theorem eR.comp(h:eR dG w)(aE:eR aG dG.W)(aw:∀b,aG.F b→dG.F b):eR aG w :=
 ⟨h.os.trans aE.os,h.tape.trans aE.tape,h.output.trans aE.output,eO aE.size h.size,fun b q=>(h.block b (aw b q)).trans (aE.block b q)⟩
theorem fW.shut(ad7:∀b,¬aG.F b→aP b)(h:fW g aG aP R s a w):ij aG aP R s a w:=by
 have BO:∀b,aG.W.heap.size≤b→aP b:=fun b q=>ad7 b fun z=>absurd (aG.lt b z) (Nat.not_lt.2 q);obtain⟨dG,dO,au,A,ad,an⟩:=h;cases g with
 | none=>obtain⟨rfl,rfl⟩:=au;exact⟨A,ad,an⟩
 | some x =>
  obtain⟨c,eQ⟩:=x;obtain⟨hF,_,_,ct,_,gi,hm,_,aa⟩:=au;have e:hY aG s ad w=hY dG s ad w:=by unfold hY;rw[hm]
  refine⟨A,ad,BO,fun b q=>ct b (an.sub b q),by rw[e];exact an.rel,fun k cs ae q=>an.hM k cs ae (hF _ q),an.below.comp aa hF,fun i r hi=>⟨(an.rows i r hi).ok,(an.rows i r hi).gV,(an.rows i r hi).own⟩,an.apart,fun i r g hi q=>⟨fun z=>(an.hot i r g hi q).1 (hF _ z),ct _ (an.hot i r g hi q).2⟩,fun k b ae=>an.fP k b (by rw[gi];exact ae)⟩
theorem fW.turn{c:Nat}{eQ Dh:Obj}(h:fW (some (c,eQ)) aG aP R s a w):fW (some (c,Dh)) aG aP R s a {w with heap:=w.heap.setIfInBounds c Dh}:=by
 obtain⟨dG,dO,⟨hF,ak,u5,ct,P1,gi,hm,ab,aa⟩,A,ad,an⟩:=h;have cu:c<dG.W.heap.size:=dG.lt c ak;have aA:∀b,b≠c→∀H:Array Obj,(H.setIfInBounds c Dh)[b]?=H[b]?:=fun b q H=>CD (Ne.symm q);have J7:¬A c:=fun q=>P1 (an.sub c q)
 let w1:World:={w with heap:=w.heap.setIfInBounds c Dh}
 let l5:cU:={dG with W:={dG.W with heap:=dG.W.heap.setIfInBounds c Dh},lt:=fun b q=>by simpa using dG.lt b q}
 have cW:∀b,s.free A ad b→b<w.heap.size→s.free A ad b∧w1.heap[b]?=w.heap[b]?:=fun b q _=>⟨q,aA b (fun e=>J7 (by rw[←e];exact q.1)) _⟩;refine⟨l5,dO,⟨hF,ak,u5,ct,P1,gi,hm,by simp[l5,cu],⟨aa.os,aa.tape,aa.output,by simpa [l5] using aa.size,fun b q => ?_⟩⟩,A,ad,?_⟩
 ·exact(aA b (fun e=>u5 (by rw[←e];exact q)) _).trans (aa.block b q)
 ·have Qo:∀k cs,s.mem k=some cs→ad k≠c:=fun k cs ae e=>an.hM k cs ae (by rw[e];exact ak);refine⟨fun b q=>an.up b (by simpa [l5] using q),an.sub,?_,an.hM,⟨an.below.os,an.below.tape,an.below.output,by simpa [l5] using an.below.size,fun b q => ?_⟩,fun i r hi => ?_,an.apart,an.hot,an.fP⟩
  ·refine⟨an.rel.kD,an.rel.size,fun t av aC => ?_,fun k cs ae => ?_,an.rel.inj,⟨rfl,rfl,rfl,cE _,fun _ _=>rfl⟩,fun b q=>an.rel.up b (by simpa [hY] using q),lP s ad _⟩
   ·obtain⟨v,h1,h2⟩:=an.rel.dq t av aC;exact⟨v,h1,h2.map cW fun _ _=>rfl⟩
   ·obtain⟨vs,ty,h1,h2,ar⟩:=an.rel.c3 k cs ae;exact⟨vs,ty,(aA _ (Qo k cs ae) _).trans h1,h2.map cW fun _ _ _ _=>rfl,fun q=>ar ⟨by simpa [hY] using q.1,q.2⟩⟩
  ·by_cases e:b=c
   ·subst e;have h1:b<w.heap.size:=ke cu an.below.size;simp[l5,cu,h1]
   ·exact(aA b e _).trans ((an.below.block b q).trans (aA b e _).symm)
  ·have aD:=an.rows i r hi;refine⟨aD.ok.kept aD.gV (fun g q=>aA g (fun e=>(an.hot i r g hi q).1 (by rw[e];exact ak)) _) (by simp) cW,aD.gV,aD.own⟩
theorem fW.look{c:Nat}{eQ:Obj}(h:fW (some (c,eQ)) aG aP R s a w):w.heap[c]?=some eQ:=by
 obtain⟨dG,dO,⟨_,ak,_,_,_,_,_,ab,_⟩,A,ad,an⟩:=h;exact(an.below.block c ak).trans ab
def iY(P:Program)(x:Code)(Q:Exit→lF→aF→aB→Prop)(g:lF)(R:aF)(s:aB):Prop :=
 s.bM→∀aG aP a w,(∀b,¬aG.F b→aP b)→fW g aG aP R s a w→nI P x (fun e a' w'=>∃cZ ap s',s'.bM∧fW cZ aG aP ap s' a' w'∧Q e cZ ap s') a w
variable{Q:Exit→lF→aF→aB→Prop}{x y:Code}
theorem A3(h:e3 P x (fun e R s=>Q e g R s) R s):iY P x Q g R s:=by
 rintro ok aG aP a w hu ⟨dG,dO,au,an⟩;refine xe (Sm (h ok dG dO a w an).top) ?_;rintro e a' w' ⟨ap,s',bU,bu,aj⟩;exact⟨g,ap,s',bU,⟨dG,dO,au,bu⟩,aj⟩
theorem L3{Q:Exit→aF→aB→Prop}(h:iY P x (fun e _ R s=>Q e R s) none R s):HW P x Q R s:=by
 intro ok aG aP a w hu an;refine xe (h ok aG aP a w hu ⟨aG,aP,⟨rfl,rfl⟩,an⟩) ?_;rintro e a' w' ⟨cZ,ap,s',bU,bu,aj⟩;exact⟨ap,s',bU,bu.shut hu,aj⟩
def A5(next:lF→aF→aB→Prop)(Q:Exit→lF→aF→aB→Prop):Exit→lF→aF→aB→Prop
 | .normal,g,R,s=>next g R s
 | e,g,R,s=>Q e g R s
def A4(id:Nat)(Q:Exit→lF→aF→aB→Prop):Exit→lF→aF→aB→Prop
 | .exit iz,g,R,s=>bif Nat.beq iz id then Q .normal g R s else Q (.exit iz) g R s
 | e,g,R,s=>Q e g R s
theorem n6(h:iY P x (A5 (fun g R s=>iY P y Q g R s) Q) g R s):iY P (.seq x y) Q g R s:=by
 intro ok aG aP a w hu cb;refine agL (xe (h ok aG aP a w hu cb) ?_);rintro x a' w' ⟨cZ,ap,s',bU,hG,aj⟩;cases x <;> first|exact aj bU aG aP a' w' hu hG|exact⟨cZ,ap,s',bU,hG,aj⟩
theorem uZ{id:Nat}(h:iY P x (A4 id Q) g R s):iY P (.block id x) Q g R s:=by
 intro ok aG aP a w hu cb;refine agH (xe (h ok aG aP a w hu cb) ?_);rintro x a' w' ⟨cZ,ap,s',bU,hG,aj⟩;cases x with
 | exit iz =>
  simp only[Exit.inBlock];simp only[A4] at aj;cases aa:Nat.beq iz id with
  | true=>rw[aa] at aj;rw[if_pos (gn aa)];exact⟨cZ,ap,s',bU,hG,aj⟩
  | false =>
   rw[aa] at aj;have:iz≠id:=fun e=>by subst e;rw[qv] at aa;cases aa
   rw[if_neg this];exact⟨cZ,ap,s',bU,hG,aj⟩
 | _=>exact⟨cZ,ap,s',bU,hG,aj⟩
theorem fW.rr(h:fW g aG aP R s a w):∃dG dO,ij dG dO R s a w:=let ⟨dG,dO,_,h⟩:=h;⟨dG,dO,h⟩
theorem Ps{c:Operand}{b:Bool}(ak:s.look c=some (bl b))(h1:b=true→iY P x Q g R s)(aE:b=false→iY P y Q g R s):iY P (.cond c x y) Q g R s:=by
 intro ok aG aP a w hu ew;obtain⟨_,_,A,ad,an⟩:=ew.rr;refine agI (an.rel.look ak).1 ?_;cases b with
 | true=>exact h1 rfl ok aG aP a w hu ew
 | false=>exact aE rfl ok aG aP a w hu ew
theorem Jb{c:Operand}{b:Bool}(ak:s.look c=some (bl b))(aa:b=true)(h1:iY P x Q g R s):iY P (.cond c x y) Q g R s:=Ps ak (fun _=>h1) fun e=>by rw[aa] at e;cases e
theorem Ja{c:Operand}{b:Bool}(ak:s.look c=some (bl b))(aa:b=false)(aE:iY P y Q g R s):iY P (.cond c x y) Q g R s:=Ps ak (fun e=>by rw[aa] at e;cases e) fun _=>aE
theorem fW.le(h:fW g aG aP R s a w)(KS:bc ap R):fW g aG aP ap s a w:=let ⟨dG,dO,au,A,ad,h⟩:=h;⟨dG,dO,au,A,ad,h.le KS⟩
theorem fW.qh(h:fW g aG aP R s a w)(l:s.aU s'):fW g aG aP R s' a w:=let ⟨dG,dO,au,A,ad,h⟩:=h;⟨dG,dO,au,A,ad,h.qh l⟩
theorem Jc(N:Nat)(I:Nat→lF→aF→List (Nat×ag)→List (Nat×List AC)→Prop)(k:Nat)(R0:aF)(az:List (Nat×ag))(aR:List (Nat×List AC))(bf:I k g R0 az aR)(al:bc R0 R)(aA:N=s.n)(aC:hW s.tmps az)(hm:hW s.mem aR)(bz:okB az aR=true)
  (round:∀k g R az aR,I k g R az aR→okB az aR=true→iY P x (A5 (fun cZ ap s'=>∃k' lf hA hq,k'<k∧I k' cZ lf hA hq∧bc lf ap∧N=s'.n∧hW s'.tmps hA∧hW s'.mem hq∧okB hA hq=true) Q) g R (ei N az aR)):iY P (.loop x) Q g R s:=by
 intro ok aG aP a w hu ew;refine agJ (fun k a w=>∃g R az aR,I k g R az aR∧okB az aR=true∧fW g aG aP R (ei N az aR) a w) (n:=k) ⟨g,R0,az,aR,bf,bz,(ew.le al).qh (rf aA aC hm)⟩ ?_;rintro k a w ⟨g,R,az,aR,bf,ok,cb⟩;refine xe (round k g R az aR bf ok (rh ok) aG aP a w hu cb) ?_;rintro x a' w' ⟨cZ,ap,s',bU,hG,aj⟩;cases x with
 | normal =>
  obtain⟨k',lf,hA,hq,h1,h2,ar,aK,bX,fb,kT⟩:=aj;exact⟨k',h1,cZ,lf,hA,hq,h2,kT,(hG.le ar).qh (rf aK bX fb)⟩
 | _=>exact⟨cZ,ap,s',bU,hG,aj⟩
def ku(P:Program)(ops:Array Oper)(K:lF→aF→aB→Prop)(k:Nat)(l:List Oper)(g:lF)(R:aF)(s:aB):Prop :=
 (∀j:Nat,l[j]?=ops[k+j]?)→s.bM→∀aG aP a w,(∀b,¬aG.F b→aP b)→fW g aG aP R s a w →
  rl P ops (fun e a' w'=>e = .normal∧∃cZ ap s',s'.bM∧fW cZ aG aP ap s' a' w'∧K cZ ap s') ((List.range l.length).map (k + ·)) a w
variable{K:lF→aF→aB→Prop}{ops:Array Oper}{k:Nat}{l rest:List Oper}{o:Oper}
theorem n5{id:Nat}(h:ku P l.toArray (fun g R s=>Q .normal g R s) 0 l g R s):iY P (.region id l.toArray false) Q g R s:=by
 intro ok aG aP a w hu ew;have:=h (by simp) ok aG aP a w hu ew;refine agK (?_:rl P l.toArray _ (List.range l.toArray.size) a w);simp only[ib,List.map_id'] at this;rw[List.size_toArray];intro b k cs aa;obtain⟨e,a',w',⟨rfl,aj⟩,r⟩:=this b k cs aa;exact⟨.normal,a',w',aj,r⟩
theorem mN(h:K g R s):ku P ops K k [] g R s:=fun _ ok aG aP a w hu ew=>agF ⟨rfl,g,R,s,ok,ew,h⟩
theorem vC(k n:Nat):(List.range (n+1)).map (k + ·)=k::(List.range n).map (k+1 + ·):=by
 rw[List.range_succ_eq_map,hO,List.map_map];congr 1;exact nM fun j _=>by simp[ox,oy 1 j]
theorem uY(al:∀j:Nat,(o::rest)[j]?=ops[k+j]?):ops[k]?=some o∧∀j:Nat,rest[j]?=ops[k+1+j]? :=
 ⟨by simpa using (al 0).symm,fun j=>by have:=al (j+1);simpa [ox,oy 1 j] using this⟩
theorem abc(h:ts P ops none o (fun R s=>ku P ops K (k+1) rest g R s) R s):ku P ops K k (o::rest) g R s:=by
 intro al ok aG aP a w hu ew;obtain⟨aD,ao⟩:=uY al;rw[hb,vC];obtain⟨dG,dO,au,an⟩:=ew;rcases PP (K':=rl P ops (fun e a' w'=>e = .normal∧∃cZ ap s',s'.bM∧fW cZ aG aP ap s' a' w'∧K cZ ap s') ((List.range rest.length).map (k+1 + ·))) ok an h (fun ap s' a' w' bU bu ae=>ae ao bU aG aP a' w' hu ⟨dG,dO,au,bu⟩) with ⟨h1,_,h2⟩|⟨h1,h2⟩
 ·exact Cj aD h1 h2 fun _ _ q=>by cases q.1
 ·exact agG aD h1 h2
variable{c:Nat}{eQ:iX}{dst:Option Nat}{ty:Nat}{pos:String}{after:Array Edge}{guard:Option (Nat×Bool)}
theorem fW.eval{x:Operand}{v:Value}(h:fW g aG aP R s a w)(ab:s.look x=some (aQ v)):a.eval x=v:=by
 obtain⟨_,_,A,ad,an⟩:=h.rr;exact(an.rel.look ab).1
theorem fW.put{v:Value}{av:ag}(h:fW g aG aP R s a w)(hd:∀d,dst=some d→d<s.n)(hv:∀U ad W,cS U ad W av v):fW g aG aP R (s.put dst av) (a.put dst v) w:=by
 obtain⟨dG,dO,au,A,ad,an⟩:=h;exact⟨dG,dO,au,A,ad,an.put hd (hv _ _ _)⟩
theorem fW.want{b:Bool}{o:Oper}(h:fW g aG aP R s a w)(hw:want ops o s=some b):Region.wanted o (yielded ops a.tmps)=b:=by
 obtain⟨_,_,A,ad,an⟩:=h.rr;exact MK hw an.rel
theorem IK{b:Frame}(aa:b.kind = .normal):b.kind ≠ .early:=by rw[aa];exact fun h=>by cases h
theorem abf{x y:Operand}{v:Value}(hw:want ops ⟨none,.send x y,ty,pos,after,guard⟩ s=some true)(ab:s.look x=some (aQ (.chan (some c))))(ai:s.look y=some (aQ v))(hs:eQ.shut=false)(ao:eQ.buf.length<eQ.cap)
  (h:ku P ops K (k+1) rest (some (c,iX.obj {eQ with buf:=eQ.buf++[v],ns:=eQ.ns+1})) R s):ku P ops K k (⟨none,.send x y,ty,pos,after,guard⟩::rest) (some (c,eQ.obj)) R s:=by
 intro al ok aG aP a w hu ew;obtain⟨aD,pu⟩:=uY al;rw[hb,vC];have aH:=ew.eval ab;have aN:=ew.eval ai;have aE:=ew.look;unfold iX.obj at aE;rw[hs] at aE;refine xd (a1:=a) (w1:={w with heap:=w.heap.setIfInBounds c (iX.obj {eQ with buf:=eQ.buf++[v],ns:=eQ.ns+1})}) (fun b B6 cs aa => ?_) (h pu ok aG aP a _ hu ew.turn);have:=step_lone_send_room (stepG_comm (P:=P) (w:=w) (a:=a) (rest:=(List.range rest.length).map (k+1 + ·)) (main:=true) (b:=b) (k:=B6) (cs:=cs) (cases := #[scase c v (.tuple #[])]) (blocking:=true) (shape := .send) (w':=w) aD (ew.want hw) (IK aa) (by simp[execOp,scase,aH,aN])) aE (by simpa using ao);rw[Frame.finish_at,aD] at this;simpa [lone,solo,G,World.setChan,iX.obj,hs,Act.put] using this
theorem U0{z:Value}{x:Operand}{t:Nat}(ab:a.eval x = .chan (some c))(aS:(zeroValue t).run P w = .ok z w){d:Nat}{ty:Nat}:(execOp a.eval ⟨some d,.select #[⟨x,none,t⟩] true,ty,pos,after,guard⟩).run P w = .ok (.comm #[rcase c z] true .select) w:=by
 simp[execOp,rcase,ab,aS]
theorem Ug(z v:Value)(ok:Bool):commResult #[rcase c z] .select ((0:Nat):Int) v ok = .tuple #[goInt 0,.bool ok,v]:=by simp[commResult,rcase,List.zipIdx_cons]
theorem VM{x y z:Value}(ab:x.oneCell'=true)(ai:y.oneCell'=true)(aS:z.oneCell'=true):∀U ad W,cS U ad W (.ck [.one (.c x),.one (.c y),.one (.c z)]) (.tuple #[x,y,z]):=by
 intro U ad W;refine⟨[x,y,z],rfl,rfl,fun i a v aX hv => ?_⟩
 match i with
 | 0=>cases aX;cases hv;exact⟨rfl,ab⟩
 | 1=>cases aX;cases hv;exact⟨rfl,ai⟩
 | 2=>cases aX;cases hv;exact⟨rfl,aS⟩
 | i+3=>simp at aX
theorem Mx{l:List bF}(ok:s.bM)(h:(ag.ck l).aW=true){d:Nat}:(s.put (some d) (.ck l)).bM:=ok.put fun j af=>absurd af (ag.c8 h j)
theorem abe{d:Nat}{x:Operand}{t:Nat}{v z:Value}{bs:List Value}(hw:want ops ⟨some d,.select #[⟨x,none,t⟩] true,ty,pos,after,guard⟩ s=some true)(ab:s.look x=some (aQ (.chan (some c))))(aa:eQ.buf=v::bs)(aS:∀w,(zeroValue t).run P w = .ok z w)(hd:Nat.blt d s.n=true)(hv:v.oneCell'=true)
  (h:ku P ops K (k+1) rest (some (c,iX.obj {eQ with buf:=bs,Cp:=eQ.Cp+1})) R (s.put (some d) (.ck [.one (.c (goInt 0)),.one (.c (.bool true)),.one (.c v)]))):ku P ops K k (⟨some d,.select #[⟨x,none,t⟩] true,ty,pos,after,guard⟩::rest) (some (c,eQ.obj)) R s:=by
 intro al ok aG aP a w hu ew;obtain⟨aD,pu⟩:=uY al;rw[hb,vC];have aH:=ew.eval ab;have aE:=ew.look;have et:∀d',some d=some d'→d'<s.n:=fun d' e=>by cases e;simpa [lz] using hd
 unfold iX.obj at aE;rw[aa] at aE;refine xd (a1:=a.put (some d) (.tuple #[goInt 0,.bool true,v])) (w1:={w with heap:=w.heap.setIfInBounds c (iX.obj {eQ with buf:=bs,Cp:=eQ.Cp+1})}) (fun b B6 cs cR => ?_) (h pu (Mx ok rfl) aG aP _ _ hu (ew.turn.put et (VM rfl rfl hv)));have:=step_lone_sel_recv_buf (k:=0) (c:=c) (z:=z) (stepG_comm (P:=P) (w:=w) (a:=a) (rest:=(List.range rest.length).map (k+1 + ·)) (main:=true) (b:=b) (k:=B6) (cs:=cs) (cases := #[rcase c z]) (blocking:=true) (shape := .select) (w':=w) aD (ew.want hw) (IK cR) (U0 aH (aS w))) rfl (fun m c' hm ny=>by cases m with|zero=>exact absurd rfl hm|succ m=>simp at ny) aE (by simp);rw[Frame.finish_at,aD,Ug] at this;simpa [lone,solo,G,World.setChan,iX.obj,Act.put] using this
theorem abd{d:Nat}{x:Operand}{t:Nat}{z:Value}(hw:want ops ⟨some d,.select #[⟨x,none,t⟩] true,ty,pos,after,guard⟩ s=some true)(ab:s.look x=some (aQ (.chan (some c))))(aa:eQ.buf=[])(hs:eQ.shut=true)(aS:∀w,(zeroValue t).run P w = .ok z w)(hd:Nat.blt d s.n=true)(hv:z.oneCell'=true)
  (h:ku P ops K (k+1) rest (some (c,eQ.obj)) R (s.put (some d) (.ck [.one (.c (goInt 0)),.one (.c (.bool false)),.one (.c z)]))):ku P ops K k (⟨some d,.select #[⟨x,none,t⟩] true,ty,pos,after,guard⟩::rest) (some (c,eQ.obj)) R s:=by
 intro al ok aG aP a w hu ew;obtain⟨aD,pu⟩:=uY al;rw[hb,vC];have aH:=ew.eval ab;have aE:=ew.look;have et:∀d',some d=some d'→d'<s.n:=fun d' e=>by cases e;simpa [lz] using hd
 unfold iX.obj at aE;rw[aa,hs] at aE;refine xd (a1:=a.put (some d) (.tuple #[goInt 0,.bool false,z])) (w1:=w) (fun b B6 cs cR => ?_) (h pu (Mx ok rfl) aG aP _ _ hu (ew.put et (VM rfl rfl hv)));have:=step_lone_sel_recv_shut (k:=0) (c:=c) (z:=z) (stepG_comm (P:=P) (w:=w) (a:=a) (rest:=(List.range rest.length).map (k+1 + ·)) (main:=true) (b:=b) (k:=B6) (cs:=cs) (cases := #[rcase c z]) (blocking:=true) (shape := .select) (w':=w) aD (ew.want hw) (IK cR) (U0 aH (aS w))) rfl (fun m c' hm ny=>by cases m with|zero=>exact absurd rfl hm|succ m=>simp at ny) aE;rw[Frame.finish_at,aD,Ug] at this;simpa [lone,solo,G,Act.put] using this
theorem aa9{x:Operand}{az:Array TypeId}(hw:want ops ⟨dst,.call ⟨.builtin .close,#[x],az⟩,ty,pos,after,guard⟩ s=some true)(ab:s.look x=some (aQ (.chan (some c))))(hs:eQ.shut=false)(hd:∀d,dst=some d→d<s.n)
  (h:ku P ops K (k+1) rest (some (c,iX.obj {eQ with shut:=true})) R (s.put dst (.ck []))):ku P ops K k (⟨dst,.call ⟨.builtin .close,#[x],az⟩,ty,pos,after,guard⟩::rest) (some (c,eQ.obj)) R s:=by
 intro al ok aG aP a w hu ew;obtain⟨aD,pu⟩:=uY al;rw[hb,vC];have aH:=ew.eval ab;have aE:=ew.look;unfold iX.obj at aE;rw[hs] at aE;refine Cj aD (ew.want hw) (Oper.sZ (v := .tuple #[]) (w':={w with heap:=w.heap.setIfInBounds c (iX.obj {eQ with shut:=true})}) ?_ (h pu ?_ aG aP _ _ hu (ew.turn.put hd fun U ad W=>⟨[],rfl,rfl,fun i x v ab=>by simp at ab⟩))) fun _ _ q=>by cases q.1
 ·have em:(#[x]:Array Operand).map a.eval = #[.chan (some c)]:=by simp[aH]
  simp only[execOp,resolve,em,Sem.run_bind,Sem.run_pure,Result.andThen_ok,invoke,builtin];rw[run_close_open az ty aE];rfl
 ·cases dst with
  | none=>exact ok
  | some d=>exact Mx ok rfl
theorem fW.open{o1:Obj}(h:ij aG aP R s a w)(aa:Below w.heap.size w w')(ak:w.heap.size≤c)(ab:w'.heap[c]?=some o1):fW (some (c,o1)) aG aP R s a w':=by
 obtain⟨A,ad,an⟩:=h;have cu:c<w'.heap.size:=(h9.1 ab).1;have pj:eR aG w':=an.below.then aa;have cW:∀b,s.free A ad b→b<w.heap.size→s.free (fun b=>A b∧b≠c) ad b∧w'.heap[b]?=w.heap[b]?:=fun b q al=>⟨⟨⟨q.1,by omega⟩,q.2⟩,aa.block b al⟩;have yI:∀k cs,s.mem k=some cs→ad k<w.heap.size:=fun k cs ae=>an.rel.lt ae
 let dG:cU:=⟨w',fun b=>aG.F b∨b=c,fun b q=>q.elim (fun q=>ke (aG.lt b q) (eO an.below.size aa.size)) (fun e=>by rw[e];exact cu),aG.N,aG.marks⟩
 refine⟨dG,fun b=>aP b∧b≠c,⟨fun b q => .inl q,.inr rfl,fun q=>by have:=aG.lt c q;have:=an.below.size;omega,fun b q=>q.1,fun q=>q.2 rfl,rfl,rfl,ab,pj⟩,fun b=>A b∧b≠c,ad,?_⟩;refine⟨fun b q=>⟨an.up b (eO pj.size q),fun e=>by subst e;exact absurd cu (Nat.not_lt.2 q)⟩,fun b q=>⟨an.sub b q.1,q.2⟩,?_,fun k cs ae q=>q.elim (an.hM k cs ae) fun e=>by have:=yI k cs ae;omega,⟨rfl,rfl,rfl,cE _,fun _ _=>rfl⟩,fun i r hi => ?_,an.apart,fun i r g hi q => ?_,an.fP⟩
 ·refine⟨an.rel.kD,an.rel.size,fun t av aC => ?_,fun k cs ae => ?_,an.rel.inj,⟨rfl,rfl,rfl,cE _,fun _ _=>rfl⟩,fun b q=>⟨an.rel.up b (eO aa.size q),fun e=>by subst e;exact absurd cu (Nat.not_lt.2 q)⟩,lP s ad _⟩
  ·obtain⟨v,h1,h2⟩:=an.rel.dq t av aC;exact⟨v,h1,h2.map cW fun _ _=>rfl⟩
  ·obtain⟨vs,ty,h1,h2,ar⟩:=an.rel.c3 k cs ae;exact⟨vs,ty,(aa.block _ (yI k cs ae)).trans h1,h2.map cW fun _ _ _ _=>rfl,fun q=>q.2 k cs ae rfl⟩
 ·have aD:=an.rows i r hi;exact⟨aD.ok.kept aD.gV (fun g q=>aa.block g (aD.ok.lt q)) aa.size cW,aD.gV,fun g q=>⟨fun z=>(aD.own g q).1 z.1,(aD.own g q).2⟩⟩
 ·have Fh:=(an.rows i r hi).ok.lt q;exact⟨fun z=>z.elim (an.hot i r g hi q).1 fun e=>by omega,(an.hot i r g hi q).2,by omega⟩
theorem aba{d t e n:Nat}{x:Operand}{gI:IntKind}{dir:ChanDir}{eJ:TypeInfo}(hw:want ops ⟨some d,.makeChan t x,ty,pos,after,guard⟩ s=some true)(ab:s.look x=some (aQ (.int gI n)))(aC:P.underlying t=some (.chan dir e))(hi:P.info? e=some eJ)(aA:(n:Int)≤9223372036854775807)(aa:(eJ.bytes:Int)*n≤281474976710544)(hd:Nat.blt d s.n=true)
  (h:∀c,ku P ops K (k+1) rest (some (c,iX.obj ⟨n,[],false,0,0⟩)) R (s.put (some d) (aQ (.chan (some c))))):ku P ops K k (⟨some d,.makeChan t x,ty,pos,after,guard⟩::rest) none R s:=by
 intro al ok aG aP a w hu ew;obtain⟨aD,pu⟩:=uY al;rw[hb,vC];have aH:=ew.eval ab;have mo:=ew.want hw;obtain⟨zS,zR,iO,an⟩:=ew;rw[show zS=aG from iO.1,show zR=aP from iO.2] at an;have et:∀d',some d=some d'→d'<s.n:=fun d' e=>by cases e;simpa [lz] using hd
 have aX:=Below.alloc (Below.refl w.heap.size w) (cE _) (.chan n #[] false 0 0 false);have Jp:fW (some (w.heap.size,iX.obj ⟨n,[],false,0,0⟩)) aG aP R s a (w.alloc (.chan n #[] false 0 0 false)):=fW.open an aX (cE _) (heap_alloc_new w _);refine Cj aD mo (Oper.sZ (v := .chan (some w.heap.size)) (w':=w.alloc (.chan n #[] false 0 0 false)) ?_ (h _ pu (ok.put fun j af=>absurd af (gL _ j)) aG aP _ _ hu (Jp.put et fun U ad W=>⟨rfl,rfl⟩))) fun _ _ q=>by cases q.1
 simp only[execOp,aH,Sem.run_bind,run_makeChan aC hi gI n aA aa,Result.andThen_ok,Sem.run_pure]
theorem abb{d t:Nat}(hw:want ops ⟨some d,.makeMap t none,ty,pos,after,guard⟩ s=some true)(hd:Nat.blt d s.n=true)
  (h:∀c,ku P ops K (k+1) rest (some (c,.map #[] 0)) R (s.put (some d) (aQ (.map (some c))))):ku P ops K k (⟨some d,.makeMap t none,ty,pos,after,guard⟩::rest) none R s:=by
 intro al ok aG aP a w hu ew;obtain⟨aD,pu⟩:=uY al;rw[hb,vC];have mo:=ew.want hw;obtain⟨zS,zR,iO,an⟩:=ew;rw[show zS=aG from iO.1,show zR=aP from iO.2] at an;have et:∀d',some d=some d'→d'<s.n:=fun d' e=>by cases e;simpa [lz] using hd
 have aX:=Below.alloc (Below.refl w.heap.size w) (cE _) (.map #[] 0);have Jp:fW (some (w.heap.size,.map #[] 0)) aG aP R s a (w.alloc (.map #[] 0)):=fW.open an aX (cE _) (heap_alloc_new w _);refine Cj aD mo (Oper.sZ (v := .map (some w.heap.size)) (w':=w.alloc (.map #[] 0)) ?_ (h _ pu (ok.put fun j af=>absurd af (gL _ j)) aG aP _ _ hu (Jp.put et fun U ad W=>⟨rfl,rfl⟩))) fun _ _ q=>by cases q.1
 rfl
structure DG (P:Program) (f:FuncId) (args:List ag) (eQ:iX):Prop where
 call:∀(U:Nat→Prop) (W:World) (vs:List Value),il U id W args vs →
  Calls P f vs.toArray W fun e W'=>∃c,e = .returned (.chan (some c))∧W.heap.size≤c∧W'.heap[c]?=some eQ.obj∧Below W.heap.size W W'
theorem aa7{d:Nat}{o:Oper}{f:FuncId}{args:List ag}(hw:want ops o s=some true)(acK:o.dst=some d)(ak:rQ P s.look o f args)(aj:DG P f args eQ)(cu:args.all ag.aW=true)(hd:Nat.blt d s.n=true)
  (h:∀c,ku P ops K (k+1) rest (some (c,eQ.obj)) R (s.put (some d) (aQ (.chan (some c))))):ku P ops K k (o::rest) none R s:=by
 intro al ok aG aP a w hu ew;obtain⟨aD,pu⟩:=uY al;rw[hb,vC];have mo:=ew.want hw;obtain⟨zS,zR,iO,an⟩:=ew;rw[show zS=aG from iO.1,show zR=aP from iO.2] at an;have et:∀d',some d=some d'→d'<s.n:=fun d' e=>by cases e;simpa [lz] using hd
 obtain⟨A,ad,Be⟩:=id an;obtain⟨us,QZ,fe⟩:=ak.run Be.rel;refine Cj aD mo ?_ fun _ _ q=>by cases q.1
 unfold Oper.wp;rw[fe,Oper.upon_enter];have ad8:il (s.free A ad) id w args us:=⟨QZ.1,fun i x v ab hv=>(QZ.2 i x v ab hv).map (fun b aa _=>⟨aa,rfl⟩) fun j af=>absurd af (ag.c8 (bZ.1 cu x (cM ab)) j)⟩;refine(aj.call _ w us ad8).mono ?_;rintro e w' ⟨c,rfl,jw,gA,JJ⟩;rw[acK];exact h c pu (ok.put fun j af=>absurd af (gL _ j)) aG aP _ _ hu ((fW.open an JJ jw gA).put et fun U ad W=>⟨rfl,rfl⟩)
def ajv(P:Program)(fn:Func)(eQ:iX):Exit→lF→aF→aB→Prop
 | .normal,g,R,s | .ret,g,R,s=>∃c,g=some (c,eQ.obj)∧fn.results.toList.map (gO P s)=[some (.one (.c (.chan (some c))))]
 | _,_,_,_=>False
theorem aju{f:FuncId}{fn:Func}{x:Code}{args:List ag}(aw:P.funcs[f]?=some fn)(aa:fn.body=some x)(aA:args.length≤fn.ntmps)(cu:args.all ag.aW=true)
  (h:iY P x (ajv P fn eQ) none dP (start fn.ntmps args)):DG P f args eQ:=by
 refine⟨fun U W vs cO => ?_⟩;have al:=cO.1;have fA:∀x∈args,x.closed:=fun x ab=>ag.c8 (bZ.1 cu x ab);refine Oj aw aa ?_;have ok:(start fn.ntmps args).bM:=⟨fun t av j aC af=>absurd af (fA av (cM aC) j),fun k cs x j ae=>by cases ae⟩;have cW:∀b,U b→b<W.heap.size→(start fn.ntmps args).free (fun b=>U b∨W.heap.size≤b) id b∧W.heap[b]?=W.heap[b]?:=fun b aa _=>⟨⟨.inl aa,fun k cs ae=>by cases ae⟩,rfl⟩
 have an:dv (cU.all W) (fun b=>U b∨W.heap.size≤b) dP (start fn.ntmps args) {tmps:=vs.toArray++Array.replicate (fn.ntmps-vs.toArray.size) undef,defers:=[]} W (fun b=>U b∨W.heap.size≤b) id:=by
  refine⟨fun b aa => .inr aa,fun _ h=>h,?_,fun k cs ae=>(by cases ae),eR.refl (cU.all W),fun i r hi=>(by cases hi),fun i j r q hi=>(by cases hi),fun i r g hi=>(by cases hi),fun k b ae=>(by cases ae)⟩;refine⟨rfl,by simp[start];omega,fun t av aC => ?_,fun k cs ae=>(by cases ae),fun k k' cs ay ae=>(by cases ae),⟨rfl,rfl,rfl,cE _,fun _ _=>rfl⟩,fun b aa => .inr aa,lP _ _ _⟩;have a8:t<vs.length:=by rw[←al];exact(bq.1 aC).1
  refine⟨vs[t],by simp[Array.getElem?_append,a8],?_⟩;exact(cO.2 t av _ aC (bB a8)).map cW fun _ _=>rfl
 refine xe (h ok (cU.all W) _ _ W (fun b aa => .inr (Nat.not_lt.1 aa)) ⟨cU.all W,_,⟨rfl,rfl⟩,_,id,an⟩) ?_;rintro e a' w' ⟨cZ,ap,s',bU,ew,aj⟩
 have fin:(∃c,cZ=some (c,eQ.obj)∧fn.results.toList.map (gO P s')=[some (.one (.c (.chan (some c))))])→a'.defers=[]∧∃v,(results fn a'.tmps).run P w' = .ok v w'∧∃c,Ending.returned v = .returned (.chan (some c))∧W.heap.size≤c∧w'.heap[c]?=some eQ.obj∧Below W.heap.size W w':=by
  rintro⟨c,rfl,h1⟩;have adt:=ew.look
  have u5:W.heap.size≤c:=by
   obtain⟨dG,dO,au,_⟩:=ew;exact Nat.not_lt.1 au.2.2.1
  obtain⟨A,ad,Be⟩:=ew.shut fun b aa => .inr (Nat.not_lt.1 aa);obtain⟨v,q1,q2⟩:=CI (xs:=[.one (.c (.chan (some c)))]) Be.rel h1;have:v = .chan (some c):=q2.1;subst this;exact⟨Be.rel.kD,_,q1,c,rfl,u5,adt,Be.below.all⟩
 cases e with
 | normal=>exact fin aj
 | ret=>exact fin aj
 | _=>exact aj.elim
theorem kS(h:cL P ops none (fun R s=>ku P ops K (k+1) rest g R s) [o] R s):ku P ops K k (o::rest) g R s:=abc h
theorem Pu(h:Q .normal g R s):iY P .skip Q g R s:=A3 (L7 h)
theorem Jd(h:Q .ret g R s):iY P .ret Q g R s:=A3 (L5 h)
theorem Pt{id:Nat}(h:Q (.exit id) g R s):iY P (.exit id) Q g R s:=A3 (L4 h)
variable{next:lF→aF→aB→Prop}{id iz:Nat}
theorem mg(h:next g R s):A5 next Q .normal g R s:=h
theorem abI(h:Q .ret g R s):A5 next Q .ret g R s:=h
theorem PD(h:Q (.exit id) g R s):A5 next Q (.exit id) g R s:=h
theorem Pv(h:Q .normal g R s):A4 id Q .normal g R s:=h
theorem abm(h:Q .ret g R s):A4 id Q .ret g R s:=h
theorem Pw(h:Q .normal g R s):A4 id Q (.exit id) g R s:=by show bif Nat.beq id id then _ else _;rw[qv];exact h
theorem aa8{d:Nat}{f:FuncId}{ES:Operand}{az:Array TypeId}{lo:List Operand}{args:List ag} [E:Enters P f](hw:want ops ⟨some d,.call ⟨.value ES,lo.toArray,az⟩,ty,pos,after,guard⟩ s=some true)(au:s.look ES=some (aQ (.func (.func f) #[] #[])))(aX:lo.map s.look=args.map some)(aj:DG P f args eQ)(cu:args.all ag.aW=true)(hd:Nat.blt d s.n=true)
  (h:∀c,ku P ops K (k+1) rest (some (c,eQ.obj)) R (s.put (some d) (aQ (.chan (some c))))):ku P ops K k (⟨some d,.call ⟨.value ES,lo.toArray,az⟩,ty,pos,after,guard⟩::rest) none R s :=
 aa7 hw rfl ⟨⟨_,ES,rfl,rfl,.inl ⟨[],au,by simpa using aX,rfl⟩⟩,E.h⟩ aj cu hd h
theorem abk(i d:Nat)(r:bE)(hi:R i=some r)(hd:s.tmps d=some (aQ r.v))(h:iY P x Q g (fun j=>if j=i then none else R j) (s.put (some d) (cF r.sz r.n r.ys)))(bI:0<r.sz:=by first|decide|exact gE _):iY P x Q g R s:=by
 rintro ok aG aP a w hu ⟨dG,dO,au,A,ad,an⟩
 have et:d<s.n:=by
  obtain⟨v,h1,_⟩:=an.rel.dq d _ hd;rw[←an.rel.size];exact(h9.1 h1).1
 obtain⟨b0,tv⟩:=an.uN i d r hi bI hd et;exact h (ok.put fun j af=>absurd af (ly _ j)) aG aP a w hu ⟨dG,dO,au,b0,ad,tv⟩
theorem abl(k:Nat)(cs:List AC)(ae:s.mem k=some cs)(cu:cs.all AC.aW=true)(h:iY P x Q none R (mM s k cs)):iY P x Q none R s:=by
 rintro ok aG aP a w hu ⟨dG,dO,au,A,ad,an⟩;obtain⟨rfl,rfl⟩:=au;have wK:dO (ad k):=hu _ (an.hM k cs ae);have Kv:∀b,A b→A b∨b=ad k:=fun b q => .inl q;have hZ:∀b,s.free A ad b→b<w.heap.size→s.free (fun b=>A b∨b=ad k) ad b∧w.heap[b]?=w.heap[b]?:=fun b q _=>⟨⟨.inl q.1,q.2⟩,rfl⟩
 have ao:Rel (hY dG s ad w) (fun b=>A b∨b=ad k) s ad a w:=by
  refine⟨an.rel.kD,an.rel.size,fun t av aC => ?_,fun k cs ae => ?_,an.rel.inj,an.rel.below,fun b q => .inl (an.rel.up b q),an.rel.fP⟩
  ·obtain⟨v,h1,h2⟩:=an.rel.dq t av aC;exact⟨v,h1,h2.map hZ fun _ _=>rfl⟩
  ·obtain⟨vs,ty,h1,h2,ar⟩:=an.rel.c3 k cs ae;exact⟨vs,ty,h1,h2.map hZ fun _ _ _ _=>rfl,ar⟩
 have wP:=Pn ae cu (.inr rfl) ao
 have lq:∀j ds,(mM s k cs).mem j=some ds→j≠k∧s.mem j=some ds:=fun j ds af=>by
  simp only[mM] at af;cases aa:tm s k j with
  | false=>rw[aa] at af;simp at af
  | true=>rw[aa] at af;simp at af;exact⟨(EL aa).1,af⟩
 have ac5:∀b,s.free A ad b→b<w.heap.size→(mM s k cs).free (fun b=>A b∨b=ad k) ad b∧w.heap[b]?=w.heap[b]?:=fun b q _=>⟨⟨.inl q.1,fun j ds af=>q.2 j ds (lq j ds af).2⟩,rfl⟩;refine h (Pm ok) dG dO a w hu ⟨dG,dO,⟨rfl,rfl⟩,fun b=>A b∨b=ad k,ad,an.up,fun b q=>q.elim (an.sub b) fun e=>by rw[e];exact wK,?_,fun j ds af=>an.hM j ds (lq j ds af).2,an.below,fun i r hi => ?_,an.apart,an.hot,an.fP⟩
 ·refine⟨wP.kD,wP.size,wP.dq,fun j ds af => ?_,wP.inj,⟨rfl,rfl,rfl,cE _,fun _ _=>rfl⟩,wP.up,lP _ _ _⟩;obtain⟨vs,ty,h1,h2,_⟩:=wP.c3 j ds af;exact⟨vs,ty,h1,h2,fun q=>q.2 j ds af rfl⟩
 ·have aD:=an.rows i r hi;refine⟨aD.ok.kept aD.gV (fun _ _=>rfl) (cE _) ac5,aD.gV,fun g q=>⟨fun z=>z.elim (aD.own g q).1 fun e=>(aD.own g q).2 k cs ae e.symm,fun j ds af=>(aD.own g q).2 j ds (lq j ds af).2⟩⟩
end
end Go.Proofs.YtklpfooafbjnpaaGreat
namespace Go.Proofs.YtklpfooafbjnpaaGreat
abbrev cj:=Int×Int
def lK(l:List cj):List (cj×cj):=l.zip (l.drop 1++l.take 1)
end Go.Proofs.YtklpfooafbjnpaaGreat
namespace Go.Proofs.YtklpfooafbjnpaaGreat
open Go.RowKit
def CA(p:Int×Int):List AC:=[.c (.int .i64 p.1),.c (.int .i64 p.2)]
def pG(l:List (Int×Int)):List AC:=l.flatMap CA
def lC(l:List (Int×Int)):AC := .p (b3 2 l.length (pG l))
def hf(L:List (List (Int×Int))):AC := .p (b3 1 L.length (L.map lC))
def ir(L:List (List (Int×Int))):List ((Int×Int)×(Int×Int)):=L.flatMap lK
def VS(e:(Int×Int)×(Int×Int)):List ag:=[.w (.agg (CA e.1)),.w (.agg (CA e.2))]
def rq(L:List (List (Int×Int)))(k:Nat):Nat:=(ir (L.take k)).length
theorem wE(l:List (Int×Int)):(lK l).length=l.length:=by
 simp only[lK,List.length_zip,cY,iE,dY];omega
theorem AN{l:List (Int×Int)}{i:Nat}{p q:Int×Int}(hp:l[i]?=some p)(aj:(if i+1<l.length then l[i+1]? else l[0]?)=some q):(lK l)[i]?=some (p,q):=by
 have hi:=(bq.1 hp).1;simp only[lK,List.getElem?_zip_eq_some];refine⟨hp,?_⟩
 by_cases h:i+1<l.length
 ·rw[if_pos h] at aj;rw[fK (by simp;omega),gN,oy 1 i];exact aj
 ·rw[if_neg h] at aj;rw[gq (by simp;omega),iE,show i-(l.length-1)=0 by omega,gp (by omega)];exact aj
theorem ajm{L:List (List (Int×Int))}{k:Nat}{r:List (Int×Int)}(h:L[k]?=some r):rq L (k+1)=rq L k+r.length:=by
 have ae:=(bq.1 h).1;have:L.take (k+1)=L.take k++[r]:=by rw[jL ae,(bq.1 h).2]
 simp only[rq,ir,this,sK,cY,List.flatMap_cons,List.flatMap_nil,nb,wE]
theorem aay{L:List (List (Int×Int))}{k i:Nat}{r:List (Int×Int)}(h:L[k]?=some r)(hi:i<r.length):(ir L)[rq L k+i]?=(lK r)[i]?:=by
 have ae:=(bq.1 h).1
 have e:ir L=ir (L.take k)++(lK r++ir (L.drop (k+1))):=by
  conv=>lhs;rw[←kg k L,jK ae,(bq.1 h).2]
  simp only[ir,sK,List.flatMap_cons]
 rw[e,gq (by unfold rq;omega),show rq L k+i-(ir (L.take k)).length=i by unfold rq;omega,fK (by rw[wE];exact hi)]
theorem rD{l:List (Int×Int)}{i:Nat}{ii:Int}{x y:Int}(hi:ii=i)(h:l[i]?=some (x,y)):((pG l).drop (ii.toNat*2)).take 2=[.c (.int .i64 x),.c (.int .i64 y)]:=by
 subst hi;rw[kI]
 induction l generalizing i with
 | nil=>simp at h
 | cons p l cf =>
  cases i with
  | zero=>simp at h;subst h;rfl
  | succ i =>
   have:=cf (i:=i) (by simpa using h);rw[←this,Nat.succ_mul];show ((CA p++pG l).drop (i*2+2)).take 2=_;rw[show CA p++pG l=AC.c (.int .i64 p.1)::AC.c (.int .i64 p.2)::pG l from rfl];rfl
theorem zo{L:List (List (Int×Int))}{i:Nat}{ii:Int}{r:List (Int×Int)}(hi:ii=i)(h:L[i]?=some r):((L.map lC).drop (ii.toNat*1)).take 1=[lC r]:=by
 subst hi;rw[kI,Nat.mul_one];have ae:=(bq.1 h).1;rw[jK (by simpa using ae)];simp[(bq.1 h).2]
abbrev zF(k:Nat):ag := .w (.one (.own k 0))
def Ex(x:Int×((Int×Int)×(Int×Int))):List AC:=[.c (.int .i64 x.2.1.1),.c (.int .i64 x.2.1.2),.c (.int .i64 x.2.2.1),.c (.int .i64 x.2.2.2),.c (.int .i64 x.1)]
def n3(l:List (Int×((Int×Int)×(Int×Int)))):List AC:=l.flatMap Ex
theorem take_one{α:Type}{l:List α}{i:Nat}{x:α}(h:l[i]?=some x):l.take (i+1)=l.take i++[x]:=by
 rw[jL (bq.1 h).1,(bq.1 h).2]
def hL(A B:List (List (Int×Int)))(op fill rung cap:Int):List AC:=[hf A,hf B,.c (.int .i64 op),.c (.int .i64 fill),.c (.int .i64 rung),.c (.int .i64 cap)]
theorem TH{i:Nat}{r:bE}(h:0<r.sz):Ac (bp i r):=fun j q af=>by
 by_cases e:j=i
 ·subst e;rw[bp,bW] at af;cases af;exact h
 ·rw[bp,bL _ _ e] at af;cases af
theorem aib(L:List (List (Int×Int))):aO ah 105 [.w (.one (hf L))] (.w (.one (.p (l6 (.func 164) [.p (pc [hf L])])))):=by
 refine LD (f:=105) Tryz.func105 rfl rfl rfl rfl ?_;refine D7 (wu ?_);(refine eK ?_);refine D6 1 _ rfl rfl ?_;refine wu ?_;(repeat first|refine dc ?_|refine DZ (xs:=[_]) (cs:=[_]) rfl rfl rfl rfl ?_)
 ((refine bk rfl (aY rfl aM) ?_))
 exact ag.aU.refl _
abbrev Hh(l:Nat):ag:=aQ (.func (.yield l) #[] #[])
def XN(X:kp)(L:List (List (Int×Int)))(k:Nat)(g:Option Nat)(az:List (Nat×ag))(aR:List (Nat×List AC)):Prop :=
 ∃(i:Nat) (ii:Int),i≤L.length∧k=L.length-i∧ii=i∧g=some (rq L i)∧aR=[]∧az=[(0,Hh X.l),(7,.w (.one (hf L))),(8,aL L.length),(9,aL ii)]
def XM(X:kp)(L:List (List (Int×Int)))(r:List (Int×Int))(b:Nat)(Ln:Int)(k:Nat)(g:Option Nat)(az:List (Nat×ag))(aR:List (Nat×List AC)):Prop :=
 ∃(i:Nat) (ii:Int),i≤r.length∧k=r.length-i∧ii=i∧g=some (b+i)∧aR=[]∧az=[(0,Hh X.l),(4,.w (.one (lC r))),(7,.w (.one (hf L))),(8,aL L.length),(9,aL Ln),(13,.w (.one (lC r))),(14,aL r.length),(15,aL ii)]
theorem agV{r:List (Int×Int)}{j:Nat}{de:Int}(hp:j<r.length)(jy:de=j):∃x y,(0≤(de+1) % (r.length:Int)∧(de+1) % (r.length:Int)<r.length)∧(if j+1<r.length then r[j+1]? else r[0]?)=some (x,y)∧((pG r).drop (((de+1) % (r.length:Int)).toNat*2)).take 2=[.c (.int .i64 x),.c (.int .i64 y)]:=by
 subst jy
 by_cases aA:j+1<r.length
 ·have e:((j:Int)+1) % (r.length:Int)=((j+1:Nat):Int):=by rw[Int.emod_eq_of_lt (by omega) (by omega)];omega
  obtain⟨x,y,g⟩:∃x y,r[j+1]?=some (x,y):=⟨_,_,bB aA⟩;refine⟨x,y,by rw[e];omega,by rw[if_pos aA];exact g,rD e g⟩
 ·have e:((j:Int)+1) % (r.length:Int)=((0:Nat):Int):=by
   rw[show (j:Int)+1=(r.length:Int) by omega,Int.emod_self];rfl
  obtain⟨x,y,g⟩:∃x y,r[0]?=some (x,y):=⟨_,_,bB (by omega)⟩;refine⟨x,y,by rw[e];omega,by rw[if_neg aA];exact g,rD e g⟩
theorem aeJ{L:List (List (Int×Int))}(dp:L.length≤4611686018427387904)(ao:∀r∈L,r.length≤4611686018427387904):Dy ah (l6 (.func 164) [.p (pc [hf L])]) ((ir L).map VS):=by
 refine Rh (gf:=164) Tryz.func164 rfl (fun args w=>yl (by kernel_rfl)) (cn rfl) rfl rfl ?_;intro X hn hxs;refine⟨_,iK.cons (lE.refl _) iK.nil,?_⟩;(repeat first|(with_reducible apply ga);rfl|(with_reducible apply As);(iterate 5 rfl)|(with_reducible apply rY);(iterate 3 rfl)|(with_reducible first|apply s0|apply o7|apply dC|apply zN)|(with_reducible apply qC);assumption);refine Hp 34 (XN X L) L.length _ [] ⟨0,0,dk _,rfl,rfl,rfl,rfl,rfl⟩ rfl ⟨rfl,rfl,rfl,rfl,trivial⟩ trivial rfl ?_;rintro n g az aR ⟨i,ii,hi,rfl,ee,rfl,rfl,rfl⟩ bz;clear bz
 by_cases aj:i<L.length
 ·have q2:ii<(L.length:Int):=by omega
  have q3:0≤ii:=by omega
  obtain⟨r,j7⟩:∃r,L[i]?=some r:=⟨_,bB aj⟩;have gQ:=zo ee j7;have hH:=ao r (cM j7);(repeat first|(with_reducible apply ga);rfl|(with_reducible apply As);(iterate 5 rfl)|(with_reducible apply Ar);(iterate 3 rfl);(omega);(omega);(assumption);rfl|(with_reducible apply rY);(iterate 3 rfl)|(with_reducible first|apply s0|apply o7|apply dC)|(with_reducible apply zQ);assumption|with_reducible apply zN|(with_reducible apply zP);rfl;(exact b5 (by omega))|(with_reducible apply qC);assumption);refine Hp 34 (XM X L r (rq L i) ii) r.length _ [] ⟨0,0,dk _,rfl,rfl,rfl,rfl,rfl⟩ rfl ⟨rfl,rfl,rfl,rfl,rfl,rfl,rfl,rfl,trivial⟩ trivial rfl ?_;rintro n g az aR ⟨j,de,af,rfl,jy,rfl,rfl,rfl⟩ bz;clear bz
  by_cases hp:j<r.length
  ·have p2:de<(r.length:Int):=by omega
   have p3:0≤de:=by omega
   obtain⟨x,y,g1⟩:∃x y,r[j]?=some (x,y):=⟨_,_,bB hp⟩;have jt:=rD jy g1;obtain⟨dj,mD,⟨gJ,fI⟩,g2,pa⟩:=agV hp jy
   have ab:X.xs[rq L i+j]?=some (VS ((x,y),(dj,mD))):=by
    rw[hxs,dt,aay j7 hp,AN g1 g2];rfl
   (repeat first|(with_reducible apply ga);rfl|(with_reducible apply H9);(iterate 5 rfl)|(with_reducible apply Ar);(iterate 3 rfl);(omega);(omega);(assumption);rfl|(with_reducible apply wk);(iterate 3 rfl);(exact kC (by omega));rfl|(with_reducible apply NN);(iterate 3 rfl);(omega);(omega);rfl|(with_reducible apply rY);(iterate 3 rfl)|(with_reducible first|apply s0|apply o7|apply dC)|(with_reducible apply zQ);assumption|with_reducible apply zN|(with_reducible apply zP);rfl;(exact b5 (by omega))|refine amh (ri:=6) (kc:=10) (by assumption) (by kernel_rfl) rfl (by kernel_rfl) rfl ?_|(with_reducible apply qC);assumption);refine⟨ke (Nat.lt_succ_self _) (cn rfl),rfl,_,[.w (.agg [.c (.int .i64 x),.c (.int .i64 y)]),.w (.agg [.c (.int .i64 dj),.c (.int .i64 mD)])],ab,rfl,pM.cons (s3.w rfl rfl) (pM.cons (s3.w rfl rfl) pM.nil),?_,?_⟩
   ·(repeat first|(with_reducible apply ga);rfl|(with_reducible apply wk);(iterate 3 rfl);(exact kC (by omega));rfl|(with_reducible first|apply o7|apply dC)|(with_reducible apply zQ);assumption|with_reducible apply Hk|(with_reducible apply zO);rfl;(rfl)|(with_reducible apply qC);assumption);exact⟨r.length-(j+1),_,[],by omega,⟨j+1,de+1,hp,rfl,by omega,rfl,rfl,rfl⟩,rfl,⟨rfl,rfl,rfl,rfl,rfl,rfl,rfl,rfl,trivial⟩,trivial,rfl⟩
   ·(repeat first|(with_reducible apply ga);rfl|(with_reducible first|apply o7|apply dC|apply Wk)|(with_reducible apply Wm);assumption|with_reducible apply Wi|(with_reducible apply zP);rfl;(rfl));exact⟨.inr rfl,.inl rfl⟩
  ·have e:j=r.length:=by omega
   have vh:=ajm j7;subst e;(repeat first|(with_reducible apply ga);rfl|(with_reducible apply wk);(iterate 3 rfl);(exact kC (by omega));rfl|(with_reducible first|apply s0|apply o7|apply dC|apply Hk|apply Hl)|(with_reducible apply Ho);assumption|with_reducible apply Hm|(with_reducible apply zO);rfl;(exact cc (by omega))|(with_reducible apply qC);assumption);exact⟨L.length-(i+1),_,[],by omega,⟨i+1,ii+1,aj,rfl,by omega,by rw[vh],rfl,rfl⟩,rfl,⟨rfl,rfl,rfl,rfl,trivial⟩,trivial,rfl⟩
 ·have e:i=L.length:=by omega
  subst e;(repeat first|(with_reducible apply ga);rfl|(with_reducible first|apply s0|apply o7|apply dC|apply Hl)|(with_reducible apply Ho);assumption|with_reducible apply Hm|(with_reducible apply zO);rfl;(exact cc (by omega))|(with_reducible apply qC);assumption);exact⟨.inl rfl,.inr (by unfold rq;rw[uf,iD])⟩
instance anP:HF ah 137 2 false 1:=⟨by kernel_rfl⟩
theorem Td{n m:Nat}{xs ys:List AC}{op fill rung cap:Int}:aO ah 104 [.w (.agg [.p (b3 1 n xs),.p (b3 1 m ys),.c (.int .i64 op),.c (.int .i64 fill),.c (.int .i64 rung),.c (.int .i64 cap)])] (.w (.agg [.p (b3 1 n xs),.p (b3 1 m ys)])):=by
 refine bo (f:=104) Tryz.func104 rfl rfl rfl rfl ?_;(refine eK ?_)
 ((refine bk rfl (c6 rfl rfl rfl aM) ?_))
 exact ag.aU.refl _
theorem Tp(A B:List (List (Int×Int)))(op fill rung cap:Int):aO ah 221 [.w (.agg (hL A B op fill rung cap))] (.w (.one (.p (l6 (.func 265) [.p (pc (hL A B op fill rung cap))])))):=by
 refine LD (f:=221) Tryz.func221 rfl rfl rfl rfl ?_;refine D7 (wu ?_);(refine eK ?_);refine D6 1 _ rfl rfl ?_;refine wu ?_;(repeat first|refine dc ?_|refine DZ (xs:=[_]) (cs:=[_]) rfl rfl rfl rfl ?_)
 ((refine bk rfl (aY rfl aM) ?_))
 exact ag.aU.refl _
def yk(U:Nat→Prop)(W:World)(r:List (Int×Int)):AC := .p (IV U W (b3 2 r.length (pG r)))
theorem OY(U:Nat→Prop)(W:World)(L:List (List (Int×Int))):iK U W (L.map lC) (L.map (yk U W)):=⟨by simp,fun j x y ab ai=>by
 rw[dt] at ab ai;cases h:L[j]? with
 | none=>rw[h] at ab;cases ab
 | some r=>rw[h] at ab ai;cases ab;cases ai;exact lE.IU _⟩
theorem age{f:List (Int×Int)→AC}{L:List (List (Int×Int))}{i:Nat}{ii:Int}{r:List (Int×Int)}(hi:ii=i)(h:L[i]?=some r):((L.map f).drop (ii.toNat*1)).take 1=[f r]:=by
 subst hi;rw[kI,Nat.mul_one];have ae:=(bq.1 h).1;rw[jK (by simpa using ae)];simp[(bq.1 h).2]
def sR(A B:List (List (Int×Int))):List (List ag):=(A++B).map fun r=>[.w (.one (lC r))]
def sH(A B:List (List (Int×Int)))(i:Nat):Nat:=if i=0 then 0 else if i=1 then A.length else A.length+B.length
abbrev r6(X:kp)(L:List (List (Int×Int))):AC := .p (b3 1 L.length (L.map (yk X.U X.cD)))
def XK(X:kp)(A B:List (List (Int×Int)))(k:Nat)(g:Option Nat)(az:List (Nat×ag))(aR:List (Nat×List AC)):Prop :=
 ∃(i:Nat) (ii:Int),i≤2∧k=2-i∧ii=i∧g=some (sH A B i)∧aR=[]∧az=[(0,Hh X.l),(8,.w (.agg [r6 X A,r6 X B])),(9,aL ii)]
def XL(X:kp)(A B L:List (List (Int×Int)))(b:Nat)(Ln:Int)(k:Nat)(g:Option Nat)(az:List (Nat×ag))(aR:List (Nat×List AC)):Prop :=
 ∃(i:Nat) (ii:Int),i≤L.length∧k=L.length-i∧ii=i∧g=some (b+i)∧aR=[]∧az=[(0,Hh X.l),(8,.w (.agg [r6 X A,r6 X B])),(9,aL Ln),(12,.w (.one (r6 X L))),(13,aL L.length),(14,aL ii)]
theorem Ri{A B:List (List (Int×Int))}{op fill rung cap:Int}(ct:A.length≤4611686018427387904)(cX:B.length≤4611686018427387904):Dy ah (l6 (.func 265) [.p (pc (hL A B op fill rung cap))]) (sR A B):=by
 refine Rh (gf:=265) Tryz.func265 rfl (fun args w=>yl (by kernel_rfl)) (cn rfl) rfl rfl ?_;intro X hn hxs;refine⟨[.p (pc [r6 X A,r6 X B,.c (.int .i64 op),.c (.int .i64 fill),.c (.int .i64 rung),.c (.int .i64 cap)])],iK.cons (lE.ptr (iK.cons (lE.sl (OY _ _ A)) (iK.cons (lE.sl (OY _ _ B)) (iK.cons (lE.refl _) (iK.cons (lE.refl _) (iK.cons (lE.refl _) (iK.cons (lE.refl _) iK.nil))))))) iK.nil,?_⟩;have eV:=Td (n:=A.length) (m:=B.length) (xs:=A.map (yk X.U X.cD)) (ys:=B.map (yk X.U X.cD)) (op:=op) (fill:=fill) (rung:=rung) (cap:=cap);(repeat first|(with_reducible apply ga);rfl|(with_reducible apply H9);(iterate 5 rfl)|refine H5 rfl rfl rfl (by(exact eV)) rfl ?_|(with_reducible first|apply s0|apply o7|apply dC|apply zN)|(with_reducible apply qC);assumption);refine Hp 24 (XK X A B) 2 _ [] ⟨0,0,dk _,rfl,rfl,rfl,rfl,rfl⟩ rfl ⟨rfl,rfl,rfl,trivial⟩ trivial rfl ?_;rintro n g az aR ⟨i,ii,hi,rfl,ee,rfl,rfl,rfl⟩ bz;clear bz
 by_cases aj:i<2
 ·have q2:ii<2:=by omega
  have q3:0≤ii:=by omega
  obtain⟨L,po,ab5,aeg,sn⟩:∃L:List (List (Int×Int)),[r6 X A,r6 X B][ii.toNat*1]?=some (r6 X L)∧L.length≤4611686018427387904∧(∀j r,L[j]?=some r→X.xs[sH A B i+j]?=some [.w (.one (lC r))])∧sH A B (i+1)=sH A B i+L.length:=by
   have Ji:i=0∨i=1:=by omega
   rw[hxs];rcases Ji with rfl|rfl
   ·subst ee;refine⟨A,rfl,ct,fun j r af => ?_,by simp[sH]⟩;have a8:=(bq.1 af).1;rw[show sH A B 0+j=j from ib j,sR,dt,fK a8,af];rfl
   ·subst ee;refine⟨B,rfl,cX,fun j r af => ?_,by simp[sH]⟩;rw[show sH A B 1+j=A.length+j from rfl,sR,dt,gq (by omega),show A.length+j-A.length=j by omega,af];rfl
  (repeat first|(with_reducible apply ga);rfl|(with_reducible apply rY);(iterate 3 rfl)|(with_reducible apply NK);(iterate 3 rfl);(omega);(omega);(assumption);rfl|(with_reducible first|apply s0|apply o7|apply dC)|(with_reducible apply zQ);assumption|with_reducible apply zN|(with_reducible apply zP);rfl;(exact b5 (by omega))|(with_reducible apply qC);assumption);refine Hp 24 (XL X A B L (sH A B i) ii) L.length _ [] ⟨0,0,dk _,rfl,rfl,rfl,rfl,rfl⟩ rfl ⟨rfl,rfl,rfl,rfl,rfl,rfl,trivial⟩ trivial rfl ?_;rintro n g az aR ⟨j,de,af,rfl,jy,rfl,rfl,rfl⟩ bz;clear bz
  by_cases hp:j<L.length
  ·have p2:de<(L.length:Int):=by omega
   have p3:0≤de:=by omega
   obtain⟨r,g1⟩:∃r,L[j]?=some r:=⟨_,bB hp⟩;have jt:=age (f:=yk X.U X.cD) jy g1;have ab:=aeg j r g1;(repeat first|(with_reducible apply ga);rfl|(with_reducible apply As);(iterate 5 rfl)|(with_reducible apply Ar);(iterate 3 rfl);(omega);(omega);(assumption);rfl|(with_reducible first|apply s0|apply o7|apply dC)|(with_reducible apply zQ);assumption|with_reducible apply zN|(with_reducible apply zP);rfl;(exact b5 (by omega))|refine amg (ri:=6) (k:=2) (by assumption) rfl ?_|(with_reducible apply qC);assumption);refine⟨ke (Nat.lt_succ_self _) (cn rfl),rfl,_,[.w (.one (yk X.U X.cD r))],ab,rfl,pM.cons (s3.IU _) pM.nil,?_,?_⟩
   ·(repeat first|(with_reducible apply ga);rfl|(with_reducible apply wk);(iterate 3 rfl);(exact kC (by omega));rfl|(with_reducible first|apply o7|apply dC)|(with_reducible apply zQ);assumption|with_reducible apply Hk|(with_reducible apply zO);rfl;(rfl)|(with_reducible apply qC);assumption);exact⟨L.length-(j+1),_,[],by omega,⟨j+1,de+1,hp,rfl,by omega,rfl,rfl,rfl⟩,rfl,⟨rfl,rfl,rfl,rfl,rfl,rfl,trivial⟩,trivial,rfl⟩
   ·(repeat first|(with_reducible apply ga);rfl|(with_reducible first|apply o7|apply dC|apply Wk)|(with_reducible apply Wm);assumption|with_reducible apply Wi|(with_reducible apply zP);rfl;(rfl));exact⟨.inr rfl,.inl rfl⟩
  ·have e:j=L.length:=by omega
   subst e;(repeat first|(with_reducible apply ga);rfl|(with_reducible apply wk);(iterate 3 rfl);(exact kC (by omega));rfl|(with_reducible first|apply s0|apply o7|apply dC|apply Hk|apply Hl)|(with_reducible apply Ho);assumption|with_reducible apply Hm|(with_reducible apply zO);rfl;(exact cc (by omega))|(with_reducible apply qC);assumption);exact⟨2-(i+1),_,[],by omega,⟨i+1,ii+1,aj,rfl,by omega,by rw[sn],rfl,rfl⟩,rfl,⟨rfl,rfl,rfl,trivial⟩,trivial,rfl⟩
 ·have e:i=2:=by omega
  subst e;(repeat first|(with_reducible apply ga);rfl|(with_reducible first|apply s0|apply o7|apply dC|apply Hl)|(with_reducible apply Ho);assumption|with_reducible apply Hm|(with_reducible apply zO);rfl;(exact cc (by omega))|(with_reducible apply qC);assumption);exact⟨.inl rfl,.inr (by simp[sH,sR])⟩
instance anQ:nn ah 28 95 5 40:=⟨by kernel_rfl⟩
abbrev yj(v:Value)(l:List (Int×((Int×Int)×(Int×Int)))):bE:=⟨95,5,v,l.length,n3 l⟩
def cJ(A B:List (List (Int×Int))):List (Int×((Int×Int)×(Int×Int))):=(ir A).map (fun e=>(0,e))++(ir B).map fun e=>(1,e)
theorem aaw(v:Value)(l:List (Int×((Int×Int)×(Int×Int))))(x:Int×((Int×Int)×(Int×Int))):yj v (l++[x])=⟨95,5,v,l.length+1,n3 l++Ex x⟩:=by
 simp[yj,n3,sK]
theorem Y3{A B:List (List (Int×Int))}{i:Nat}{e:(Int×Int)×(Int×Int)}(h:(ir A)[i]?=some e):(cJ A B)[i]?=some (0,e):=by
 have hi:=(bq.1 h).1;unfold cJ;rw[fK (by simpa using hi),dt,h];rfl
theorem Y4{A B:List (List (Int×Int))}{i:Nat}{e:(Int×Int)×(Int×Int)}(h:(ir B)[i]?=some e):(cJ A B)[(ir A).length+i]?=some (1,e):=by
 unfold cJ;rw[gq (by simp),iD,Nat.add_sub_cancel_left,dt,h];rfl
theorem NP(A B:List (List (Int×Int))):(cJ A B).length=(ir A).length+(ir B).length:=by simp[cJ]
def oZ(A B:List (List (Int×Int)))(i:Nat):Nat:=if i=0 then 0 else if i=1 then(ir A).length else(ir A).length+(ir B).length
def WV(A B:List (List (Int×Int)))(k:Nat)(R:aF)(az:List (Nat×ag))(aR:List (Nat×List AC)):Prop :=
 ∃(i:Nat) (ii:Int) (v:Value),i≤2∧k=2-i∧ii=i∧v.oneCell'=true∧R=bp 0 (yj v ((cJ A B).take (oZ A B i)))∧aR=[(1003,[.c v])]∧az=[(3,zF 1003),(9,.w (.agg [hf A,hf B])),(10,aL ii)]
def WU(M:List (Int×((Int×Int)×(Int×Int))))(ii:Int)(b:Nat)(i:Nat)(R:aF)(cV:List (List AC)):Prop:=∃v,v.oneCell'=true∧R=bp 0 (yj v (M.take (b+i)))∧cV=[[.c v],[.c (.int .i64 ii)]]
theorem Lr{A B:List (List (Int×Int))}{op fill rung cap:Int}(ct:A.length≤900000)(cX:B.length≤900000)(yr:∀r∈A,r.length≤900000)(yt:∀r∈B,r.length≤900000)(gh:(cJ A B).length≤900000) :
  aO ah 57 [.w (.agg (hL A B op fill rung cap))] (cF 5 (cJ A B).length (n3 (cJ A B))):=by
 have eV:aO ah 104 [.w (.agg (hL A B op fill rung cap))] (.w (.agg [hf A,hf B])):=Td;refine LC (f:=57) Tryz.func57 rfl rfl rfl rfl ?_;(repeat first|refine b9 ?_|refine gP ?_|(with_reducible first|apply xD|apply vI|apply GV));refine CU (swp 3 1003) (lZ _ _) ?_;refine akG 0 95 5 rfl ?_;refine akF 27 (WV A B) 2 _ _ _ ⟨0,0,.slice none 0 0,dk _,rfl,rfl,rfl,rfl,rfl,rfl⟩ (kj _ _ _) rfl ⟨rfl,rfl,rfl,trivial⟩ ⟨rfl,trivial⟩ rfl ?_;rintro n R az aR ⟨i,ii,v,hi,rfl,ee,hv,rfl,rfl,rfl⟩ bz;clear bz
 by_cases aj:i<2
 ·have q2:ii<2:=by omega
  have q3:0≤ii:=by omega
  obtain⟨L,po,ab5,ab6,fB,sn⟩:∃L:List (List (Int×Int)),[hf A,hf B][ii.toNat*1]?=some (hf L)∧L.length≤900000∧(∀r∈L,r.length≤900000)∧(∀(j:Nat) e,(ir L)[j]?=some e→(cJ A B)[oZ A B i+j]?=some (ii,e))∧oZ A B (i+1)=oZ A B i+(ir L).length:=by
   have Ji:i=0∨i=1:=by omega
   rcases Ji with rfl|rfl
   ·subst ee;refine⟨A,rfl,ct,yr,fun j e he => ?_,by simp[oZ]⟩;rw[show oZ A B 0+j=j from ib j];exact Y3 he
   ·subst ee;exact⟨B,rfl,cX,yt,fun j e he=>Y4 he,by simp[oZ]⟩
  have jU:=aib L;have nl:=aeJ (L:=L) (by omega) (fun r ao=>by have:=ab6 r ao;omega);(repeat first|refine b9 ?_|refine gP ?_|(with_reducible first|apply xD|apply vI|apply akH|apply GV)|(with_reducible apply akC);rfl;(exact b5 (by omega)));refine CU (swp 4 1004) (lZ _ _) ?_;refine L8 27 [(3,zF 1003),(4,zF 1004),(9,.w (.agg [hf A,hf B])),(10,aL ii)] [1003,1004] [[.c v],[.c (.int .i64 ii)]] (bp 0 (yj v ((cJ A B).take (oZ A B i)))) (WU (cJ A B) ii (oZ A B i)) (fun _ _ _=>False) rfl nl (by decide) ?hxs ?hp rfl ⟨rfl,rfl,rfl,rfl,trivial⟩ ⟨rfl,rfl,trivial⟩ (by decide) rfl rfl ⟨v,hv,rfl,rfl⟩ (bc.refl _) (TH (gE _)) ?round ?done (fun _ _ _ _ _ h=>h.elim)
  case hxs =>
   intro x ab;obtain⟨e,_,rfl⟩:=fE.1 ab;exact⟨rfl,rfl⟩
  case hp =>
   intro p hp;simp only[fg,sL,or_false] at hp;rcases hp with rfl|rfl <;> exact⟨by decide,rfl⟩
  case round =>
   rintro j x R cV ab ⟨v,hv,rfl,rfl⟩ bz;rw[dt] at ab;obtain⟨⟨⟨dd,jP⟩,dj,mD⟩,he,rfl⟩:=Option.map_eq_some_iff.1 ab;clear ab bz;have aC:=take_one (fB _ _ he);have yP:((cJ A B).take (oZ A B i+j)).length≤900000:=by rw[dY];omega
   (refine aT ?_);refine mm 0 rfl rfl rfl rfl ?q1 ?q2 rfl rfl (fun ba bT => ?_)
   case q1=>exact eO (m:=1000000) (by show ((cJ A B).take (oZ A B i+j)).length+1≤1000000;omega) (by decide)
   case q2=>show (((cJ A B).take (oZ A B i+j)).length+1)*40≤140737488355328;omega
   (refine aT ?_);refine⟨_,_,⟨ba,bT,rfl,rfl⟩,?_,TH (gE _),rfl,⟨rfl,rfl,trivial⟩,rfl⟩;rw[←ox,aC,aaw];exact kj _ _ _
  case done =>
   rintro R cV ⟨v,hv,rfl,rfl⟩ bz;clear bz;rw[iD];(repeat first|refine b9 ?_|with_reducible apply vI);exact⟨2-(i+1),_,_,_,by omega,⟨i+1,ii+1,v,by omega,rfl,by omega,hv,rfl,rfl,rfl⟩,by rw[sn];exact bc.refl _,rfl,⟨rfl,rfl,rfl,trivial⟩,⟨rfl,trivial⟩,rfl⟩
 ·have e:i=2:=by omega
  subst e;have cr:(cJ A B).take (oZ A B 2)=cJ A B:=fL (by rw[NP];simp[oZ]);rw[cr];have q4:¬ii<2:=by omega
  refine akD 0 1003 0 (yj v (cJ A B)) rfl rfl rfl ?_;(repeat first|refine b9 ?_|(with_reducible first|apply xD|apply vI|apply L9|apply akE)|(with_reducible apply akB);rfl;(exact cc (by omega)))
  ((refine bk rfl (aY rfl aM) ?_))
  exact ag.aU.refl _
end Go.Proofs.YtklpfooafbjnpaaGreat
