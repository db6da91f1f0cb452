/-
  My own texts,without what this claim does not need. My own text.
-/
import Derived.Conc.LoneCalls
import Derived.Conc.LoneSelectN
import Derived.Conc.SmallLaws
import Derived.Conc.EventLaws
import Derived.Test.YtklpfooafbjnpaaGreatSLClimbsK10
set_option maxRecDepth 100000
set_option maxHeartbeats 64000000
set_option linter.unusedVariables false
set_option linter.unusedSimpArgs false
set_option linter.unusedSectionVars false
open Go.Proofs.Tryz renaming prog → ah
namespace Go.Proofs.YtklpfooafbjnpaaGreat
open Go.RowKit
def WE:Prop:=∀(V:List aq) (D:List Int),V.length≤1100→D.length≤1100→aP ah 155 [pO V D] (pO V D)
theorem ZG:ag.aW (.w (.agg [.c (.slice none 0 0),.c (.slice none 0 0)])) (pO [] []):=D2 rfl fun j x y ab ai=>by
 match j with
 | 0=>cases ab;cases ai;exact .inr ⟨rfl,2,rfl⟩
 | 1=>cases ab;cases ai;exact .inr ⟨rfl,1,rfl⟩
 | j+2=>simp at ab
theorem aiE{V l:List aq}{f t:Int}(ay:0≤f∧f≤V.length)(aE:0≤t∧t≤V.length)(mT:V.length≤10000)(al:l.length≤10000):aP ah 196 [gD V,aL f,aL t,gD l] (gD (V.take f.toNat++l++V.drop t.toNat)):=by
 have J:=Tv (LL:=[V.take f.toNat,l,V.drop t.toNat]) (by show 3≤1100;decide) (by simp[c3];omega);have cB:[V.take f.toNat,l,V.drop t.toNat].flatten=V.take f.toNat++l++V.drop t.toNat:=by simp
 rw[cB] at J
 replace J:aP ah 217 [cG 1 3 [.p (b6 2 (V.take f.toNat).length (b0 (V.take f.toNat))),.p (b6 2 l.length (b0 l)),.p (b6 2 (V.drop t.toNat).length (b0 (V.drop t.toNat)))]] (gD (V.take f.toNat++l++V.drop t.toNat)):=J
 have a1:0≤f:=ay.1;have a2:f≤f:=o6 f;have a3:f≤V.length:=ay.2;have a4:0≤t:=aE.1;have a5:t≤V.length:=aE.2;have a6:(V.length:Int)≤V.length:=o6 _;have m1:f.toNat-0=(V.take f.toNat).length:=by rw[dX];omega
 have aI:((b0 V).drop (0*2)).take ((V.take f.toNat).length*2)=b0 (V.take f.toNat):=by
  have h:b0 V=b0 (V.take f.toNat)++b0 (V.drop f.toNat):=by rw[←tO,ki]
  rw[h,Nat.zero_mul,List.drop_zero,←oy,List.take_left]
 have m2:(V.length:Int).toNat-t.toNat=(V.drop t.toNat).length:=by rw[iO];omega
 have aO:((b0 V).drop (t.toNat*2)).take ((V.drop t.toNat).length*2)=b0 (V.drop t.toNat):=by
  have h:b0 V=b0 (V.take t.toNat)++b0 (V.drop t.toNat):=by rw[←tO,ki]
  rw[h,show t.toNat*2=(b0 (V.take t.toNat)).length by rw[oy,dX];omega,List.drop_left,Rq rfl]
 refine bq (f:=196) Tryz.func196 rfl rfl rfl rfl ?_;(repeat first|refine dd ?_|refine fX ?_|(with_reducible apply Ia);(iterate 4 rfl);(assumption);(assumption);(assumption);(assumption);(assumption);rfl|(with_reducible apply Ib);(iterate 5 rfl);(assumption);(assumption);(assumption);(assumption);(assumption);(assumption);rfl)
 ((refine bn rfl (bb rfl aM) ?_))
 exact ag.aW.refl _
theorem aiD{V l:List Int}{f t:Int}(ay:0≤f∧f≤V.length)(aE:0≤t∧t≤V.length)(mT:V.length≤10000)(al:l.length≤10000):aP ah 197 [n0 V,aL f,aL t,n0 l] (n0 (V.take f.toNat++l++V.drop t.toNat)):=by
 have J:=Tu (LL:=[V.take f.toNat,l,V.drop t.toNat]) (by show 3≤1100;decide) (by simp[c3];omega);have cB:[V.take f.toNat,l,V.drop t.toNat].flatten=V.take f.toNat++l++V.drop t.toNat:=by simp
 rw[cB] at J
 replace J:aP ah 218 [cG 1 3 [.p (b6 1 (V.take f.toNat).length (cK (V.take f.toNat))),.p (b6 1 l.length (cK l)),.p (b6 1 (V.drop t.toNat).length (cK (V.drop t.toNat)))]] (n0 (V.take f.toNat++l++V.drop t.toNat)):=J
 have a1:0≤f:=ay.1;have a2:f≤f:=o6 f;have a3:f≤V.length:=ay.2;have a4:0≤t:=aE.1;have a5:t≤V.length:=aE.2;have a6:(V.length:Int)≤V.length:=o6 _;have m1:f.toNat-0=(V.take f.toNat).length:=by rw[dX];omega
 have aI:((cK V).drop (0*1)).take ((V.take f.toNat).length*1)=cK (V.take f.toNat):=by
  have h:cK V=cK (V.take f.toNat)++cK (V.drop f.toNat):=by rw[←BX,ki]
  rw[h,Nat.zero_mul,List.drop_zero,←FM,List.take_left]
 have m2:(V.length:Int).toNat-t.toNat=(V.drop t.toNat).length:=by rw[iO];omega
 have aO:((cK V).drop (t.toNat*1)).take ((V.drop t.toNat).length*1)=cK (V.drop t.toNat):=by
  have h:cK V=cK (V.take t.toNat)++cK (V.drop t.toNat):=by rw[←BX,ki]
  rw[h,show t.toNat*1=(cK (V.take t.toNat)).length by rw[FM,dX];omega,List.drop_left,Rc rfl]
 refine bq (f:=197) Tryz.func197 rfl rfl rfl rfl ?_;(repeat first|refine dd ?_|refine fX ?_|(with_reducible apply Ia);(iterate 4 rfl);(assumption);(assumption);(assumption);(assumption);(assumption);rfl|(with_reducible apply Ib);(iterate 5 rfl);(assumption);(assumption);(assumption);(assumption);(assumption);(assumption);rfl)
 ((refine bn rfl (bb rfl aM) ?_))
 exact ag.aW.refl _
theorem Rw:WE:=by
 intro V D aa hd;have HK:=Tv (LL:=[V]) (by show 1≤1100;decide) (by simp;omega);have HL:=Tu (LL:=[D]) (by show 1≤1100;decide) (by simp;omega);rw[show [V].flatten=V by simp] at HK;rw[show [D].flatten=D by simp] at HL
 replace HK:aP ah 217 [cG 1 1 [.p (b6 2 V.length (b0 V))]] (gD V):=HK
 replace HL:aP ah 218 [cG 1 1 [.p (b6 1 D.length (cK D))]] (n0 D):=HL
 refine bq (f:=155) Tryz.func155 rfl rfl rfl rfl ?_;(refine cR ?_)
 ((refine bn rfl (da rfl rfl rfl aM) ?_))
 exact ag.aW.refl _
theorem alN{xs ys:List bH}(al:xs.length=ys.length)(h:∀(i:Nat) x y,xs[i]?=some x→ys[i]?=some y→ag.aW (.w x) (.w y)):ag.aW (.cj xs) (.cj ys):=fun U ad W v hv=>by
 obtain⟨vs,e,aA,ba⟩:=hv
 exact⟨vs,e,by rw[←al];exact aA,fun i y u ai hu=>by
  have hi:i<xs.length:=by rw[al];exact(bt.1 ai).1
  exact h i _ y (bF hi) ai U ad W u (ba i _ u (bF hi) hu)⟩
theorem aaU:ag.aW (.cj [.agg [.c (.slice none 0 0),.c (.slice none 0 0)],.one (.c (.bool false))]) (.cj [.agg (xf [] []),.one (.c (.bool false))]):=alN rfl fun i x y ab ai=>by
 match i with
 | 0=>cases ab;cases ai;exact ZG
 | 1=>cases ab;cases ai;exact ag.aW.refl _
 | i+2=>simp at ab
theorem alm{V l:List aq}{D:List Int}{j:Nat}(aa:V.length≤1100)(hd:D.length≤1100)(af:j≤1100)
  (cs:(j:Int)≥D.length∨(¬(j:Int)≥D.length∧(j:Int)≥(V.length:Int)-1)∨(¬(j:Int)≥D.length∧¬(j:Int)≥(V.length:Int)-1∧(l.length:Int)=0)):aP ah 139 [pO V D,aL j,gD l] (.cj [.agg (xf [] []),.one (.c (.bool false))]):=by
 have dt:¬(j:Int)<0:=by omega
 generalize (j:Int)=dl at *;rcases cs with q1|⟨q1,q2⟩|⟨q1,q2,q3⟩
 all_goals
  refine bq (f:=139) Tryz.func139 rfl rfl rfl rfl ?_;(repeat first|refine dd ?_|(with_reducible apply bU (c:=true));rfl;rfl;(exact cd (by omega))|(with_reducible apply bU (c:=false));rfl;rfl;(exact cb (by omega)))
  ((refine bn rfl (da rfl rfl rfl (bb rfl aM)) ?_))
  exact aaU
theorem aln{V l:List aq}{D:List Int}{j:Nat}{dl p9:Int}(kz:dl=j)(si:D[j]?=some p9)(P7:1≤p9∧p9≤1048576)(al:0<l.length)(e8:V.length=D.length+1)(aa:V.length≤1100)(P4:l.length≤1100):aP ah 139 [pO V D,aL dl,gD l] (.cj [.agg (xf (G6 V j l) (C2 D j l.length)),.one (.c (.bool true))]):=by
 have Fl:j<D.length:=(bt.1 si).1;have dt:¬dl<0:=by omega
 have q1:¬dl≥D.length:=by omega
 have q2:¬dl≥(V.length:Int)-1:=by omega
 have q3:¬(l.length:Int)=0:=by omega
 have q4:dl<(D.length:Int):=by omega
 have hL:=xa kz si;have fw:=ahY (d:=p9+1) (m:=l.length+1) (by omega) (by omega);have h8:=aiE (V:=V) (l:=l) (f:=dl+1) (t:=dl+1) (by omega) (by omega) (by omega) (by omega);have Xx:=aiD (V:=D) (l:=List.replicate (l.length+1) (p9+1)) (f:=dl) (t:=dl+1) (by omega) (by omega) (by omega) (by rw[List.length_replicate];omega);have aI:(dl+1).toNat=j+1:=by omega
 have aO:dl.toNat=j:=by omega
 have cf:D.getD j 0=p9:=by simp[List.getD,si]
 have ei:D.take j++List.replicate (l.length+1) (p9+1)++D.drop (j+1)=C2 D j l.length:=by unfold C2;rw[cf]
 have jo:V.take (j+1)++l++V.drop (j+1)=G6 V j l:=rfl;rw[aI,jo] at h8;rw[aI,aO,ei] at Xx;have qb:(((l.length+1:Nat):Int))=(l.length:Int)+1:=by omega
 rw[qb] at fw;clear aI aO cf ei jo qb;generalize G6 V j l=Nq at *;generalize C2 D j l.length=xW at *;generalize List.replicate (l.length+1) (p9+1)=T at *;refine bq (f:=139) Tryz.func139 rfl rfl rfl rfl ?_;(repeat first|refine dd ?_|refine fX ?_|refine lM h8 ?_|(with_reducible apply bU (c:=false));rfl;rfl;(exact cb (by omega)))
 ((refine bn rfl (da rfl rfl rfl (bb rfl aM)) ?_))
 exact ag.aW.refl _
theorem ae7:WN:=by
 intro V D j l mT aa P4 af pt;cases al:l with
 | nil=>exact alm (V:=V) (D:=D) (l:=[]) (j:=j) (by omega) (by omega) (by omega) (.inr (.inr ⟨by omega,by omega,rfl⟩))
 | cons p m =>
  rw[←al];have e:l.isEmpty=false:=by rw[al];rfl
  rw[e];have om:0<l.length:=by rw[al];exact gJ _
  obtain⟨p9,si⟩:∃p9,D[j]?=some p9:=⟨_,bF af⟩;exact aln (V:=V) (l:=l) (D:=D) (j:=j) rfl si (pt p9 (cP si)) om mT aa P4
theorem ZH(V:List aq):ag.aW (.w (.agg [.p (b6 2 V.length (b0 V)),.c (.slice none 0 0)])) (pO V []):=D2 rfl fun j x y ab ai=>by
 match j with
 | 0=>cases ab;cases ai;exact .inl rfl
 | 1=>cases ab;cases ai;exact .inr ⟨rfl,1,rfl⟩
 | j+2=>simp at ab
theorem ae1:WI:=by
 intro x y z w;cases aj:dG x y z w with
 | true =>
  obtain⟨rfl,rfl⟩:=tm.1 aj;rw[show xn (x,y) (x,y)=[(x,y)] from if_pos rfl,show xm (x,y) (x,y)=[] from if_pos rfl];refine bq (f:=191) Tryz.func191 rfl rfl rfl rfl ?_;(refine fi ?_)
  ((refine bn rfl (da rfl rfl rfl aM) ?_))
  exact ZH [(x,y)]
 | false =>
  have aA:¬((x,y):aq)=(z,w):=fun e=>by
   have:=tm.2 (⟨congrArg Prod.fst e,congrArg Prod.snd e⟩:x=z∧y=w);rw[aj] at this;cases this
  rw[show xn (x,y) (z,w)=[(x,y),(z,w)] from if_neg aA,show xm (x,y) (z,w)=[1] from if_neg aA];refine bq (f:=191) Tryz.func191 rfl rfl rfl rfl ?_;(refine fi ?_)
  ((refine bn rfl (da rfl rfl rfl aM) ?_))
  exact ag.aW.refl _
def WW(V:List aq)(D:List Int)(n:Nat)(az:List (Nat×ag))(aS:List (Nat×List AC)):Prop :=
 ∃(k:Nat) (ek d:Int),k≤D.length∧n=D.length-k∧ek=k∧d=mP (D.take k)∧aS=[(1,xf V D)]∧az=[(1,VZ 1),(3,aL d),(7,cG 1 D.length (cK D)),(8,aL D.length),(9,aL ek)]
theorem aal{D:List Int}{k:Nat}{d:Int}(h:D[k]?=some d):mP (D.take (k+1))=max (mP (D.take k)) d:=by
 have ae:=(bt.1 h).1
 have e:D.take (k+1)=D.take k++[d]:=by
  rw[lH ae,(bt.1 h).2]
 unfold mP;rw[e,List.foldl_append];rfl
theorem Rx:MS:=by
 intro V D aa hd;refine bq (f:=76) Tryz.func76 rfl rfl rfl rfl ?_;(refine fi ?_);refine qZ 18 (WW V D) D.length _ [(1,xf V D)] ⟨0,0,0,du _,rfl,rfl,rfl,rfl,rfl⟩ rfl ⟨rfl,rfl,rfl,rfl,rfl,trivial⟩ ⟨rfl,trivial⟩ rfl ?_;rintro n az aS ⟨k,ek,d,ae,rfl,lZ,vb,rfl,rfl⟩ bC;clear bC
 by_cases aj:k<D.length
 ·have q2:ek<(D.length:Int):=by omega
  have q3:0≤ek:=by omega
  obtain⟨e,g1⟩:∃e,D[k]?=some e:=⟨_,bF aj⟩;have hL:=xa lZ g1;have aE:=aal g1;rw[←vb,show max d e=if e>d then e else d by split <;> omega] at aE;(refine fi ?_);exact⟨D.length-(k+1),_,[(1,xf V D)],by omega,⟨k+1,ek+1,_,by omega,rfl,by omega,aE.symm,rfl,rfl⟩,rfl,⟨rfl,rfl,rfl,rfl,rfl,trivial⟩,⟨rfl,trivial⟩,rfl⟩
 ·have q2:¬ek<(D.length:Int):=by omega
  have cB:D.take k=D:=gB (by omega);rw[cB] at vb;rw[←vb];(refine fi ?_)
  ((refine bn rfl (bb rfl aM) ?_))
  exact ag.aW.refl _
def oc(r:Int)(L:List aq)(x y:Int):List aq:=if 0≤hB L x y then L else if r≤(L.length:Int) then L else L++[(x,y)]
def kT(r:Int)(L:List aq)(x y:Int):Bool:=if 0≤hB L x y then false else if r≤(L.length:Int) then false else true
def ob(r:Int)(L:List aq)(x y:Int):Int:=if 0≤hB L x y then 0 else if r≤(L.length:Int) then 90 else 0
theorem sE{L:List aq}{x y:Int}:0≤hB L x y↔(x,y)∈L:=by
 unfold hB;cases h:L.findIdx? fun e=>decide (e.1=x)&&decide (e.2=y) with
 | none =>
  rw[List.findIdx?_eq_none_iff] at h;refine⟨fun aK=>absurd aK (by decide),fun aK => ?_⟩;have:=h _ aK;simp at this
 | some k =>
  obtain⟨ae,h1,_⟩:=List.findIdx?_eq_some_iff_getElem.1 h;simp only[ef,cV] at h1;refine⟨fun _ => ?_,fun _=>Int.natCast_nonneg k⟩;have:L[k]=(x,y):=la h1.1 h1.2;rw[←this];exact List.getElem_mem ae
abbrev Ak:=Int→List aq→Value→dS→Prop
def WJ(rY:Ak):Prop:=∀n:Int,HX ah 60 [aL n] fun p S=>∃b,p=bJ b∧rY (qH n) [] p S
def WD(rY:Ak):Prop:=∀(r:Int) L b S (x y:Int),rY r L (bJ b) S→L.length≤1100→x9 ah 146 [aR (bJ b),bm x y] (bJ b) S fun v S'=>v = .cj [.one (.c (.bool (kT r L x y))),.one (.c (.int .i64 (ob r L x y)))]∧rY r (oc r L x y) (bJ b) S'
def WM(rY:Ak):Prop:=∀(r:Int) L b S,rY r L (bJ b) S→L.length≤1100→x9 ah 62 [aR (bJ b)] (bJ b) S fun v S'=>v=aL r∧rY r L (bJ b) S'
def WK(rY:Ak):Prop:=∀(r:Int) L b S (x y:Int),rY r L (bJ b) S→L.length≤1100→x9 ah 203 [aR (bJ b),bm x y] (bJ b) S fun v S'=>∃k:Int,v = .cj [.one (.c (.int .i64 k)),.one (.c (.bool (decide (0≤hB L x y))))]∧(0≤hB L x y→k=hB L x y)∧rY r L (bJ b) S'
end Go.Proofs.YtklpfooafbjnpaaGreat
namespace Go.Proofs.YtklpfooafbjnpaaGreat
def fs(l:List dJ)(x y:Int):Nat:=(vC l x y).length
theorem TR(l:List dJ)(x y:Int):fs l x y≤l.length:=ajl l x y
theorem zi:∀ {l:List dJ} (h:ls l) (x y:Int) (k:Nat) (e:dJ),l[k]?=some e→(k<fs l x y↔nS e.1 e.2.1 x y=true)
 | [],_,_,_,k,e,ae=>by simp at ae
 | f::l,h,x,y,k,e,ae=>by
  have ak:=kj.1 h
  by_cases ay:nS f.1 f.2.1 x y=true
  ·have hp:fs (f::l) x y=fs l x y+1:=by
    unfold fs vC;rw[List.filter_cons,if_pos ay];rfl
   rw[hp];cases k with
   | zero=>simp at ae;subst ae;simp[ay]
   | succ k =>
    have:=zi ak.2 x y k e (by simpa using ae);rw[←this];omega
  ·have dN:∀g∈f::l,¬nS g.1 g.2.1 x y=true:=by
    intro g aw;rcases fg.1 aw with rfl|aw
    ·exact ay
    ·have h1:=ak.1 g aw;rw[qw] at h1 ay ⊢;omega
   have hp:fs (f::l) x y=0:=by
    unfold fs vC;rw[List.filter_eq_nil_iff.2 dN];rfl
   rw[hp];have:=dN e (cP ae);simp[this]
theorem Mr{l:List dJ}(h:ls l){x y:Int}:∀e∈l.take (fs l x y),nS e.1 e.2.1 x y=true:=by
 intro e he;obtain⟨k,ae⟩:=kJ he;have bc:=(bt.1 ae).1;rw[dX] at bc;rw[gq (by omega)] at ae;exact(zi h x y k e ae).1 (by omega)
theorem OT{l:List dJ}(h:ls l){x y:Int}:∀e∈l.drop (fs l x y),¬nS e.1 e.2.1 x y=true:=by
 intro e he;obtain⟨k,ae⟩:=kJ he;rw[gU] at ae;intro bc;have:=(zi h x y _ e ae).2 bc;omega
theorem T5{l:List dJ}(h:ls l){x y:Int}:vC l x y=l.take (fs l x y):=by
 conv=>lhs;rw[←ki (fs l x y) l]
 unfold vC;rw[List.filter_append,List.filter_eq_self.2 (Mr h),List.filter_eq_nil_iff.2 (OT h),nk]
theorem E6{l:List dJ}(h:ls l){x y:Int}:iF l x y=true↔∃u,l[fs l x y]?=some (x,y,u):=by
 constructor
 ·intro ba;unfold iF at ba;rw[List.any_eq_true] at ba;obtain⟨e,he,aj⟩:=ba;simp only[ef,cV] at aj;obtain⟨k,ae⟩:=kJ he;have h1:=zi h x y k e ae;have h2:¬k<fs l x y:=by rw[h1,qw];omega
  have yI:=(bt.1 ae).1;have nI:fs l x y<l.length:=by omega
  have hp:=bF nI;have ar:=zi h x y _ _ hp
  by_cases e':k=fs l x y
  ·refine⟨e.2.2,?_⟩;rw[←e',ae];exact congrArg some (la aj.1 (la aj.2 rfl))
  ·exfalso;have aJ:=List.pairwise_iff_getElem.1 h (fs l x y) k nI yI (by omega);have hq:l[k]=e:=(bt.1 ae).2;rw[hq,qw] at aJ;have bO:nS l[fs l x y].1 l[fs l x y].2.1 x y=true:=by rw[qw];omega
   have:=ar.2 bO;omega
 ·rintro⟨u,hu⟩;exact List.any_eq_true.2 ⟨_,cP hu,by simp⟩
theorem aam{l:List dJ}(h:ls l){x y:Int}(aA:iF l x y=false):∀e∈l.drop (fs l x y),nS x y e.1 e.2.1=true:=by
 intro e he;have h1:=OT h e he
 have h2:¬(e.1=x∧e.2.1=y):=by
  rintro⟨ar,aJ⟩;have:iF l x y=true:=List.any_eq_true.2 ⟨_,oE he,by simp[ar,aJ]⟩;rw[aA] at this;cases this
 rw[qw] at *;omega
theorem T6{l:List dJ}(h:ls l){x y v:Int}(aA:iF l x y=false):ua l x y v=l.take (fs l x y)++(x,y,v)::l.drop (fs l x y):=by
 unfold ua;rw[T5 h];congr 2
 conv=>lhs;rw[←ki (fs l x y) l]
 unfold GC;rw[List.filter_append,List.filter_eq_self.2 (aam h aA),List.filter_eq_nil_iff.2 fun e he => ?_,uf];have:=Mr h e he;rw[qw] at *;omega
theorem ajm{l:List dJ}(h:ls l){x y v u:Int}(hp:l[fs l x y]?=some (x,y,u)):ua l x y v=l.take (fs l x y)++(x,y,v)::l.drop (fs l x y+1):=by
 unfold ua;rw[T5 h];congr 2;have al:=(bt.1 hp).1;have he:=(bt.1 hp).2
 conv=>lhs;rw[←ki (fs l x y) l]
 unfold GC;rw[List.filter_append,List.filter_eq_nil_iff.2 (fun e he=>by have:=Mr h e he;rw[qw] at *;omega),uf,jU al,he,List.filter_cons_of_neg (by rw[qw];simp)];refine List.filter_eq_self.2 fun e hm => ?_;obtain⟨k,ae⟩:=kJ hm;rw[gU] at ae;have yI:=(bt.1 ae).1;have aJ:=List.pairwise_iff_getElem.1 h (fs l x y) _ al yI (by omega);rw[he,(bt.1 ae).2] at aJ;exact aJ
theorem al2{l:List dJ}(h:ls l){x y u:Int}(hp:l[fs l x y]?=some (x,y,u)):iF l x y=true∧pR l x y=u:=V2 h (cP hp)
abbrev aje(e:dJ):aq:=(e.1,e.2.1)
def qv:Nat→List aq→List dJ
 | _,[]=>[]
 | k,p::l=>(p.1,p.2,(k:Int))::qv (k+1) l
theorem SN:∀(k:Nat) (l:List aq) (p:aq),qv k (l++[p])=qv k l++[(p.1,p.2,((k+l.length:Nat):Int))]
 | k,[],p=>by simp[qv]
 | k,q::l,p=>by
  simp only[ud,qv,SN (k+1) l p,hX];rw[show k+1+l.length=k+(l.length+1) by omega]
theorem SO:∀(k:Nat) (l:List aq),(qv k l).map aje=l
 | _,[]=>rfl
 | k,p::l=>by simp only[qv,hY,SO (k+1) l]
theorem ag3(k:Nat)(l:List aq):(qv k l).length=l.length:=by
 have:=congrArg List.length (SO k l);rwa [jT] at this
theorem Lk:∀(k:Nat) (l:List aq) (x y w:Int),(x,y,w)∈qv k l↔∃i:Nat,l[i]?=some (x,y)∧w=((k+i:Nat):Int)
 | k,[],x,y,w=>by simp[qv]
 | k,p::l,x,y,w=>by
  rw[qv,fg,Lk (k+1) l x y w]
  constructor
  ·rintro (h|⟨i,h1,h2⟩)
   ·simp only[Prod.mk.injEq] at h;exact⟨0,by rw[xy,h.1,h.2.1],by rw[h.2.2];rfl⟩
   ·exact⟨i+1,by rw[List.getElem?_cons_succ];exact h1,by rw[h2];omega⟩
  ·rintro⟨i,h1,h2⟩
   match i with
   | 0=>rw[xy] at h1;cases h1;exact .inl (by rw[h2];rfl)
   | i+1=>rw[List.getElem?_cons_succ] at h1;exact .inr ⟨i,h1,by rw[h2];omega⟩
def pg(L:List aq)(es:List dJ):Prop:=ls es∧es.Perm (qv 0 L)∧L.Nodup
theorem pg.len{L:List aq}{es:List dJ}(h:pg L es):es.length=L.length:=by rw[h.2.1.length_eq,ag3]
theorem ag4{L:List aq}(aA:L.Nodup){i:Nat}{x y:Int}(h:L[i]?=some (x,y)):hB L x y=(i:Int):=by
 have aF:0≤hB L x y:=sE.2 (cP h);unfold hB at aF ⊢;cases ay:L.findIdx? fun e=>decide (e.1=x)&&decide (e.2=y) with
 | none=>rw[ay] at aF;exact absurd aF (by decide)
 | some k =>
  obtain⟨ae,h1,_⟩:=List.findIdx?_eq_some_iff_getElem.1 ay;simp only[ef,cV] at h1;have aI:L[k]=(x,y):=la h1.1 h1.2;obtain⟨hi,aO⟩:=bt.1 h;have:=(List.getElem_inj (h₀:=ae) (h₁:=hi) aA).1 (aI.trans aO.symm);rw[this]
theorem aci{es:List dJ}{a b:Int}:iF es a b=true↔∃w,(a,b,w)∈es:=by
 unfold iF;rw[List.any_eq_true]
 constructor
 ·rintro⟨⟨p,q,w⟩,h1,h2⟩;simp only[ef,cV] at h2;exact⟨w,by rw[←h2.1,←h2.2];exact h1⟩
 ·rintro⟨w,h⟩;exact⟨_,h,by simp⟩
theorem pg.num{L:List aq}{es:List dJ}(h:pg L es)(x y:Int):iF es x y=decide (0≤hB L x y)∧(0≤hB L x y→pR es x y=hB L x y):=by
 by_cases ba:0≤hB L x y
 ·obtain⟨i,hi⟩:=kJ (sE.1 ba);have hm:(x,y,((0+i:Nat):Int))∈es:=h.2.1.mem_iff.2 ((Lk 0 L x y _).2 ⟨i,hi,rfl⟩);have h1:=V2 h.1 hm;exact⟨by rw[h1.1,cd ba],fun _=>by rw[h1.2,ag4 h.2.2 hi,hZ]⟩
 ·refine⟨?_,fun aK=>absurd aK ba⟩;rw[cb ba];cases he:iF es x y with
  | false=>rfl
  | true =>
   obtain⟨w,hw⟩:=aci.1 he;obtain⟨i,hi,_⟩:=(Lk 0 L x y w).1 (h.2.1.mem_iff.1 hw);exact absurd (sE.2 (cP hi)) ba
theorem pg.add{L:List aq}{es:List dJ}(h:pg L es){x y:Int}(aA:¬ 0≤hB L x y):pg (L++[(x,y)]) (ua es x y L.length):=by
 have cr:iF es x y=false:=by rw[(h.num x y).1];exact cb aA
 refine⟨ajn h.1 x y L.length,?_,?_⟩
 ·rw[T6 h.1 cr,SN,hZ];refine List.perm_middle.trans ?_;rw[ki];refine(h.2.1.cons _).trans ?_;exact(List.perm_append_singleton _ _).symm
 ·rw[List.nodup_append];refine⟨h.2.2,by simp,fun a aX b aa e => ?_⟩;rw[je] at aa;subst aa;subst e;exact aA (sE.2 aX)
theorem pg.nil:pg [] []:=⟨.nil,.refl _,.nil⟩
theorem Yb{r:Int}{L:List aq}{x y:Int}(h:0≤hB L x y):oc r L x y=L∧kT r L x y=false∧ob r L x y=0:=by unfold oc kT ob;rw[if_pos h,if_pos h,if_pos h];exact⟨rfl,rfl,rfl⟩
theorem Ya{r:Int}{L:List aq}{x y:Int}(h:¬ 0≤hB L x y)(h2:r≤(L.length:Int)):oc r L x y=L∧kT r L x y=false∧ob r L x y=90:=by unfold oc kT ob;rw[if_neg h,if_neg h,if_neg h,if_pos h2,if_pos h2,if_pos h2];exact⟨rfl,rfl,rfl⟩
theorem Yc{r:Int}{L:List aq}{x y:Int}(h:¬ 0≤hB L x y)(h2:¬r≤(L.length:Int)):oc r L x y=L++[(x,y)]∧kT r L x y=true∧ob r L x y=0:=by unfold oc kT ob;rw[if_neg h,if_neg h,if_neg h,if_neg h2,if_neg h2,if_neg h2];exact⟨rfl,rfl,rfl⟩
end Go.Proofs.YtklpfooafbjnpaaGreat
namespace Go.Proofs.YtklpfooafbjnpaaGreat
open Go.RowKit
abbrev hW(v:Value)(l:List dJ):bE:=⟨293,3,v,l.length,eC l⟩
end Go.Proofs.YtklpfooafbjnpaaGreat
namespace Go.Proofs.YtklpfooafbjnpaaGreat
theorem S3{a1 a2 b1 b2 p1 p2:Int}(h:cm a1 a2 b1 b2 p1 p2=0):(b2-a2)*a1+(a1-b1)*a2=(b2-a2)*p1+(a1-b1)*p2:=by unfold cm at h;grind
theorem S5{a1 a2 b1 b2 c1 c2 d1 d2 p1 p2:Int}(h:cm a1 a2 b1 b2 p1 p2=0)(k:cm c1 c2 d1 d2 p1 p2=0) :
  k3 a1 a2 b1 b2 c1 c2 d1 d2=p1*dx a1 a2 b1 b2 c1 c2 d1 d2∧k4 a1 a2 b1 b2 c1 c2 d1 d2=p2*dx a1 a2 b1 b2 c1 c2 d1 d2:=by
 have e:=S3 h;have f:=S3 k;unfold k3 k4 dx;rw[e,f]
 constructor <;> grind
theorem Gg(p w:Int):kI (p*w) w=p*jP w:=by
 unfold kI jP
 split
 ·rw[Int.mul_neg]
 ·rfl
theorem Eh{p d a b:Int}(aF:hR a b≤p)(h1:p≤hQ a b)(hd:0<d):mf (p*d) d a b :=
 ⟨qF aF (by omega),qF h1 (by omega)⟩
theorem Pn{a1 a2 b1 b2 c1 c2 d1 d2 p1 p2 d:Int}(h:dL p1 p2 a1 a2 b1 b2)(k:dL p1 p2 c1 c2 d1 d2)(hd:0<d):four a1 a2 b1 b2 c1 c2 d1 d2 (p1*d) (p2*d) d :=
 ⟨Eh h.2.1 h.2.2.1 hd,Eh h.2.2.2.1 h.2.2.2.2 hd,Eh k.2.1 k.2.2.1 hd,Eh k.2.2.2.1 k.2.2.2.2 hd⟩
theorem agF{a1 a2 b1 b2 c1 c2 d1 d2:Int}(h:dx a1 a2 b1 b2 c1 c2 d1 d2=0) :
  (jC a1 a2 b1 b2 c1 c2 d1 d2=iY∧∀p1 p2,dL p1 p2 a1 a2 b1 b2→¬dL p1 p2 c1 c2 d1 d2) ∨
  ∃f1 f2 g1 g2,jC a1 a2 b1 b2 c1 c2 d1 d2=xb f1 f2 g1 g2∧dO f1 f2 g1 g2∧dL f1 f2 a1 a2 b1 b2∧dL f1 f2 c1 c2 d1 d2∧dL g1 g2 a1 a2 b1 b2∧dL g1 g2 c1 c2 d1 d2
   ∧ f1=er (eY a1 a2 b1 b2) (eG a1 a2 b1 b2) (eY c1 c2 d1 d2) (eG c1 c2 d1 d2)∧f2=ej (eY a1 a2 b1 b2) (eG a1 a2 b1 b2) (eY c1 c2 d1 d2) (eG c1 c2 d1 d2)
   ∧ g1=eY (er a1 a2 b1 b2) (ej a1 a2 b1 b2) (er c1 c2 d1 d2) (ej c1 c2 d1 d2)∧g2=eG (er a1 a2 b1 b2) (ej a1 a2 b1 b2) (er c1 c2 d1 d2) (ej c1 c2 d1 d2)
   ∧ ∀p1 p2,dL p1 p2 a1 a2 b1 b2→dL p1 p2 c1 c2 d1 d2→dO f1 f2 p1 p2∧dO p1 p2 g1 g2:=by
 have hs:=yZ a1 a2 b1 b2;have aE:=yZ c1 c2 d1 d2
 have hw:qy (eY a1 a2 b1 b2) (eG a1 a2 b1 b2) (er a1 a2 b1 b2) (ej a1 a2 b1 b2) (eY c1 c2 d1 d2) (eG c1 c2 d1 d2) (er c1 c2 d1 d2) (ej c1 c2 d1 d2)=0:=by
  have h1:=Hj a1 a2 b1 b2 c1 c2 d1 d2;have h2:=Dh a1 a2 b1 b2 c1 c2 d1 d2;have ar:=Dh b1 b2 a1 a2 c1 c2 d1 d2;rw[←V6];rcases oT a1 a2 b1 b2 with ⟨h1,h2,ar,aJ,_⟩|⟨h1,h2,ar,aJ,_⟩ <;> rcases oT c1 c2 d1 d2 with ⟨bx,cl,jM,lF,_⟩|⟨bx,cl,jM,lF,_⟩ <;> rw[h1,h2,ar,aJ,bx,cl,jM,lF] <;> omega
 have zD:∀p1 p2,dL p1 p2 (eY a1 a2 b1 b2) (eG a1 a2 b1 b2) (er a1 a2 b1 b2) (ej a1 a2 b1 b2)↔dL p1 p2 a1 a2 b1 b2:=fun _ _=>Cu;have tO9:∀p1 p2,dL p1 p2 (eY c1 c2 d1 d2) (eG c1 c2 d1 d2) (er c1 c2 d1 d2) (ej c1 c2 d1 d2)↔dL p1 p2 c1 c2 d1 d2:=fun _ _=>Cu;unfold jC;rw[if_pos h];unfold xc inl;generalize eY a1 a2 b1 b2=s1 at *;generalize eG a1 a2 b1 b2=s2 at *;generalize er a1 a2 b1 b2=bY at *;generalize ej a1 a2 b1 b2=b9 at *;generalize eY c1 c2 d1 d2=t1 at *;generalize eG c1 c2 d1 d2=t2 at *;generalize er c1 c2 d1 d2=t3 at *;generalize ej c1 c2 d1 d2=t4 at *;have key:=fun p1 p2 => @RX s1 s2 bY b9 t1 t2 t3 t4 p1 p2 hs aE hw
 by_cases q:dL (er s1 s2 t1 t2) (ej s1 s2 t1 t2) s1 s2 bY b9∧dL (er s1 s2 t1 t2) (ej s1 s2 t1 t2) t1 t2 t3 t4
 ·right;rw[if_pos q];obtain⟨cN,cO,kP,mC,aov,alT⟩:=key _ _ q.1 q.2;exact⟨_,_,_,_,rfl,alT,(zD _ _).1 cN,(tO9 _ _).1 cO,(zD _ _).1 kP,(tO9 _ _).1 mC,rfl,rfl,rfl,rfl,fun p1 p2 hp aj=>⟨(key p1 p2 ((zD _ _).2 hp) ((tO9 _ _).2 aj)).2.2.2.2.1,(key p1 p2 ((zD _ _).2 hp) ((tO9 _ _).2 aj)).2.2.2.2.2⟩⟩
 ·left;rw[if_neg q];exact⟨rfl,fun p1 p2 hp aj=>q ⟨(key p1 p2 ((zD _ _).2 hp) ((tO9 _ _).2 aj)).1,(key p1 p2 ((zD _ _).2 hp) ((tO9 _ _).2 aj)).2.1⟩⟩
theorem ahm{a1 a2 b1 b2 f1 f2 g1 g2 p1 p2:Int}(ay:dL f1 f2 a1 a2 b1 b2)(aw:dL g1 g2 a1 a2 b1 b2)(hp:dL p1 p2 a1 a2 b1 b2)(aF:dO f1 f2 p1 p2)(h1:dO p1 p2 g1 g2):dL p1 p2 f1 f2 g1 g2:=by
 refine(xr (aF.trans h1)).2 ⟨?_,aF,h1⟩
 by_cases e:a1=b1∧a2=b2
 ·obtain⟨rfl,rfl⟩:=e;obtain⟨rfl,rfl⟩:=Ct ay;obtain⟨rfl,rfl⟩:=Ct aw;obtain⟨rfl,rfl⟩:=Ct hp;exact Iw ..
 ·have a:=ay.1;have b:=aw.1;have c:=hp.1;unfold cm at *;have d1:(b1-a1)*((g1-f1)*(p2-f2)-(g2-f2)*(p1-f1))=0:=by grind
  have d2:(b2-a2)*((g1-f1)*(p2-f2)-(g2-f2)*(p1-f1))=0:=by grind
  rcases ug.1 d1 with e'|e'
  ·rcases ug.1 d2 with f|f
   ·omega
   ·exact f
  ·exact e'
theorem agE(a1 a2 b1 b2 c1 c2 d1 d2:Int) :
  (jC a1 a2 b1 b2 c1 c2 d1 d2=iY∧∀p1 p2,dL p1 p2 a1 a2 b1 b2→¬dL p1 p2 c1 c2 d1 d2) ∨
  (∃x y d,jC a1 a2 b1 b2 c1 c2 d1 d2=kf x d y d∧0<d∧(d=1∨d=jP (dx a1 a2 b1 b2 c1 c2 d1 d2))∧four a1 a2 b1 b2 c1 c2 d1 d2 x y d∧∀p1 p2,dL p1 p2 a1 a2 b1 b2→dL p1 p2 c1 c2 d1 d2→x=p1*d∧y=p2*d) ∨
  (∃f1 f2 g1 g2,jC a1 a2 b1 b2 c1 c2 d1 d2=uG f1 f2 g1 g2∧¬(f1=g1∧f2=g2)∧dO f1 f2 g1 g2∧dL f1 f2 a1 a2 b1 b2∧dL f1 f2 c1 c2 d1 d2∧dL g1 g2 a1 a2 b1 b2∧dL g1 g2 c1 c2 d1 d2
   ∧ f1=er (eY a1 a2 b1 b2) (eG a1 a2 b1 b2) (eY c1 c2 d1 d2) (eG c1 c2 d1 d2)∧f2=ej (eY a1 a2 b1 b2) (eG a1 a2 b1 b2) (eY c1 c2 d1 d2) (eG c1 c2 d1 d2)
   ∧ g1=eY (er a1 a2 b1 b2) (ej a1 a2 b1 b2) (er c1 c2 d1 d2) (ej c1 c2 d1 d2)∧g2=eG (er a1 a2 b1 b2) (ej a1 a2 b1 b2) (er c1 c2 d1 d2) (ej c1 c2 d1 d2)
   ∧ ∀p1 p2,dL p1 p2 a1 a2 b1 b2→dL p1 p2 c1 c2 d1 d2→dL p1 p2 f1 f2 g1 g2):=by
 by_cases h:dx a1 a2 b1 b2 c1 c2 d1 d2=0
 ·rcases agF h with ⟨e,aA⟩|⟨f1,f2,g1,g2,e,al,cN,cO,kP,mC,v1,v2,v3,v4,hp⟩
  ·exact .inl ⟨e,aA⟩
  ·right;rw[e];unfold xb
   by_cases q:f1=g1∧f2=g2
   ·left;rw[if_pos q];refine⟨f1,f2,1,rfl,by omega,.inl rfl,?_,fun p1 p2 aX aa => ?_⟩
    ·have:=Pn cN cO (d:=1) (by omega);rwa [Int.mul_one,Int.mul_one] at this
    ·obtain⟨bx,cl⟩:=hp p1 p2 aX aa;obtain⟨rfl,rfl⟩:=q;have:=dO.D5 bx cl;omega
   ·right;rw[if_neg q];exact⟨f1,f2,g1,g2,rfl,q,al,cN,cO,kP,mC,v1,v2,v3,v4,fun p1 p2 aX aa=>ahm cN kP aX (hp p1 p2 aX aa).1 (hp p1 p2 aX aa).2⟩
 ·have hd:=SJ h;unfold jC;rw[if_neg h];unfold oB vq
  by_cases q:four a1 a2 b1 b2 c1 c2 d1 d2 (kI (k3 a1 a2 b1 b2 c1 c2 d1 d2) (dx a1 a2 b1 b2 c1 c2 d1 d2)) (kI (k4 a1 a2 b1 b2 c1 c2 d1 d2) (dx a1 a2 b1 b2 c1 c2 d1 d2)) (jP (dx a1 a2 b1 b2 c1 c2 d1 d2))
  ·right;left;rw[if_pos q];refine⟨_,_,_,rfl,hd,.inr rfl,q,fun p1 p2 aX aa => ?_⟩;obtain⟨aI,aO⟩:=S5 aX.1 aa.1;rw[aI,aO,Gg,Gg];exact⟨rfl,rfl⟩
  ·left;rw[if_neg q];refine⟨rfl,fun p1 p2 aX aa=>q ?_⟩;obtain⟨aI,aO⟩:=S5 aX.1 aa.1;rw[aI,aO,Gg,Gg];exact Pn aX aa hd
end Go.Proofs.YtklpfooafbjnpaaGreat
namespace Go.Proofs.YtklpfooafbjnpaaGreat
open Go.RowKit
theorem al6{a1 a2 b1 b2 c1 c2 d1 d2:Int}(aX:c6 a1 a2=true)(aa:c6 b1 b2=true)(ak:c6 c1 c2=true)(hd:c6 d1 d2=true) : -144115188075855872≤dx a1 a2 b1 b2 c1 c2 d1 d2∧dx a1 a2 b1 b2 c1 c2 d1 d2≤144115188075855872:=by
 rw[uj] at aX aa ak hd;have m1:=F9 (x:=b2-a2) (y:=c1-d1) (by omega) (by omega) (by omega) (by omega);have m2:=F9 (x:=a1-b1) (y:=d2-c2) (by omega) (by omega) (by omega) (by omega);unfold dx;omega
theorem Oh{n d a b:Int}(h:mf n d a b)(a0 : -134217728≤a)(a1:a≤134217728)(iV : -134217728≤b)(b1:b≤134217728)(d0:0≤d)(d1:d≤144115188075855872) : -19342813113834066795298816≤n∧n≤19342813113834066795298816:=by
 obtain⟨aF,h1⟩:=h;have i0 : -134217728≤hR a b∧hR a b≤134217728:=by unfold hR;split <;> omega
 have i1 : -134217728≤hQ a b∧hQ a b≤134217728:=by unfold hQ;split <;> omega
 have m0:=Ec i0.1 i0.2 (show -144115188075855872≤d by omega) d1;have m1:=Ec i1.1 i1.2 (show -144115188075855872≤d by omega) d1;omega
def Dy(M:ga):Prop:=(M=iY)∨(∃x y d,M=kf x d y d∧0<d∧d≤144115188075855872∧(-19342813113834066795298816≤x∧x≤19342813113834066795298816)∧(-19342813113834066795298816≤y∧y≤19342813113834066795298816))∨(∃f1 f2 g1 g2,M=uG f1 f2 g1 g2)
theorem abz{a1 a2 b1 b2 c1 c2 d1 d2 x y d:Int}(aX:c6 a1 a2=true)(aa:c6 b1 b2=true)(ak:c6 c1 c2=true)(hd:c6 d1 d2=true)(aF:0<d)(h1:d=1∨d=jP (dx a1 a2 b1 b2 c1 c2 d1 d2))(ay:four a1 a2 b1 b2 c1 c2 d1 d2 x y d) :
  d≤144115188075855872∧(-19342813113834066795298816≤x∧x≤19342813113834066795298816)∧(-19342813113834066795298816≤y∧y≤19342813113834066795298816):=by
 have cL:=al6 aX aa ak hd;rw[uj] at aX aa
 have tC:d≤144115188075855872:=by
  rcases h1 with rfl|rfl
  ·omega
  ·unfold jP;split <;> omega
 exact⟨tC,Oh ay.1 aX.1.1 aX.1.2 aa.1.1 aa.1.2 (by omega) tC,Oh ay.2.1 aX.2.1 aX.2.2 aa.2.1 aa.2.2 (by omega) tC⟩
theorem agd(a1 a2 b1 b2 c1 c2 d1 d2:Int):Dy (sB a1 a2 b1 b2 c1 c2 d1 d2):=by
 unfold sB
 by_cases h:(c6 a1 a2&&c6 b1 b2&&c6 c1 c2&&c6 d1 d2)=true
 ·rw[if_pos h];simp only[ef] at h;rcases agE a1 a2 b1 b2 c1 c2 d1 d2 with ⟨e,_⟩|⟨x,y,d,e,aF,h1,ay,_⟩|⟨f1,f2,g1,g2,e,_⟩
  ·exact .inl e
  ·exact .inr (.inl ⟨x,y,d,e,aF,abz h.1.1.1 h.1.1.2 h.1.2 h.2 aF h1 ay⟩)
  ·exact .inr (.inr ⟨f1,f2,g1,g2,e⟩)
 ·rw[if_neg h];exact .inl rfl
end Go.Proofs.YtklpfooafbjnpaaGreat
namespace Go.Proofs.YtklpfooafbjnpaaGreat
open Go.RowKit
open Go.Conc
structure jg where
 cap:Nat
 buf:List Value
 shut:Bool
 ns:Nat
 Cp:Nat
def jg.obj(eQ:jg):Obj := .chan eQ.cap eQ.buf.toArray eQ.shut eQ.ns eQ.Cp false
abbrev lP:=Option (Nat×Obj)
def W7(g:lP)(aH:cW)(aN:Nat→Prop)(dy:cW)(dj:Nat→Prop):Prop:=match g with
 | none=>dy=aH∧dj=aN
 | some (c,eQ)=>(∀b,aH.F b→dy.F b)∧dy.F c∧¬aH.F c∧(∀b,dj b→aN b)∧¬dj c∧dy.N=aH.N∧dy.marks=aH.marks∧dy.W.heap[c]?=some eQ∧eR aH dy.W
def fY(g:lP)(aH:cW)(aN:Nat→Prop)(R:aC)(s:aB)(a:Act)(w:World):Prop:=∃dy dj,W7 g aH aN dy dj∧iA dy dj R s a w
section
variable{P:Program}{aH dy:cW}{aN dj A:Nat→Prop}{R ao:aC}{s s':aB}{a a':Act}{w w':World}{ad:Nat→Nat}{g:lP}
theorem eR.comp(h:eR dy w)(aF:eR aH dy.W)(ay:∀b,aH.F b→dy.F b):eR aH w :=
 ⟨h.os.trans aF.os,h.tape.trans aF.tape,h.output.trans aF.output,eI aF.size h.size,fun b q=>(h.block b (ay b q)).trans (aF.block b q)⟩
theorem fY.shut(ad3:∀b,¬aH.F b→aN b)(h:fY g aH aN R s a w):iA aH aN R s a w:=by
 have BO:∀b,aH.W.heap.size≤b→aN b:=fun b q=>ad3 b fun z=>absurd (aH.lt b z) (Nat.not_lt.2 q);obtain⟨dy,dj,aw,A,ad,an⟩:=h;cases g with
 | none=>obtain⟨rfl,rfl⟩:=aw;exact⟨A,ad,an⟩
 | some x =>
  obtain⟨c,eQ⟩:=x;obtain⟨hF,_,_,cp,_,gl,hm,_,aa⟩:=aw;have e:ic aH s ad w=ic dy s ad w:=by unfold ic;rw[hm]
  refine⟨A,ad,BO,fun b q=>cp b (an.sub b q),by rw[e];exact an.rel,fun k cs ae q=>an.hV k cs ae (hF _ q),an.below.comp aa hF,fun i r hi=>⟨(an.rows i r hi).ok,(an.rows i r hi).hb,(an.rows i r hi).own⟩,an.apart,fun i r g hi q=>⟨fun z=>(an.hot i r g hi q).1 (hF _ z),cp _ (an.hot i r g hi q).2⟩,fun k b ae=>an.fQ k b (by rw[gl];exact ae)⟩
theorem fY.turn{c:Nat}{eQ Dm:Obj}(h:fY (some (c,eQ)) aH aN R s a w):fY (some (c,Dm)) aH aN R s a {w with heap:=w.heap.setIfInBounds c Dm}:=by
 obtain⟨dy,dj,⟨hF,ak,u7,cp,P5,gl,hm,ab,aa⟩,A,ad,an⟩:=h;have cq:c<dy.W.heap.size:=dy.lt c ak;have aA:∀b,b≠c→∀H:Array Obj,(H.setIfInBounds c Dm)[b]?=H[b]?:=fun b q H=>CE (Ne.symm q);have J7:¬A c:=fun q=>P5 (an.sub c q)
 let w1:World:={w with heap:=w.heap.setIfInBounds c Dm}
 let mG:cW:={dy with W:={dy.W with heap:=dy.W.heap.setIfInBounds c Dm},lt:=fun b q=>by simpa using dy.lt b q}
 have cQ:∀b,s.free A ad b→b<w.heap.size→s.free A ad b∧w1.heap[b]?=w.heap[b]?:=fun b q _=>⟨q,aA b (fun e=>J7 (by rw[←e];exact q.1)) _⟩;refine⟨mG,dj,⟨hF,ak,u7,cp,P5,gl,hm,by simp[mG,cq],⟨aa.os,aa.tape,aa.output,by simpa [mG] using aa.size,fun b q => ?_⟩⟩,A,ad,?_⟩
 ·exact(aA b (fun e=>u7 (by rw[←e];exact q)) _).trans (aa.block b q)
 ·have Qr:∀k cs,s.mem k=some cs→ad k≠c:=fun k cs ae e=>an.hV k cs ae (by rw[e];exact ak);refine⟨fun b q=>an.up b (by simpa [mG] using q),an.sub,?_,an.hV,⟨an.below.os,an.below.tape,an.below.output,by simpa [mG] using an.below.size,fun b q => ?_⟩,fun i r hi => ?_,an.apart,an.hot,an.fQ⟩
  ·refine⟨an.rel.kG,an.rel.size,fun t av aE => ?_,fun k cs ae => ?_,an.rel.inj,⟨rfl,rfl,rfl,cF _,fun _ _=>rfl⟩,fun b q=>an.rel.up b (by simpa [ic] using q),lY s ad _⟩
   ·obtain⟨v,h1,h2⟩:=an.rel.dw t av aE;exact⟨v,h1,h2.map cQ fun _ _=>rfl⟩
   ·obtain⟨vs,ty,h1,h2,ar⟩:=an.rel.c5 k cs ae;exact⟨vs,ty,(aA _ (Qr k cs ae) _).trans h1,h2.map cQ fun _ _ _ _=>rfl,fun q=>ar ⟨by simpa [ic] using q.1,q.2⟩⟩
  ·by_cases e:b=c
   ·subst e;have h1:b<w.heap.size:=kg cq an.below.size;simp[mG,cq,h1]
   ·exact(aA b e _).trans ((an.below.block b q).trans (aA b e _).symm)
  ·have aD:=an.rows i r hi;refine⟨aD.ok.kept aD.hb (fun g q=>aA g (fun e=>(an.hot i r g hi q).1 (by rw[e];exact ak)) _) (by simp) cQ,aD.hb,aD.own⟩
theorem fY.look{c:Nat}{eQ:Obj}(h:fY (some (c,eQ)) aH aN R s a w):w.heap[c]?=some eQ:=by
 obtain⟨dy,dj,⟨_,ak,_,_,_,_,_,ab,_⟩,A,ad,an⟩:=h;exact(an.below.block c ak).trans ab
def jh(P:Program)(x:Code)(Q:Exit→lP→aC→aB→Prop)(g:lP)(R:aC)(s:aB):Prop :=
 s.bR→∀aH aN a w,(∀b,¬aH.F b→aN b)→fY g aH aN R s a w→nQ P x (fun e a' w'=>∃c4 ao s',s'.bR∧fY c4 aH aN ao s' a' w'∧Q e c4 ao s') a w
variable{Q:Exit→lP→aC→aB→Prop}{x y:Code}
theorem hc(h:e2 P x (fun e R s=>Q e g R s) R s):jh P x Q g R s:=by
 rintro ok aH aN a w hu ⟨dy,dj,aw,an⟩;refine xk (Sv (h ok dy dj a w an).top) ?_;rintro e a' w' ⟨ao,s',bX,bw,aj⟩;exact⟨g,ao,s',bX,⟨dy,dj,aw,bw⟩,aj⟩
theorem xH{Q:Exit→aC→aB→Prop}(h:jh P x (fun e _ R s=>Q e R s) none R s):HV P x Q R s:=by
 intro ok aH aN a w hu an;refine xk (h ok aH aN a w hu ⟨aH,aN,⟨rfl,rfl⟩,an⟩) ?_;rintro e a' w' ⟨c4,ao,s',bX,bw,aj⟩;exact⟨ao,s',bX,bw.shut hu,aj⟩
def A4(next:lP→aC→aB→Prop)(Q:Exit→lP→aC→aB→Prop):Exit→lP→aC→aB→Prop
 | .normal,g,R,s=>next g R s
 | e,g,R,s=>Q e g R s
def A3(id:Nat)(Q:Exit→lP→aC→aB→Prop):Exit→lP→aC→aB→Prop
 | .exit iL,g,R,s=>bif Nat.beq iL id then Q .normal g R s else Q (.exit iL) g R s
 | e,g,R,s=>Q e g R s
theorem fz(h:jh P x (A4 (fun g R s=>jh P y Q g R s) Q) g R s):jh P (.seq x y) Q g R s:=by
 intro ok aH aN a w hu ca;refine agM (xk (h ok aH aN a w hu ca) ?_);rintro x a' w' ⟨c4,ao,s',bX,hN,aj⟩;cases x <;> first|exact aj bX aH aN a' w' hu hN|exact⟨c4,ao,s',bX,hN,aj⟩
theorem u1{id:Nat}(h:jh P x (A3 id Q) g R s):jh P (.block id x) Q g R s:=by
 intro ok aH aN a w hu ca;refine agI (xk (h ok aH aN a w hu ca) ?_);rintro x a' w' ⟨c4,ao,s',bX,hN,aj⟩;cases x with
 | exit iL =>
  simp only[Exit.inBlock];simp only[A3] at aj;cases aa:Nat.beq iL id with
  | true=>rw[aa] at aj;rw[if_pos (gp aa)];exact⟨c4,ao,s',bX,hN,aj⟩
  | false =>
   rw[aa] at aj;have:iL≠id:=fun e=>by subst e;rw[qD] at aa;cases aa
   rw[if_neg this];exact⟨c4,ao,s',bX,hN,aj⟩
 | _=>exact⟨c4,ao,s',bX,hN,aj⟩
theorem fY.rr(h:fY g aH aN R s a w):∃dy dj,iA dy dj R s a w:=let ⟨dy,dj,_,h⟩:=h;⟨dy,dj,h⟩
theorem Px{c:Operand}{b:Bool}(ak:s.look c=some (bl b))(h1:b=true→jh P x Q g R s)(aF:b=false→jh P y Q g R s):jh P (.cond c x y) Q g R s:=by
 intro ok aH aN a w hu ez;obtain⟨_,_,A,ad,an⟩:=ez.rr;refine agJ (an.rel.look ak).1 ?_;cases b with
 | true=>exact h1 rfl ok aH aN a w hu ez
 | false=>exact aF rfl ok aH aN a w hu ez
theorem Ja{c:Operand}{b:Bool}(ak:s.look c=some (bl b))(aa:b=true)(h1:jh P x Q g R s):jh P (.cond c x y) Q g R s:=Px ak (fun _=>h1) fun e=>by rw[aa] at e;cases e
theorem I9{c:Operand}{b:Bool}(ak:s.look c=some (bl b))(aa:b=false)(aF:jh P y Q g R s):jh P (.cond c x y) Q g R s:=Px ak (fun e=>by rw[aa] at e;cases e) fun _=>aF
theorem fY.le(h:fY g aH aN R s a w)(KR:a8 ao R):fY g aH aN ao s a w:=let ⟨dy,dj,aw,A,ad,h⟩:=h;⟨dy,dj,aw,A,ad,h.le KR⟩
theorem fY.qq(h:fY g aH aN R s a w)(l:s.aW s'):fY g aH aN R s' a w:=let ⟨dy,dj,aw,A,ad,h⟩:=h;⟨dy,dj,aw,A,ad,h.qq l⟩
theorem Jc(N:Nat)(I:Nat→lP→aC→List (Nat×ag)→List (Nat×List AC)→Prop)(k:Nat)(R0:aC)(az:List (Nat×ag))(aS:List (Nat×List AC))(a7:I k g R0 az aS)(al:a8 R0 R)(aA:N=s.n)(aE:ia s.tmps az)(hm:ia s.mem aS)(bC:okB az aS=true)
  (round:∀k g R az aS,I k g R az aS→okB az aS=true→jh P x (A4 (fun c4 ao s'=>∃k' lq hI hz,k'<k∧I k' c4 lq hI hz∧a8 lq ao∧N=s'.n∧ia s'.tmps hI∧ia s'.mem hz∧okB hI hz=true) Q) g R (en N az aS)):jh P (.loop x) Q g R s:=by
 intro ok aH aN a w hu ez;refine agK (fun k a w=>∃g R az aS,I k g R az aS∧okB az aS=true∧fY g aH aN R (en N az aS) a w) (n:=k) ⟨g,R0,az,aS,a7,bC,(ez.le al).qq (rl aA aE hm)⟩ ?_;rintro k a w ⟨g,R,az,aS,a7,ok,ca⟩;refine xk (round k g R az aS a7 ok (rp ok) aH aN a w hu ca) ?_;rintro x a' w' ⟨c4,ao,s',bX,hN,aj⟩;cases x with
 | normal =>
  obtain⟨k',lq,hI,hz,h1,h2,ar,aJ,bO,fl,kW⟩:=aj;exact⟨k',h1,c4,lq,hI,hz,h2,kW,(hN.le ar).qq (rl aJ bO fl)⟩
 | _=>exact⟨c4,ao,s',bX,hN,aj⟩
def kv(P:Program)(ops:Array Oper)(K:lP→aC→aB→Prop)(k:Nat)(l:List Oper)(g:lP)(R:aC)(s:aB):Prop :=
 (∀j:Nat,l[j]?=ops[k+j]?)→s.bR→∀aH aN a w,(∀b,¬aH.F b→aN b)→fY g aH aN R s a w →
  ru P ops (fun e a' w'=>e = .normal∧∃c4 ao s',s'.bR∧fY c4 aH aN ao s' a' w'∧K c4 ao s') ((List.range l.length).map (k + ·)) a w
variable{K:lP→aC→aB→Prop}{ops:Array Oper}{k:Nat}{l rest:List Oper}{o:Oper}
theorem og{id:Nat}(h:kv P l.toArray (fun g R s=>Q .normal g R s) 0 l g R s):jh P (.region id l.toArray false) Q g R s:=by
 intro ok aH aN a w hu ez;have:=h (by simp) ok aH aN a w hu ez;refine agL (?_:ru P l.toArray _ (List.range l.toArray.size) a w);simp only[hZ,List.map_id'] at this;rw[List.size_toArray];intro b k cs aa;obtain⟨e,a',w',⟨rfl,aj⟩,r⟩:=this b k cs aa;exact⟨.normal,a',w',aj,r⟩
theorem mS(h:K g R s):kv P ops K k [] g R s:=fun _ ok aH aN a w hu ez=>agG ⟨rfl,g,R,s,ok,ez,h⟩
theorem vH(k n:Nat):(List.range (n+1)).map (k + ·)=k::(List.range n).map (k+1 + ·):=by
 rw[List.range_succ_eq_map,hY,List.map_map];congr 1;exact nV fun j _=>by simp[oF,oG 1 j]
theorem u0(al:∀j:Nat,(o::rest)[j]?=ops[k+j]?):ops[k]?=some o∧∀j:Nat,rest[j]?=ops[k+1+j]? :=
 ⟨by simpa using (al 0).symm,fun j=>by have:=al (j+1);simpa [oF,oG 1 j] using this⟩
theorem aa8(h:tv P ops none o (fun R s=>kv P ops K (k+1) rest g R s) R s):kv P ops K k (o::rest) g R s:=by
 intro al ok aH aN a w hu ez;obtain⟨aD,ap⟩:=u0 al;rw[hX,vH];obtain⟨dy,dj,aw,an⟩:=ez;rcases PU (K':=ru P ops (fun e a' w'=>e = .normal∧∃c4 ao s',s'.bR∧fY c4 aH aN ao s' a' w'∧K c4 ao s') ((List.range rest.length).map (k+1 + ·))) ok an h (fun ao s' a' w' bX bw ae=>ae ap bX aH aN a' w' hu ⟨dy,dj,aw,bw⟩) with ⟨h1,_,h2⟩|⟨h1,h2⟩
 ·exact Cj aD h1 h2 fun _ _ q=>by cases q.1
 ·exact agH aD h1 h2
variable{c:Nat}{eQ:jg}{dst:Option Nat}{ty:Nat}{pos:String}{after:Array Edge}{guard:Option (Nat×Bool)}
theorem fY.eval{x:Operand}{v:Value}(h:fY g aH aN R s a w)(ab:s.look x=some (aR v)):a.eval x=v:=by
 obtain⟨_,_,A,ad,an⟩:=h.rr;exact(an.rel.look ab).1
theorem fY.put{v:Value}{av:ag}(h:fY g aH aN R s a w)(hd:∀d,dst=some d→d<s.n)(hv:∀U ad W,cS U ad W av v):fY g aH aN R (s.put dst av) (a.put dst v) w:=by
 obtain⟨dy,dj,aw,A,ad,an⟩:=h;exact⟨dy,dj,aw,A,ad,an.put hd (hv _ _ _)⟩
theorem fY.want{b:Bool}{o:Oper}(h:fY g aH aN R s a w)(hw:want ops o s=some b):Region.wanted o (yielded ops a.tmps)=b:=by
 obtain⟨_,_,A,ad,an⟩:=h.rr;exact MF hw an.rel
theorem IJ{b:Frame}(aa:b.kind = .normal):b.kind ≠ .early:=by rw[aa];exact fun h=>by cases h
theorem abb{x y:Operand}{v:Value}(hw:want ops ⟨none,.send x y,ty,pos,after,guard⟩ s=some true)(ab:s.look x=some (aR (.chan (some c))))(ai:s.look y=some (aR v))(hs:eQ.shut=false)(ap:eQ.buf.length<eQ.cap)
  (h:kv P ops K (k+1) rest (some (c,jg.obj {eQ with buf:=eQ.buf++[v],ns:=eQ.ns+1})) R s):kv P ops K k (⟨none,.send x y,ty,pos,after,guard⟩::rest) (some (c,eQ.obj)) R s:=by
 intro al ok aH aN a w hu ez;obtain⟨aD,px⟩:=u0 al;rw[hX,vH];have aI:=ez.eval ab;have aO:=ez.eval ai;have aF:=ez.look;unfold jg.obj at aF;rw[hs] at aF;refine xj (a1:=a) (w1:={w with heap:=w.heap.setIfInBounds c (jg.obj {eQ with buf:=eQ.buf++[v],ns:=eQ.ns+1})}) (fun b B5 cs aa => ?_) (h px ok aH aN a _ hu ez.turn);have:=step_lone_send_room (stepG_comm (P:=P) (w:=w) (a:=a) (rest:=(List.range rest.length).map (k+1 + ·)) (main:=true) (b:=b) (k:=B5) (cs:=cs) (cases := #[scase c v (.tuple #[])]) (blocking:=true) (shape := .send) (w':=w) aD (ez.want hw) (IJ aa) (by simp[execOp,scase,aI,aO])) aF (by simpa using ap);rw[Frame.finish_at,aD] at this;simpa [lone,solo,G,World.setChan,jg.obj,hs,Act.put] using this
theorem U8{z:Value}{x:Operand}{t:Nat}(ab:a.eval x = .chan (some c))(aT:(zeroValue t).run P w = .ok z w){d:Nat}{ty:Nat}:(execOp a.eval ⟨some d,.select #[⟨x,none,t⟩] true,ty,pos,after,guard⟩).run P w = .ok (.comm #[rcase c z] true .select) w:=by
 simp[execOp,rcase,ab,aT]
theorem Uo(z v:Value)(ok:Bool):commResult #[rcase c z] .select ((0:Nat):Int) v ok = .tuple #[goInt 0,.bool ok,v]:=by simp[commResult,rcase,List.zipIdx_cons]
theorem VS{x y z:Value}(ab:x.oneCell'=true)(ai:y.oneCell'=true)(aT:z.oneCell'=true):∀U ad W,cS U ad W (.cj [.one (.c x),.one (.c y),.one (.c z)]) (.tuple #[x,y,z]):=by
 intro U ad W;refine⟨[x,y,z],rfl,rfl,fun i a v aX hv => ?_⟩
 match i with
 | 0=>cases aX;cases hv;exact⟨rfl,ab⟩
 | 1=>cases aX;cases hv;exact⟨rfl,ai⟩
 | 2=>cases aX;cases hv;exact⟨rfl,aT⟩
 | i+3=>simp at aX
theorem Mt{l:List bH}(ok:s.bR)(h:(ag.cj l).aV=true){d:Nat}:(s.put (some d) (.cj l)).bR:=ok.put fun j af=>absurd af (ag.cU h j)
theorem aba{d:Nat}{x:Operand}{t:Nat}{v z:Value}{bs:List Value}(hw:want ops ⟨some d,.select #[⟨x,none,t⟩] true,ty,pos,after,guard⟩ s=some true)(ab:s.look x=some (aR (.chan (some c))))(aa:eQ.buf=v::bs)(aT:∀w,(zeroValue t).run P w = .ok z w)(hd:Nat.blt d s.n=true)(hv:v.oneCell'=true)
  (h:kv P ops K (k+1) rest (some (c,jg.obj {eQ with buf:=bs,Cp:=eQ.Cp+1})) R (s.put (some d) (.cj [.one (.c (goInt 0)),.one (.c (.bool true)),.one (.c v)]))):kv P ops K k (⟨some d,.select #[⟨x,none,t⟩] true,ty,pos,after,guard⟩::rest) (some (c,eQ.obj)) R s:=by
 intro al ok aH aN a w hu ez;obtain⟨aD,px⟩:=u0 al;rw[hX,vH];have aI:=ez.eval ab;have aF:=ez.look;have eu:∀d',some d=some d'→d'<s.n:=fun d' e=>by cases e;simpa [k7] using hd
 unfold jg.obj at aF;rw[aa] at aF;refine xj (a1:=a.put (some d) (.tuple #[goInt 0,.bool true,v])) (w1:={w with heap:=w.heap.setIfInBounds c (jg.obj {eQ with buf:=bs,Cp:=eQ.Cp+1})}) (fun b B5 cs cL => ?_) (h px (Mt ok rfl) aH aN _ _ hu (ez.turn.put eu (VS rfl rfl hv)));have:=step_lone_sel_recv_buf (k:=0) (c:=c) (z:=z) (stepG_comm (P:=P) (w:=w) (a:=a) (rest:=(List.range rest.length).map (k+1 + ·)) (main:=true) (b:=b) (k:=B5) (cs:=cs) (cases := #[rcase c z]) (blocking:=true) (shape := .select) (w':=w) aD (ez.want hw) (IJ cL) (U8 aI (aT w))) rfl (fun m c' hm nF=>by cases m with|zero=>exact absurd rfl hm|succ m=>simp at nF) aF (by simp);rw[Frame.finish_at,aD,Uo] at this;simpa [lone,solo,G,World.setChan,jg.obj,Act.put] using this
theorem aa9{d:Nat}{x:Operand}{t:Nat}{z:Value}(hw:want ops ⟨some d,.select #[⟨x,none,t⟩] true,ty,pos,after,guard⟩ s=some true)(ab:s.look x=some (aR (.chan (some c))))(aa:eQ.buf=[])(hs:eQ.shut=true)(aT:∀w,(zeroValue t).run P w = .ok z w)(hd:Nat.blt d s.n=true)(hv:z.oneCell'=true)
  (h:kv P ops K (k+1) rest (some (c,eQ.obj)) R (s.put (some d) (.cj [.one (.c (goInt 0)),.one (.c (.bool false)),.one (.c z)]))):kv P ops K k (⟨some d,.select #[⟨x,none,t⟩] true,ty,pos,after,guard⟩::rest) (some (c,eQ.obj)) R s:=by
 intro al ok aH aN a w hu ez;obtain⟨aD,px⟩:=u0 al;rw[hX,vH];have aI:=ez.eval ab;have aF:=ez.look;have eu:∀d',some d=some d'→d'<s.n:=fun d' e=>by cases e;simpa [k7] using hd
 unfold jg.obj at aF;rw[aa,hs] at aF;refine xj (a1:=a.put (some d) (.tuple #[goInt 0,.bool false,z])) (w1:=w) (fun b B5 cs cL => ?_) (h px (Mt ok rfl) aH aN _ _ hu (ez.put eu (VS rfl rfl hv)));have:=step_lone_sel_recv_shut (k:=0) (c:=c) (z:=z) (stepG_comm (P:=P) (w:=w) (a:=a) (rest:=(List.range rest.length).map (k+1 + ·)) (main:=true) (b:=b) (k:=B5) (cs:=cs) (cases := #[rcase c z]) (blocking:=true) (shape := .select) (w':=w) aD (ez.want hw) (IJ cL) (U8 aI (aT w))) rfl (fun m c' hm nF=>by cases m with|zero=>exact absurd rfl hm|succ m=>simp at nF) aF;rw[Frame.finish_at,aD,Uo] at this;simpa [lone,solo,G,Act.put] using this
theorem aa5{x:Operand}{az:Array TypeId}(hw:want ops ⟨dst,.call ⟨.builtin .close,#[x],az⟩,ty,pos,after,guard⟩ s=some true)(ab:s.look x=some (aR (.chan (some c))))(hs:eQ.shut=false)(hd:∀d,dst=some d→d<s.n)
  (h:kv P ops K (k+1) rest (some (c,jg.obj {eQ with shut:=true})) R (s.put dst (.cj []))):kv P ops K k (⟨dst,.call ⟨.builtin .close,#[x],az⟩,ty,pos,after,guard⟩::rest) (some (c,eQ.obj)) R s:=by
 intro al ok aH aN a w hu ez;obtain⟨aD,px⟩:=u0 al;rw[hX,vH];have aI:=ez.eval ab;have aF:=ez.look;unfold jg.obj at aF;rw[hs] at aF;refine Cj aD (ez.want hw) (Oper.s0 (v := .tuple #[]) (w':={w with heap:=w.heap.setIfInBounds c (jg.obj {eQ with shut:=true})}) ?_ (h px ?_ aH aN _ _ hu (ez.turn.put hd fun U ad W=>⟨[],rfl,rfl,fun i x v ab=>by simp at ab⟩))) fun _ _ q=>by cases q.1
 ·have em:(#[x]:Array Operand).map a.eval = #[.chan (some c)]:=by simp[aI]
  simp only[execOp,resolve,em,Sem.run_bind,Sem.run_pure,Result.andThen_ok,invoke,builtin];rw[run_close_open az ty aF];rfl
 ·cases dst with
  | none=>exact ok
  | some d=>exact Mt ok rfl
theorem fY.open{o1:Obj}(h:iA aH aN R s a w)(aa:Below w.heap.size w w')(ak:w.heap.size≤c)(ab:w'.heap[c]?=some o1):fY (some (c,o1)) aH aN R s a w':=by
 obtain⟨A,ad,an⟩:=h;have cq:c<w'.heap.size:=(iN.1 ab).1;have po:eR aH w':=an.below.then aa;have cQ:∀b,s.free A ad b→b<w.heap.size→s.free (fun b=>A b∧b≠c) ad b∧w'.heap[b]?=w.heap[b]?:=fun b q al=>⟨⟨⟨q.1,by omega⟩,q.2⟩,aa.block b al⟩;have yL:∀k cs,s.mem k=some cs→ad k<w.heap.size:=fun k cs ae=>an.rel.lt ae
 let dy:cW:=⟨w',fun b=>aH.F b∨b=c,fun b q=>q.elim (fun q=>kg (aH.lt b q) (eI an.below.size aa.size)) (fun e=>by rw[e];exact cq),aH.N,aH.marks⟩
 refine⟨dy,fun b=>aN b∧b≠c,⟨fun b q => .inl q,.inr rfl,fun q=>by have:=aH.lt c q;have:=an.below.size;omega,fun b q=>q.1,fun q=>q.2 rfl,rfl,rfl,ab,po⟩,fun b=>A b∧b≠c,ad,?_⟩;refine⟨fun b q=>⟨an.up b (eI po.size q),fun e=>by subst e;exact absurd cq (Nat.not_lt.2 q)⟩,fun b q=>⟨an.sub b q.1,q.2⟩,?_,fun k cs ae q=>q.elim (an.hV k cs ae) fun e=>by have:=yL k cs ae;omega,⟨rfl,rfl,rfl,cF _,fun _ _=>rfl⟩,fun i r hi => ?_,an.apart,fun i r g hi q => ?_,an.fQ⟩
 ·refine⟨an.rel.kG,an.rel.size,fun t av aE => ?_,fun k cs ae => ?_,an.rel.inj,⟨rfl,rfl,rfl,cF _,fun _ _=>rfl⟩,fun b q=>⟨an.rel.up b (eI aa.size q),fun e=>by subst e;exact absurd cq (Nat.not_lt.2 q)⟩,lY s ad _⟩
  ·obtain⟨v,h1,h2⟩:=an.rel.dw t av aE;exact⟨v,h1,h2.map cQ fun _ _=>rfl⟩
  ·obtain⟨vs,ty,h1,h2,ar⟩:=an.rel.c5 k cs ae;exact⟨vs,ty,(aa.block _ (yL k cs ae)).trans h1,h2.map cQ fun _ _ _ _=>rfl,fun q=>q.2 k cs ae rfl⟩
 ·have aD:=an.rows i r hi;exact⟨aD.ok.kept aD.hb (fun g q=>aa.block g (aD.ok.lt q)) aa.size cQ,aD.hb,fun g q=>⟨fun z=>(aD.own g q).1 z.1,(aD.own g q).2⟩⟩
 ·have JQ:=(an.rows i r hi).ok.lt q;exact⟨fun z=>z.elim (an.hot i r g hi q).1 fun e=>by omega,(an.hot i r g hi q).2,by omega⟩
theorem aa6{d t e n:Nat}{x:Operand}{gO:IntKind}{dir:ChanDir}{eJ:TypeInfo}(hw:want ops ⟨some d,.makeChan t x,ty,pos,after,guard⟩ s=some true)(ab:s.look x=some (aR (.int gO n)))(aE:P.underlying t=some (.chan dir e))(hi:P.info? e=some eJ)(aA:(n:Int)≤9223372036854775807)(aa:(eJ.bytes:Int)*n≤281474976710544)(hd:Nat.blt d s.n=true)
  (h:∀c,kv P ops K (k+1) rest (some (c,jg.obj ⟨n,[],false,0,0⟩)) R (s.put (some d) (aR (.chan (some c))))):kv P ops K k (⟨some d,.makeChan t x,ty,pos,after,guard⟩::rest) none R s:=by
 intro al ok aH aN a w hu ez;obtain⟨aD,px⟩:=u0 al;rw[hX,vH];have aI:=ez.eval ab;have mq:=ez.want hw;obtain⟨zU,zT,iX,an⟩:=ez;rw[show zU=aH from iX.1,show zT=aN from iX.2] at an;have eu:∀d',some d=some d'→d'<s.n:=fun d' e=>by cases e;simpa [k7] using hd
 have aX:=Below.alloc (Below.refl w.heap.size w) (cF _) (.chan n #[] false 0 0 false);have Jp:fY (some (w.heap.size,jg.obj ⟨n,[],false,0,0⟩)) aH aN R s a (w.alloc (.chan n #[] false 0 0 false)):=fY.open an aX (cF _) (heap_alloc_new w _);refine Cj aD mq (Oper.s0 (v := .chan (some w.heap.size)) (w':=w.alloc (.chan n #[] false 0 0 false)) ?_ (h _ px (ok.put fun j af=>absurd af (gS _ j)) aH aN _ _ hu (Jp.put eu fun U ad W=>⟨rfl,rfl⟩))) fun _ _ q=>by cases q.1
 simp only[execOp,aI,Sem.run_bind,run_makeChan aE hi gO n aA aa,Result.andThen_ok,Sem.run_pure]
theorem aa7{d t:Nat}(hw:want ops ⟨some d,.makeMap t none,ty,pos,after,guard⟩ s=some true)(hd:Nat.blt d s.n=true)
  (h:∀c,kv P ops K (k+1) rest (some (c,.map #[] 0)) R (s.put (some d) (aR (.map (some c))))):kv P ops K k (⟨some d,.makeMap t none,ty,pos,after,guard⟩::rest) none R s:=by
 intro al ok aH aN a w hu ez;obtain⟨aD,px⟩:=u0 al;rw[hX,vH];have mq:=ez.want hw;obtain⟨zU,zT,iX,an⟩:=ez;rw[show zU=aH from iX.1,show zT=aN from iX.2] at an;have eu:∀d',some d=some d'→d'<s.n:=fun d' e=>by cases e;simpa [k7] using hd
 have aX:=Below.alloc (Below.refl w.heap.size w) (cF _) (.map #[] 0);have Jp:fY (some (w.heap.size,.map #[] 0)) aH aN R s a (w.alloc (.map #[] 0)):=fY.open an aX (cF _) (heap_alloc_new w _);refine Cj aD mq (Oper.s0 (v := .map (some w.heap.size)) (w':=w.alloc (.map #[] 0)) ?_ (h _ px (ok.put fun j af=>absurd af (gS _ j)) aH aN _ _ hu (Jp.put eu fun U ad W=>⟨rfl,rfl⟩))) fun _ _ q=>by cases q.1
 rfl
structure DK (P:Program) (f:FuncId) (args:List ag) (eQ:jg):Prop where
 call:∀(U:Nat→Prop) (W:World) (vs:List Value),iB U id W args vs →
  Calls P f vs.toArray W fun e W'=>∃c,e = .returned (.chan (some c))∧W.heap.size≤c∧W'.heap[c]?=some eQ.obj∧Below W.heap.size W W'
theorem aa3{d:Nat}{o:Oper}{f:FuncId}{args:List ag}(hw:want ops o s=some true)(acG:o.dst=some d)(ak:rS P s.look o f args)(aj:DK P f args eQ)(cq:args.all ag.aV=true)(hd:Nat.blt d s.n=true)
  (h:∀c,kv P ops K (k+1) rest (some (c,eQ.obj)) R (s.put (some d) (aR (.chan (some c))))):kv P ops K k (o::rest) none R s:=by
 intro al ok aH aN a w hu ez;obtain⟨aD,px⟩:=u0 al;rw[hX,vH];have mq:=ez.want hw;obtain⟨zU,zT,iX,an⟩:=ez;rw[show zU=aH from iX.1,show zT=aN from iX.2] at an;have eu:∀d',some d=some d'→d'<s.n:=fun d' e=>by cases e;simpa [k7] using hd
 obtain⟨A,ad,Bd⟩:=id an;obtain⟨us,Q2,eO⟩:=ak.run Bd.rel;refine Cj aD mq ?_ fun _ _ q=>by cases q.1
 unfold Oper.wp;rw[eO,Oper.upon_enter];have ad4:iB (s.free A ad) id w args us:=⟨Q2.1,fun i x v ab hv=>(Q2.2 i x v ab hv).map (fun b aa _=>⟨aa,rfl⟩) fun j af=>absurd af (ag.cU (b4.1 cq x (cP ab)) j)⟩;refine(aj.call _ w us ad4).mono ?_;rintro e w' ⟨c,rfl,kx,hO,JI⟩;rw[acG];exact h c px (ok.put fun j af=>absurd af (gS _ j)) aH aN _ _ hu ((fY.open an JI kx hO).put eu fun U ad W=>⟨rfl,rfl⟩)
def ajs(P:Program)(fn:Func)(eQ:jg):Exit→lP→aC→aB→Prop
 | .normal,g,R,s | .ret,g,R,s=>∃c,g=some (c,eQ.obj)∧fn.results.toList.map (gV P s)=[some (.one (.c (.chan (some c))))]
 | _,_,_,_=>False
theorem ajr{f:FuncId}{fn:Func}{x:Code}{args:List ag}(ay:P.funcs[f]?=some fn)(aa:fn.body=some x)(aA:args.length≤fn.ntmps)(cq:args.all ag.aV=true)
  (h:jh P x (ajs P fn eQ) none dq (start fn.ntmps args)):DK P f args eQ:=by
 refine⟨fun U W vs cJ => ?_⟩;have al:=cJ.1;have gE:∀x∈args,x.closed:=fun x ab=>ag.cU (b4.1 cq x ab);refine Ok ay aa ?_;have ok:(start fn.ntmps args).bR:=⟨fun t av j aE af=>absurd af (gE av (cP aE) j),fun k cs x j ae=>by cases ae⟩;have cQ:∀b,U b→b<W.heap.size→(start fn.ntmps args).free (fun b=>U b∨W.heap.size≤b) id b∧W.heap[b]?=W.heap[b]?:=fun b aa _=>⟨⟨.inl aa,fun k cs ae=>by cases ae⟩,rfl⟩
 have an:dz (cW.all W) (fun b=>U b∨W.heap.size≤b) dq (start fn.ntmps args) {tmps:=vs.toArray++Array.replicate (fn.ntmps-vs.toArray.size) undef,defers:=[]} W (fun b=>U b∨W.heap.size≤b) id:=by
  refine⟨fun b aa => .inr aa,fun _ h=>h,?_,fun k cs ae=>(by cases ae),eR.refl (cW.all W),fun i r hi=>(by cases hi),fun i j r q hi=>(by cases hi),fun i r g hi=>(by cases hi),fun k b ae=>(by cases ae)⟩;refine⟨rfl,by simp[start];omega,fun t av aE => ?_,fun k cs ae=>(by cases ae),fun k k' cs au ae=>(by cases ae),⟨rfl,rfl,rfl,cF _,fun _ _=>rfl⟩,fun b aa => .inr aa,lY _ _ _⟩;have bc:t<vs.length:=by rw[←al];exact(bt.1 aE).1
  refine⟨vs[t],by simp[Array.getElem?_append,bc],?_⟩;exact(cJ.2 t av _ aE (bF bc)).map cQ fun _ _=>rfl
 refine xk (h ok (cW.all W) _ _ W (fun b aa => .inr (Nat.not_lt.1 aa)) ⟨cW.all W,_,⟨rfl,rfl⟩,_,id,an⟩) ?_;rintro e a' w' ⟨c4,ao,s',bX,ez,aj⟩
 have fin:(∃c,c4=some (c,eQ.obj)∧fn.results.toList.map (gV P s')=[some (.one (.c (.chan (some c))))])→a'.defers=[]∧∃v,(results fn a'.tmps).run P w' = .ok v w'∧∃c,Ending.returned v = .returned (.chan (some c))∧W.heap.size≤c∧w'.heap[c]?=some eQ.obj∧Below W.heap.size W w':=by
  rintro⟨c,rfl,h1⟩;have adn:=ez.look
  have u7:W.heap.size≤c:=by
   obtain⟨dy,dj,aw,_⟩:=ez;exact Nat.not_lt.1 aw.2.2.1
  obtain⟨A,ad,Bd⟩:=ez.shut fun b aa => .inr (Nat.not_lt.1 aa);obtain⟨v,q1,q2⟩:=CJ (xs:=[.one (.c (.chan (some c)))]) Bd.rel h1;have:v = .chan (some c):=q2.1;subst this;exact⟨Bd.rel.kG,_,q1,c,rfl,u7,adn,Bd.below.all⟩
 cases e with
 | normal=>exact fin aj
 | ret=>exact fin aj
 | _=>exact aj.elim
theorem kV(h:cH P ops none (fun R s=>kv P ops K (k+1) rest g R s) [o] R s):kv P ops K k (o::rest) g R s:=aa8 h
theorem Pz(h:Q .normal g R s):jh P .skip Q g R s:=hc (L5 h)
theorem Jd(h:Q .ret g R s):jh P .ret Q g R s:=hc (L3 h)
theorem Py{id:Nat}(h:Q (.exit id) g R s):jh P (.exit id) Q g R s:=hc (L2 h)
variable{next:lP→aC→aB→Prop}{id iL:Nat}
theorem fk(h:next g R s):A4 next Q .normal g R s:=h
theorem abD(h:Q .ret g R s):A4 next Q .ret g R s:=h
theorem PI(h:Q (.exit id) g R s):A4 next Q (.exit id) g R s:=h
theorem PA(h:Q .normal g R s):A3 id Q .normal g R s:=h
theorem abh(h:Q .ret g R s):A3 id Q .ret g R s:=h
theorem PB(h:Q .normal g R s):A3 id Q (.exit id) g R s:=by show bif Nat.beq id id then _ else _;rw[qD];exact h
theorem aa4{d:Nat}{f:FuncId}{EX:Operand}{az:Array TypeId}{lo:List Operand}{args:List ag} [E:Enters P f](hw:want ops ⟨some d,.call ⟨.value EX,lo.toArray,az⟩,ty,pos,after,guard⟩ s=some true)(aw:s.look EX=some (aR (.func (.func f) #[] #[])))(aX:lo.map s.look=args.map some)(aj:DK P f args eQ)(cq:args.all ag.aV=true)(hd:Nat.blt d s.n=true)
  (h:∀c,kv P ops K (k+1) rest (some (c,eQ.obj)) R (s.put (some d) (aR (.chan (some c))))):kv P ops K k (⟨some d,.call ⟨.value EX,lo.toArray,az⟩,ty,pos,after,guard⟩::rest) none R s :=
 aa3 hw rfl ⟨⟨_,EX,rfl,rfl,.inl ⟨[],aw,by simpa using aX,rfl⟩⟩,E.h⟩ aj cq hd h
theorem abg(i d:Nat)(r:bE)(hi:R i=some r)(hd:s.tmps d=some (aR r.v))(h:jh P x Q g (fun j=>if j=i then none else R j) (s.put (some d) (cG r.sz r.n r.ys)))(bL:0<r.sz:=by first|decide|exact gJ _):jh P x Q g R s:=by
 rintro ok aH aN a w hu ⟨dy,dj,aw,A,ad,an⟩
 have eu:d<s.n:=by
  obtain⟨v,h1,_⟩:=an.rel.dw d _ hd;rw[←an.rel.size];exact(iN.1 h1).1
 obtain⟨b5,tx⟩:=an.uN i d r hi bL hd eu;exact h (ok.put fun j af=>absurd af (kH _ j)) aH aN a w hu ⟨dy,dj,aw,b5,ad,tx⟩
theorem Jb(k:Nat)(cs:List AC)(ae:s.mem k=some cs)(cq:cs.all AC.aV=true)(h:jh P x Q none R (mR s k cs)):jh P x Q none R s:=by
 rintro ok aH aN a w hu ⟨dy,dj,aw,A,ad,an⟩;obtain⟨rfl,rfl⟩:=aw;have wN:dj (ad k):=hu _ (an.hV k cs ae);have yS:∀b,A b→A b∨b=ad k:=fun b q => .inl q;have ie:∀b,s.free A ad b→b<w.heap.size→s.free (fun b=>A b∨b=ad k) ad b∧w.heap[b]?=w.heap[b]?:=fun b q _=>⟨⟨.inl q.1,q.2⟩,rfl⟩
 have ap:Rel (ic dy s ad w) (fun b=>A b∨b=ad k) s ad a w:=by
  refine⟨an.rel.kG,an.rel.size,fun t av aE => ?_,fun k cs ae => ?_,an.rel.inj,an.rel.below,fun b q => .inl (an.rel.up b q),an.rel.fQ⟩
  ·obtain⟨v,h1,h2⟩:=an.rel.dw t av aE;exact⟨v,h1,h2.map ie fun _ _=>rfl⟩
  ·obtain⟨vs,ty,h1,h2,ar⟩:=an.rel.c5 k cs ae;exact⟨vs,ty,h1,h2.map ie fun _ _ _ _=>rfl,ar⟩
 have wS:=Pr ae cq (.inr rfl) ap
 have lA:∀j ds,(mR s k cs).mem j=some ds→j≠k∧s.mem j=some ds:=fun j ds af=>by
  simp only[mR] at af;cases aa:tn s k j with
  | false=>rw[aa] at af;simp at af
  | true=>rw[aa] at af;simp at af;exact⟨(EQ aa).1,af⟩
 have ac1:∀b,s.free A ad b→b<w.heap.size→(mR s k cs).free (fun b=>A b∨b=ad k) ad b∧w.heap[b]?=w.heap[b]?:=fun b q _=>⟨⟨.inl q.1,fun j ds af=>q.2 j ds (lA j ds af).2⟩,rfl⟩;refine h (Pq ok) dy dj a w hu ⟨dy,dj,⟨rfl,rfl⟩,fun b=>A b∨b=ad k,ad,an.up,fun b q=>q.elim (an.sub b) fun e=>by rw[e];exact wN,?_,fun j ds af=>an.hV j ds (lA j ds af).2,an.below,fun i r hi => ?_,an.apart,an.hot,an.fQ⟩
 ·refine⟨wS.kG,wS.size,wS.dw,fun j ds af => ?_,wS.inj,⟨rfl,rfl,rfl,cF _,fun _ _=>rfl⟩,wS.up,lY _ _ _⟩;obtain⟨vs,ty,h1,h2,_⟩:=wS.c5 j ds af;exact⟨vs,ty,h1,h2,fun q=>q.2 j ds af rfl⟩
 ·have aD:=an.rows i r hi;refine⟨aD.ok.kept aD.hb (fun _ _=>rfl) (cF _) ac1,aD.hb,fun g q=>⟨fun z=>z.elim (aD.own g q).1 fun e=>(aD.own g q).2 k cs ae e.symm,fun j ds af=>(aD.own g q).2 j ds (lA j ds af).2⟩⟩
end
end Go.Proofs.YtklpfooafbjnpaaGreat
namespace Go.Proofs.YtklpfooafbjnpaaGreat
abbrev cc:=Int×Int
def lU(l:List cc):List (cc×cc):=l.zip (l.drop 1++l.take 1)
end Go.Proofs.YtklpfooafbjnpaaGreat
namespace Go.Proofs.YtklpfooafbjnpaaGreat
open Go.RowKit
def CB(p:Int×Int):List AC:=[.c (.int .i64 p.1),.c (.int .i64 p.2)]
def pL(l:List (Int×Int)):List AC:=l.flatMap CB
def lJ(l:List (Int×Int)):AC := .p (b6 2 l.length (pL l))
def hl(L:List (List (Int×Int))):AC := .p (b6 1 L.length (L.map lJ))
def iE(L:List (List (Int×Int))):List ((Int×Int)×(Int×Int)):=L.flatMap lU
def VX(e:(Int×Int)×(Int×Int)):List ag:=[.w (.agg (CB e.1)),.w (.agg (CB e.2))]
def ry(L:List (List (Int×Int)))(k:Nat):Nat:=(iE (L.take k)).length
theorem wI(l:List (Int×Int)):(lU l).length=l.length:=by
 simp only[lU,List.length_zip,c3,iO,dX];omega
theorem AP{l:List (Int×Int)}{i:Nat}{p q:Int×Int}(hp:l[i]?=some p)(aj:(if i+1<l.length then l[i+1]? else l[0]?)=some q):(lU l)[i]?=some (p,q):=by
 have hi:=(bt.1 hp).1;simp only[lU,List.getElem?_zip_eq_some];refine⟨hp,?_⟩
 by_cases h:i+1<l.length
 ·rw[if_pos h] at aj;rw[fM (by simp;omega),gU,oG 1 i];exact aj
 ·rw[if_neg h] at aj;rw[gr (by simp;omega),iO,show i-(l.length-1)=0 by omega,gq (by omega)];exact aj
theorem ajj{L:List (List (Int×Int))}{k:Nat}{r:List (Int×Int)}(h:L[k]?=some r):ry L (k+1)=ry L k+r.length:=by
 have ae:=(bt.1 h).1;have:L.take (k+1)=L.take k++[r]:=by rw[lH ae,(bt.1 h).2]
 simp only[ry,iE,this,sM,c3,List.flatMap_cons,List.flatMap_nil,nk,wI]
theorem aax{L:List (List (Int×Int))}{k i:Nat}{r:List (Int×Int)}(h:L[k]?=some r)(hi:i<r.length):(iE L)[ry L k+i]?=(lU r)[i]?:=by
 have ae:=(bt.1 h).1
 have e:iE L=iE (L.take k)++(lU r++iE (L.drop (k+1))):=by
  conv=>lhs;rw[←ki k L,jU ae,(bt.1 h).2]
  simp only[iE,sM,List.flatMap_cons]
 rw[e,gr (by unfold ry;omega),show ry L k+i-(iE (L.take k)).length=i by unfold ry;omega,fM (by rw[wI];exact hi)]
theorem rG{l:List (Int×Int)}{i:Nat}{ii:Int}{x y:Int}(hi:ii=i)(h:l[i]?=some (x,y)):((pL l).drop (ii.toNat*2)).take 2=[.c (.int .i64 x),.c (.int .i64 y)]:=by
 subst hi;rw[kL]
 induction l generalizing i with
 | nil=>simp at h
 | cons p l cg =>
  cases i with
  | zero=>simp at h;subst h;rfl
  | succ i =>
   have:=cg (i:=i) (by simpa using h);rw[←this,Nat.succ_mul];show ((CB p++pL l).drop (i*2+2)).take 2=_;rw[show CB p++pL l=AC.c (.int .i64 p.1)::AC.c (.int .i64 p.2)::pL l from rfl];rfl
theorem zq{L:List (List (Int×Int))}{i:Nat}{ii:Int}{r:List (Int×Int)}(hi:ii=i)(h:L[i]?=some r):((L.map lJ).drop (ii.toNat*1)).take 1=[lJ r]:=by
 subst hi;rw[kL,Nat.mul_one];have ae:=(bt.1 h).1;rw[jU (by simpa using ae)];simp[(bt.1 h).2]
abbrev zH(k:Nat):ag := .w (.one (.own k 0))
def ED(x:Int×((Int×Int)×(Int×Int))):List AC:=[.c (.int .i64 x.2.1.1),.c (.int .i64 x.2.1.2),.c (.int .i64 x.2.2.1),.c (.int .i64 x.2.2.2),.c (.int .i64 x.1)]
def oe(l:List (Int×((Int×Int)×(Int×Int)))):List AC:=l.flatMap ED
theorem take_one{α:Type}{l:List α}{i:Nat}{x:α}(h:l[i]?=some x):l.take (i+1)=l.take i++[x]:=by
 rw[lH (bt.1 h).1,(bt.1 h).2]
def im(A B:List (List (Int×Int)))(op fill rung cap:Int):List AC:=[hl A,hl B,.c (.int .i64 op),.c (.int .i64 fill),.c (.int .i64 rung),.c (.int .i64 cap)]
theorem TP{i:Nat}{r:bE}(h:0<r.sz):Ae (bp i r):=fun j q af=>by
 by_cases e:j=i
 ·subst e;rw[bp,bZ] at af;cases af;exact h
 ·rw[bp,bP _ _ e] at af;cases af
theorem aib(L:List (List (Int×Int))):aP ah 105 [.w (.one (hl L))] (.w (.one (.p (l9 (.func 164) [.p (n5 [hl L])])))):=by
 refine LB (f:=105) Tryz.func105 rfl rfl rfl rfl ?_;refine Eb (wz ?_);(refine fi ?_);refine Ea 1 _ rfl rfl ?_;refine wz ?_;(repeat first|refine dd ?_|refine D4 (xs:=[_]) (cs:=[_]) rfl rfl rfl rfl ?_)
 ((refine bn rfl (bb rfl aM) ?_))
 exact ag.aW.refl _
abbrev Hi(l:Nat):ag:=aR (.func (.yield l) #[] #[])
def XO(X:ks)(L:List (List (Int×Int)))(k:Nat)(g:Option Nat)(az:List (Nat×ag))(aS:List (Nat×List AC)):Prop :=
 ∃(i:Nat) (ii:Int),i≤L.length∧k=L.length-i∧ii=i∧g=some (ry L i)∧aS=[]∧az=[(0,Hi X.l),(7,.w (.one (hl L))),(8,aL L.length),(9,aL ii)]
def XN(X:ks)(L:List (List (Int×Int)))(r:List (Int×Int))(b:Nat)(Ln:Int)(k:Nat)(g:Option Nat)(az:List (Nat×ag))(aS:List (Nat×List AC)):Prop :=
 ∃(i:Nat) (ii:Int),i≤r.length∧k=r.length-i∧ii=i∧g=some (b+i)∧aS=[]∧az=[(0,Hi X.l),(4,.w (.one (lJ r))),(7,.w (.one (hl L))),(8,aL L.length),(9,aL Ln),(13,.w (.one (lJ r))),(14,aL r.length),(15,aL ii)]
theorem agW{r:List (Int×Int)}{j:Nat}{dl:Int}(hp:j<r.length)(kz:dl=j):∃x y,(0≤(dl+1) % (r.length:Int)∧(dl+1) % (r.length:Int)<r.length)∧(if j+1<r.length then r[j+1]? else r[0]?)=some (x,y)∧((pL r).drop (((dl+1) % (r.length:Int)).toNat*2)).take 2=[.c (.int .i64 x),.c (.int .i64 y)]:=by
 subst kz
 by_cases aA:j+1<r.length
 ·have e:((j:Int)+1) % (r.length:Int)=((j+1:Nat):Int):=by rw[Int.emod_eq_of_lt (by omega) (by omega)];omega
  obtain⟨x,y,g⟩:∃x y,r[j+1]?=some (x,y):=⟨_,_,bF aA⟩;refine⟨x,y,by rw[e];omega,by rw[if_pos aA];exact g,rG e g⟩
 ·have e:((j:Int)+1) % (r.length:Int)=((0:Nat):Int):=by
   rw[show (j:Int)+1=(r.length:Int) by omega,Int.emod_self];rfl
  obtain⟨x,y,g⟩:∃x y,r[0]?=some (x,y):=⟨_,_,bF (by omega)⟩;refine⟨x,y,by rw[e];omega,by rw[if_neg aA];exact g,rG e g⟩
theorem aeF{L:List (List (Int×Int))}(dn:L.length≤4611686018427387904)(ap:∀r∈L,r.length≤4611686018427387904):DF ah (l9 (.func 164) [.p (n5 [hl L])]) ((iE L).map VX):=by
 refine Rk (gf:=164) Tryz.func164 rfl (fun args w=>yp (by kernel_rfl)) (b8 rfl) rfl rfl ?_;intro X ht hxs;refine⟨_,iR.cons (lO.refl _) iR.nil,?_⟩;(repeat first|(with_reducible apply gd);rfl|(with_reducible apply ye);(iterate 5 rfl)|(with_reducible apply rZ);(iterate 3 rfl)|(with_reducible first|apply s3|apply pd|apply dC|apply zP)|(with_reducible apply qI);assumption);refine Hq 34 (XO X L) L.length _ [] ⟨0,0,du _,rfl,rfl,rfl,rfl,rfl⟩ rfl ⟨rfl,rfl,rfl,rfl,trivial⟩ trivial rfl ?_;rintro n g az aS ⟨i,ii,hi,rfl,ev,rfl,rfl,rfl⟩ bC;clear bC
 by_cases aj:i<L.length
 ·have q2:ii<(L.length:Int):=by omega
  have q3:0≤ii:=by omega
  obtain⟨r,kd⟩:∃r,L[i]?=some r:=⟨_,bF aj⟩;have hL:=zq ev kd;have hP:=ap r (cP kd);(repeat first|(with_reducible apply gd);rfl|(with_reducible apply ye);(iterate 5 rfl)|(with_reducible apply Au);(iterate 3 rfl);(omega);(omega);(assumption);rfl|(with_reducible apply rZ);(iterate 3 rfl)|(with_reducible first|apply s3|apply pd|apply dC)|(with_reducible apply zS);assumption|with_reducible apply zP|(with_reducible apply zR);rfl;(exact cd (by omega))|(with_reducible apply qI);assumption);refine Hq 34 (XN X L r (ry L i) ii) r.length _ [] ⟨0,0,du _,rfl,rfl,rfl,rfl,rfl⟩ rfl ⟨rfl,rfl,rfl,rfl,rfl,rfl,rfl,rfl,trivial⟩ trivial rfl ?_;rintro n g az aS ⟨j,dl,af,rfl,kz,rfl,rfl,rfl⟩ bC;clear bC
  by_cases hp:j<r.length
  ·have p2:dl<(r.length:Int):=by omega
   have p3:0≤dl:=by omega
   obtain⟨x,y,g1⟩:∃x y,r[j]?=some (x,y):=⟨_,_,bF hp⟩;have ko:=rG kz g1;obtain⟨di,mE,⟨gP,fq⟩,g2,pU⟩:=agW hp kz
   have ab:X.xs[ry L i+j]?=some (VX ((x,y),(di,mE))):=by
    rw[hxs,dD,aax kd hp,AP g1 g2];rfl
   (repeat first|(with_reducible apply gd);rfl|(with_reducible apply H8);(iterate 5 rfl)|(with_reducible apply Au);(iterate 3 rfl);(omega);(omega);(assumption);rfl|(with_reducible apply wv);(iterate 3 rfl);(exact jx (by omega));rfl|(with_reducible apply NO);(iterate 3 rfl);(omega);(omega);rfl|(with_reducible apply rZ);(iterate 3 rfl)|(with_reducible first|apply s3|apply pd|apply dC)|(with_reducible apply zS);assumption|with_reducible apply zP|(with_reducible apply zR);rfl;(exact cd (by omega))|refine amd (ri:=6) (kc:=10) (by assumption) (by kernel_rfl) rfl (by kernel_rfl) rfl ?_|(with_reducible apply qI);assumption);refine⟨kg (Nat.lt_succ_self _) (b8 rfl),rfl,_,[.w (.agg [.c (.int .i64 x),.c (.int .i64 y)]),.w (.agg [.c (.int .i64 di),.c (.int .i64 mE)])],ab,rfl,pT.cons (s4.w rfl rfl) (pT.cons (s4.w rfl rfl) pT.nil),?_,?_⟩
   ·(repeat first|(with_reducible apply gd);rfl|(with_reducible apply wv);(iterate 3 rfl);(exact jx (by omega));rfl|(with_reducible first|apply pd|apply dC)|(with_reducible apply zS);assumption|with_reducible apply Hl|(with_reducible apply zQ);rfl;(rfl)|(with_reducible apply qI);assumption);exact⟨r.length-(j+1),_,[],by omega,⟨j+1,dl+1,hp,rfl,by omega,rfl,rfl,rfl⟩,rfl,⟨rfl,rfl,rfl,rfl,rfl,rfl,rfl,rfl,trivial⟩,trivial,rfl⟩
   ·(repeat first|(with_reducible apply gd);rfl|(with_reducible first|apply pd|apply dC|apply Wq)|(with_reducible apply Ws);assumption|with_reducible apply Wo|(with_reducible apply zR);rfl;(rfl));exact⟨.inr rfl,.inl rfl⟩
  ·have e:j=r.length:=by omega
   have vl:=ajj kd;subst e;(repeat first|(with_reducible apply gd);rfl|(with_reducible apply wv);(iterate 3 rfl);(exact jx (by omega));rfl|(with_reducible first|apply s3|apply pd|apply dC|apply Hl|apply Hm)|(with_reducible apply Hp);assumption|with_reducible apply Hn|(with_reducible apply zQ);rfl;(exact cb (by omega))|(with_reducible apply qI);assumption);exact⟨L.length-(i+1),_,[],by omega,⟨i+1,ii+1,aj,rfl,by omega,by rw[vl],rfl,rfl⟩,rfl,⟨rfl,rfl,rfl,rfl,trivial⟩,trivial,rfl⟩
 ·have e:i=L.length:=by omega
  subst e;(repeat first|(with_reducible apply gd);rfl|(with_reducible first|apply s3|apply pd|apply dC|apply Hm)|(with_reducible apply Hp);assumption|with_reducible apply Hn|(with_reducible apply zQ);rfl;(exact cb (by omega))|(with_reducible apply qI);assumption);exact⟨.inl rfl,.inr (by unfold ry;rw[List.take_length,jT])⟩
instance anL:HG ah 137 2 false 1:=⟨by kernel_rfl⟩
theorem Tk{n m:Nat}{xs ys:List AC}{op fill rung cap:Int}:aP ah 104 [.w (.agg [.p (b6 1 n xs),.p (b6 1 m ys),.c (.int .i64 op),.c (.int .i64 fill),.c (.int .i64 rung),.c (.int .i64 cap)])] (.w (.agg [.p (b6 1 n xs),.p (b6 1 m ys)])):=by
 refine bq (f:=104) Tryz.func104 rfl rfl rfl rfl ?_;(refine fi ?_)
 ((refine bn rfl (da rfl rfl rfl aM) ?_))
 exact ag.aW.refl _
theorem Tw(A B:List (List (Int×Int)))(op fill rung cap:Int):aP ah 221 [.w (.agg (im A B op fill rung cap))] (.w (.one (.p (l9 (.func 265) [.p (n5 (im A B op fill rung cap))])))):=by
 refine LB (f:=221) Tryz.func221 rfl rfl rfl rfl ?_;refine Eb (wz ?_);(refine fi ?_);refine Ea 1 _ rfl rfl ?_;refine wz ?_;(repeat first|refine dd ?_|refine D4 (xs:=[_]) (cs:=[_]) rfl rfl rfl rfl ?_)
 ((refine bn rfl (bb rfl aM) ?_))
 exact ag.aW.refl _
def yo(U:Nat→Prop)(W:World)(r:List (Int×Int)):AC := .p (IU U W (b6 2 r.length (pL r)))
theorem O0(U:Nat→Prop)(W:World)(L:List (List (Int×Int))):iR U W (L.map lJ) (L.map (yo U W)):=⟨by simp,fun j x y ab ai=>by
 rw[dD] at ab ai;cases h:L[j]? with
 | none=>rw[h] at ab;cases ab
 | some r=>rw[h] at ab ai;cases ab;cases ai;exact lO.IR _⟩
theorem age{f:List (Int×Int)→AC}{L:List (List (Int×Int))}{i:Nat}{ii:Int}{r:List (Int×Int)}(hi:ii=i)(h:L[i]?=some r):((L.map f).drop (ii.toNat*1)).take 1=[f r]:=by
 subst hi;rw[kL,Nat.mul_one];have ae:=(bt.1 h).1;rw[jU (by simpa using ae)];simp[(bt.1 h).2]
def sT(A B:List (List (Int×Int))):List (List ag):=(A++B).map fun r=>[.w (.one (lJ r))]
def sK(A B:List (List (Int×Int)))(i:Nat):Nat:=if i=0 then 0 else if i=1 then A.length else A.length+B.length
abbrev r7(X:ks)(L:List (List (Int×Int))):AC := .p (b6 1 L.length (L.map (yo X.U X.ct)))
def XL(X:ks)(A B:List (List (Int×Int)))(k:Nat)(g:Option Nat)(az:List (Nat×ag))(aS:List (Nat×List AC)):Prop :=
 ∃(i:Nat) (ii:Int),i≤2∧k=2-i∧ii=i∧g=some (sK A B i)∧aS=[]∧az=[(0,Hi X.l),(8,.w (.agg [r7 X A,r7 X B])),(9,aL ii)]
def XM(X:ks)(A B L:List (List (Int×Int)))(b:Nat)(Ln:Int)(k:Nat)(g:Option Nat)(az:List (Nat×ag))(aS:List (Nat×List AC)):Prop :=
 ∃(i:Nat) (ii:Int),i≤L.length∧k=L.length-i∧ii=i∧g=some (b+i)∧aS=[]∧az=[(0,Hi X.l),(8,.w (.agg [r7 X A,r7 X B])),(9,aL Ln),(12,.w (.one (r7 X L))),(13,aL L.length),(14,aL ii)]
theorem Rl{A B:List (List (Int×Int))}{op fill rung cap:Int}(cp:A.length≤4611686018427387904)(cZ:B.length≤4611686018427387904):DF ah (l9 (.func 265) [.p (n5 (im A B op fill rung cap))]) (sT A B):=by
 refine Rk (gf:=265) Tryz.func265 rfl (fun args w=>yp (by kernel_rfl)) (b8 rfl) rfl rfl ?_;intro X ht hxs;refine⟨[.p (n5 [r7 X A,r7 X B,.c (.int .i64 op),.c (.int .i64 fill),.c (.int .i64 rung),.c (.int .i64 cap)])],iR.cons (lO.ptr (iR.cons (lO.sl (O0 _ _ A)) (iR.cons (lO.sl (O0 _ _ B)) (iR.cons (lO.refl _) (iR.cons (lO.refl _) (iR.cons (lO.refl _) (iR.cons (lO.refl _) iR.nil))))))) iR.nil,?_⟩;have eV:=Tk (n:=A.length) (m:=B.length) (xs:=A.map (yo X.U X.ct)) (ys:=B.map (yo X.U X.ct)) (op:=op) (fill:=fill) (rung:=rung) (cap:=cap);(repeat first|(with_reducible apply gd);rfl|(with_reducible apply H8);(iterate 5 rfl)|refine H4 rfl rfl rfl (by(exact eV)) rfl ?_|(with_reducible first|apply s3|apply pd|apply dC|apply zP)|(with_reducible apply qI);assumption);refine Hq 24 (XL X A B) 2 _ [] ⟨0,0,du _,rfl,rfl,rfl,rfl,rfl⟩ rfl ⟨rfl,rfl,rfl,trivial⟩ trivial rfl ?_;rintro n g az aS ⟨i,ii,hi,rfl,ev,rfl,rfl,rfl⟩ bC;clear bC
 by_cases aj:i<2
 ·have q2:ii<2:=by omega
  have q3:0≤ii:=by omega
  obtain⟨L,pr,ab0,aec,sr⟩:∃L:List (List (Int×Int)),[r7 X A,r7 X B][ii.toNat*1]?=some (r7 X L)∧L.length≤4611686018427387904∧(∀j r,L[j]?=some r→X.xs[sK A B i+j]?=some [.w (.one (lJ r))])∧sK A B (i+1)=sK A B i+L.length:=by
   have Ji:i=0∨i=1:=by omega
   rw[hxs];rcases Ji with rfl|rfl
   ·subst ev;refine⟨A,rfl,cp,fun j r af => ?_,by simp[sK]⟩;have bc:=(bt.1 af).1;rw[show sK A B 0+j=j from hZ j,sT,dD,fM bc,af];rfl
   ·subst ev;refine⟨B,rfl,cZ,fun j r af => ?_,by simp[sK]⟩;rw[show sK A B 1+j=A.length+j from rfl,sT,dD,gr (by omega),show A.length+j-A.length=j by omega,af];rfl
  (repeat first|(with_reducible apply gd);rfl|(with_reducible apply rZ);(iterate 3 rfl)|(with_reducible apply NL);(iterate 3 rfl);(omega);(omega);(assumption);rfl|(with_reducible first|apply s3|apply pd|apply dC)|(with_reducible apply zS);assumption|with_reducible apply zP|(with_reducible apply zR);rfl;(exact cd (by omega))|(with_reducible apply qI);assumption);refine Hq 24 (XM X A B L (sK A B i) ii) L.length _ [] ⟨0,0,du _,rfl,rfl,rfl,rfl,rfl⟩ rfl ⟨rfl,rfl,rfl,rfl,rfl,rfl,trivial⟩ trivial rfl ?_;rintro n g az aS ⟨j,dl,af,rfl,kz,rfl,rfl,rfl⟩ bC;clear bC
  by_cases hp:j<L.length
  ·have p2:dl<(L.length:Int):=by omega
   have p3:0≤dl:=by omega
   obtain⟨r,g1⟩:∃r,L[j]?=some r:=⟨_,bF hp⟩;have ko:=age (f:=yo X.U X.ct) kz g1;have ab:=aec j r g1;(repeat first|(with_reducible apply gd);rfl|(with_reducible apply ye);(iterate 5 rfl)|(with_reducible apply Au);(iterate 3 rfl);(omega);(omega);(assumption);rfl|(with_reducible first|apply s3|apply pd|apply dC)|(with_reducible apply zS);assumption|with_reducible apply zP|(with_reducible apply zR);rfl;(exact cd (by omega))|refine amc (ri:=6) (k:=2) (by assumption) rfl ?_|(with_reducible apply qI);assumption);refine⟨kg (Nat.lt_succ_self _) (b8 rfl),rfl,_,[.w (.one (yo X.U X.ct r))],ab,rfl,pT.cons (s4.IR _) pT.nil,?_,?_⟩
   ·(repeat first|(with_reducible apply gd);rfl|(with_reducible apply wv);(iterate 3 rfl);(exact jx (by omega));rfl|(with_reducible first|apply pd|apply dC)|(with_reducible apply zS);assumption|with_reducible apply Hl|(with_reducible apply zQ);rfl;(rfl)|(with_reducible apply qI);assumption);exact⟨L.length-(j+1),_,[],by omega,⟨j+1,dl+1,hp,rfl,by omega,rfl,rfl,rfl⟩,rfl,⟨rfl,rfl,rfl,rfl,rfl,rfl,trivial⟩,trivial,rfl⟩
   ·(repeat first|(with_reducible apply gd);rfl|(with_reducible first|apply pd|apply dC|apply Wq)|(with_reducible apply Ws);assumption|with_reducible apply Wo|(with_reducible apply zR);rfl;(rfl));exact⟨.inr rfl,.inl rfl⟩
  ·have e:j=L.length:=by omega
   subst e;(repeat first|(with_reducible apply gd);rfl|(with_reducible apply wv);(iterate 3 rfl);(exact jx (by omega));rfl|(with_reducible first|apply s3|apply pd|apply dC|apply Hl|apply Hm)|(with_reducible apply Hp);assumption|with_reducible apply Hn|(with_reducible apply zQ);rfl;(exact cb (by omega))|(with_reducible apply qI);assumption);exact⟨2-(i+1),_,[],by omega,⟨i+1,ii+1,aj,rfl,by omega,by rw[sr],rfl,rfl⟩,rfl,⟨rfl,rfl,rfl,trivial⟩,trivial,rfl⟩
 ·have e:i=2:=by omega
  subst e;(repeat first|(with_reducible apply gd);rfl|(with_reducible first|apply s3|apply pd|apply dC|apply Hm)|(with_reducible apply Hp);assumption|with_reducible apply Hn|(with_reducible apply zQ);rfl;(exact cb (by omega))|(with_reducible apply qI);assumption);exact⟨.inl rfl,.inr (by simp[sK,sT])⟩
instance anM:nw ah 28 95 5 40:=⟨by kernel_rfl⟩
abbrev yn(v:Value)(l:List (Int×((Int×Int)×(Int×Int)))):bE:=⟨95,5,v,l.length,oe l⟩
def cu(A B:List (List (Int×Int))):List (Int×((Int×Int)×(Int×Int))):=(iE A).map (fun e=>(0,e))++(iE B).map fun e=>(1,e)
theorem aav(v:Value)(l:List (Int×((Int×Int)×(Int×Int))))(x:Int×((Int×Int)×(Int×Int))):yn v (l++[x])=⟨95,5,v,l.length+1,oe l++ED x⟩:=by
 simp[yn,oe,sM]
theorem Y3{A B:List (List (Int×Int))}{i:Nat}{e:(Int×Int)×(Int×Int)}(h:(iE A)[i]?=some e):(cu A B)[i]?=some (0,e):=by
 have hi:=(bt.1 h).1;unfold cu;rw[fM (by simpa using hi),dD,h];rfl
theorem Y4{A B:List (List (Int×Int))}{i:Nat}{e:(Int×Int)×(Int×Int)}(h:(iE B)[i]?=some e):(cu A B)[(iE A).length+i]?=some (1,e):=by
 unfold cu;rw[gr (by simp),jT,Nat.add_sub_cancel_left,dD,h];rfl
theorem NQ(A B:List (List (Int×Int))):(cu A B).length=(iE A).length+(iE B).length:=by simp[cu]
def o4(A B:List (List (Int×Int)))(i:Nat):Nat:=if i=0 then 0 else if i=1 then(iE A).length else(iE A).length+(iE B).length
def WY(A B:List (List (Int×Int)))(k:Nat)(R:aC)(az:List (Nat×ag))(aS:List (Nat×List AC)):Prop :=
 ∃(i:Nat) (ii:Int) (v:Value),i≤2∧k=2-i∧ii=i∧v.oneCell'=true∧R=bp 0 (yn v ((cu A B).take (o4 A B i)))∧aS=[(1003,[.c v])]∧az=[(3,zH 1003),(9,.w (.agg [hl A,hl B])),(10,aL ii)]
def WX(M:List (Int×((Int×Int)×(Int×Int))))(ii:Int)(b:Nat)(i:Nat)(R:aC)(cX:List (List AC)):Prop:=∃v,v.oneCell'=true∧R=bp 0 (yn v (M.take (b+i)))∧cX=[[.c v],[.c (.int .i64 ii)]]
theorem Gq{A B:List (List (Int×Int))}{op fill rung cap:Int}(cp:A.length≤900000)(cZ:B.length≤900000)(yw:∀r∈A,r.length≤900000)(yx:∀r∈B,r.length≤900000)(gj:(cu A B).length≤900000) :
  aP ah 57 [.w (.agg (im A B op fill rung cap))] (cG 5 (cu A B).length (oe (cu A B))):=by
 have eV:aP ah 104 [.w (.agg (im A B op fill rung cap))] (.w (.agg [hl A,hl B])):=Tk;refine LA (f:=57) Tryz.func57 rfl rfl rfl rfl ?_;(repeat first|refine bQ ?_|refine fO ?_|(with_reducible first|apply xI|apply vN|apply GY));refine CU (swp 3 1003) (lK _ _) ?_;refine akF 0 95 5 rfl ?_;refine akE 27 (WY A B) 2 _ _ _ ⟨0,0,.slice none 0 0,du _,rfl,rfl,rfl,rfl,rfl,rfl⟩ (lc _ _ _) rfl ⟨rfl,rfl,rfl,trivial⟩ ⟨rfl,trivial⟩ rfl ?_;rintro n R az aS ⟨i,ii,v,hi,rfl,ev,hv,rfl,rfl,rfl⟩ bC;clear bC
 by_cases aj:i<2
 ·have q2:ii<2:=by omega
  have q3:0≤ii:=by omega
  obtain⟨L,pr,ab0,ab1,fA,sr⟩:∃L:List (List (Int×Int)),[hl A,hl B][ii.toNat*1]?=some (hl L)∧L.length≤900000∧(∀r∈L,r.length≤900000)∧(∀(j:Nat) e,(iE L)[j]?=some e→(cu A B)[o4 A B i+j]?=some (ii,e))∧o4 A B (i+1)=o4 A B i+(iE L).length:=by
   have Ji:i=0∨i=1:=by omega
   rcases Ji with rfl|rfl
   ·subst ev;refine⟨A,rfl,cp,yw,fun j e he => ?_,by simp[o4]⟩;rw[show o4 A B 0+j=j from hZ j];exact Y3 he
   ·subst ev;exact⟨B,rfl,cZ,yx,fun j e he=>Y4 he,by simp[o4]⟩
  have kq:=aib L;have nv:=aeF (L:=L) (by omega) (fun r ap=>by have:=ab1 r ap;omega);(repeat first|refine bQ ?_|refine fO ?_|(with_reducible first|apply xI|apply vN|apply akG|apply GY)|(with_reducible apply akB);rfl;(exact cd (by omega)));refine CU (swp 4 1004) (lK _ _) ?_;refine L6 27 [(3,zH 1003),(4,zH 1004),(9,.w (.agg [hl A,hl B])),(10,aL ii)] [1003,1004] [[.c v],[.c (.int .i64 ii)]] (bp 0 (yn v ((cu A B).take (o4 A B i)))) (WX (cu A B) ii (o4 A B i)) (fun _ _ _=>False) rfl nv (by decide) ?hxs ?hp rfl ⟨rfl,rfl,rfl,rfl,trivial⟩ ⟨rfl,rfl,trivial⟩ (by decide) rfl rfl ⟨v,hv,rfl,rfl⟩ (a8.refl _) (TP (gJ _)) ?round ?done (fun _ _ _ _ _ h=>h.elim)
  case hxs =>
   intro x ab;obtain⟨e,_,rfl⟩:=fV.1 ab;exact⟨rfl,rfl⟩
  case hp =>
   intro p hp;simp only[fg,sN,or_false] at hp;rcases hp with rfl|rfl <;> exact⟨by decide,rfl⟩
  case round =>
   rintro j x R cX ab ⟨v,hv,rfl,rfl⟩ bC;rw[dD] at ab;obtain⟨⟨⟨db,jY⟩,di,mE⟩,he,rfl⟩:=Option.map_eq_some_iff.1 ab;clear ab bC;have aE:=take_one (fA _ _ he);have yT:((cu A B).take (o4 A B i+j)).length≤900000:=by rw[dX];omega
   (refine aQ ?_);refine na 0 rfl rfl rfl rfl ?q1 ?q2 rfl rfl (fun bf bT => ?_)
   case q1=>exact eI (m:=1000000) (by show ((cu A B).take (o4 A B i+j)).length+1≤1000000;omega) (by decide)
   case q2=>show (((cu A B).take (o4 A B i+j)).length+1)*40≤140737488355328;omega
   (refine aQ ?_);refine⟨_,_,⟨bf,bT,rfl,rfl⟩,?_,TP (gJ _),rfl,⟨rfl,rfl,trivial⟩,rfl⟩;rw[←oF,aE,aav];exact lc _ _ _
  case done =>
   rintro R cX ⟨v,hv,rfl,rfl⟩ bC;clear bC;rw[jT];(repeat first|refine bQ ?_|with_reducible apply vN);exact⟨2-(i+1),_,_,_,by omega,⟨i+1,ii+1,v,by omega,rfl,by omega,hv,rfl,rfl,rfl⟩,by rw[sr];exact a8.refl _,rfl,⟨rfl,rfl,rfl,trivial⟩,⟨rfl,trivial⟩,rfl⟩
 ·have e:i=2:=by omega
  subst e;have cB:(cu A B).take (o4 A B 2)=cu A B:=gB (by rw[NQ];simp[o4]);rw[cB];have q4:¬ii<2:=by omega
  refine akC 0 1003 0 (yn v (cu A B)) rfl rfl rfl ?_;(repeat first|refine bQ ?_|(with_reducible first|apply xI|apply vN|apply L7|apply akD)|(with_reducible apply akA);rfl;(exact cb (by omega)))
  ((refine bn rfl (bb rfl aM) ?_))
  exact ag.aW.refl _
end Go.Proofs.YtklpfooafbjnpaaGreat
