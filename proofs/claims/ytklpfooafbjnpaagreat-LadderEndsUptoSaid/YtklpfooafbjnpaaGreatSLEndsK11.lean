/-
  My own texts,without what this claim does not need. My own text.
-/
import Derived.Conc.LoneCalls
import Derived.Conc.LoneSelectN
import Derived.Conc.SmallLaws
import Derived.Conc.EventLaws
import Derived.Test.YtklpfooafbjnpaaGreatSLEndsK10
set_option maxRecDepth 100000
set_option maxHeartbeats 64000000
set_option linter.unusedVariables false
set_option linter.unusedSimpArgs false
set_option linter.unusedSectionVars false
open Go.Proofs.Tryz renaming prog → ah
namespace Go.Proofs.YtklpfooafbjnpaaGreat
open Go.RowKit
theorem ahZ{V l:List aq}{f t:Int}(ay:0≤f∧f≤V.length)(aD:0≤t∧t≤V.length)(mF:V.length≤10000)(al:l.length≤10000):aO ah 196 [gr V,aL f,aL t,gr l] (gr (V.take f.toNat++l++V.drop t.toNat)):=by
 have J:=SW (LL:=[V.take f.toNat,l,V.drop t.toNat]) (by show 3≤1100;decide) (by simp[cY];omega);have cy:[V.take f.toNat,l,V.drop t.toNat].flatten=V.take f.toNat++l++V.drop t.toNat:=by simp
 rw[cy] at J
 replace J:aO ah 217 [cD 1 3 [.p (b0 2 (V.take f.toNat).length (bY (V.take f.toNat))),.p (b0 2 l.length (bY l)),.p (b0 2 (V.drop t.toNat).length (bY (V.drop t.toNat)))]] (gr (V.take f.toNat++l++V.drop t.toNat)):=J
 have a1:0≤f:=ay.1;have a2:f≤f:=oM f;have a3:f≤V.length:=ay.2;have a4:0≤t:=aD.1;have a5:t≤V.length:=aD.2;have a6:(V.length:Int)≤V.length:=oM _;have m1:f.toNat-0=(V.take f.toNat).length:=by rw[dV];omega
 have aI:((bY V).drop (0*2)).take ((V.take f.toNat).length*2)=bY (V.take f.toNat):=by
  have h:bY V=bY (V.take f.toNat)++bY (V.drop f.toNat):=by rw[←tE,j8]
  rw[h,Nat.zero_mul,List.drop_zero,←oa,List.take_left]
 have m2:(V.length:Int).toNat-t.toNat=(V.drop t.toNat).length:=by rw[iB];omega
 have aN:((bY V).drop (t.toNat*2)).take ((V.drop t.toNat).length*2)=bY (V.drop t.toNat):=by
  have h:bY V=bY (V.take t.toNat)++bY (V.drop t.toNat):=by rw[←tE,j8]
  rw[h,show t.toNat*2=(bY (V.take t.toNat)).length by rw[oa,dV];omega,List.drop_left,QV rfl]
 refine bq (f:=196) Tryz.func196 rfl rfl rfl rfl ?_;(repeat first|refine db ?_|refine fA ?_|(with_reducible apply HL);(iterate 4 rfl);(assumption);(assumption);(assumption);(assumption);(assumption);rfl|(with_reducible apply HM);(iterate 5 rfl);(assumption);(assumption);(assumption);(assumption);(assumption);(assumption);rfl)
 ((refine bm rfl (aZ rfl aM) ?_))
 exact ag.aV.refl _
theorem ahY{V l:List Int}{f t:Int}(ay:0≤f∧f≤V.length)(aD:0≤t∧t≤V.length)(mF:V.length≤10000)(al:l.length≤10000):aO ah 197 [nJ V,aL f,aL t,nJ l] (nJ (V.take f.toNat++l++V.drop t.toNat)):=by
 have J:=SV (LL:=[V.take f.toNat,l,V.drop t.toNat]) (by show 3≤1100;decide) (by simp[cY];omega);have cy:[V.take f.toNat,l,V.drop t.toNat].flatten=V.take f.toNat++l++V.drop t.toNat:=by simp
 rw[cy] at J
 replace J:aO ah 218 [cD 1 3 [.p (b0 1 (V.take f.toNat).length (cJ (V.take f.toNat))),.p (b0 1 l.length (cJ l)),.p (b0 1 (V.drop t.toNat).length (cJ (V.drop t.toNat)))]] (nJ (V.take f.toNat++l++V.drop t.toNat)):=J
 have a1:0≤f:=ay.1;have a2:f≤f:=oM f;have a3:f≤V.length:=ay.2;have a4:0≤t:=aD.1;have a5:t≤V.length:=aD.2;have a6:(V.length:Int)≤V.length:=oM _;have m1:f.toNat-0=(V.take f.toNat).length:=by rw[dV];omega
 have aI:((cJ V).drop (0*1)).take ((V.take f.toNat).length*1)=cJ (V.take f.toNat):=by
  have h:cJ V=cJ (V.take f.toNat)++cJ (V.drop f.toNat):=by rw[←BG,j8]
  rw[h,Nat.zero_mul,List.drop_zero,←Ft,List.take_left]
 have m2:(V.length:Int).toNat-t.toNat=(V.drop t.toNat).length:=by rw[iB];omega
 have aN:((cJ V).drop (t.toNat*1)).take ((V.drop t.toNat).length*1)=cJ (V.drop t.toNat):=by
  have h:cJ V=cJ (V.take t.toNat)++cJ (V.drop t.toNat):=by rw[←BG,j8]
  rw[h,show t.toNat*1=(cJ (V.take t.toNat)).length by rw[Ft,dV];omega,List.drop_left,QH rfl]
 refine bq (f:=197) Tryz.func197 rfl rfl rfl rfl ?_;(repeat first|refine db ?_|refine fA ?_|(with_reducible apply HL);(iterate 4 rfl);(assumption);(assumption);(assumption);(assumption);(assumption);rfl|(with_reducible apply HM);(iterate 5 rfl);(assumption);(assumption);(assumption);(assumption);(assumption);(assumption);rfl)
 ((refine bm rfl (aZ rfl aM) ?_))
 exact ag.aV.refl _
theorem QZ:V6:=by
 intro V D aa hd;have Hm:=SW (LL:=[V]) (by show 1≤1100;decide) (by simp;omega);have Hn:=SV (LL:=[D]) (by show 1≤1100;decide) (by simp;omega);rw[show [V].flatten=V by simp] at Hm;rw[show [D].flatten=D by simp] at Hn
 replace Hm:aO ah 217 [cD 1 1 [.p (b0 2 V.length (bY V))]] (gr V):=Hm
 replace Hn:aO ah 218 [cD 1 1 [.p (b0 1 D.length (cJ D))]] (nJ D):=Hn
 refine bq (f:=155) Tryz.func155 rfl rfl rfl rfl ?_;(refine cQ ?_)
 ((refine bm rfl (c8 rfl rfl rfl aM) ?_))
 exact ag.aV.refl _
theorem ak6{xs ys:List bD}(al:xs.length=ys.length)(h:∀(i:Nat) x y,xs[i]?=some x→ys[i]?=some y→ag.aV (.w x) (.w y)):ag.aV (.cd xs) (.cd ys):=fun U ad W v hv=>by
 obtain⟨vs,e,aA,aY⟩:=hv
 exact⟨vs,e,by rw[←al];exact aA,fun i y u ai hu=>by
  have hi:i<xs.length:=by rw[al];exact(br.1 ai).1
  exact h i _ y (bG hi) ai U ad W u (aY i _ u (bG hi) hu)⟩
theorem aao:ag.aV (.cd [.agg [.c (.slice none 0 0),.c (.slice none 0 0)],.one (.c (.bool false))]) (.cd [.agg (wW [] []),.one (.c (.bool false))]):=ak6 rfl fun i x y ab ai=>by
 match i with
 | 0=>cases ab;cases ai;exact Y7
 | 1=>cases ab;cases ai;exact ag.aV.refl _
 | i+2=>simp at ab
theorem akF{V l:List aq}{D:List Int}{j:Nat}(aa:V.length≤1100)(hd:D.length≤1100)(af:j≤1100)
  (cs:(j:Int)≥D.length∨(¬(j:Int)≥D.length∧(j:Int)≥(V.length:Int)-1)∨(¬(j:Int)≥D.length∧¬(j:Int)≥(V.length:Int)-1∧(l.length:Int)=0)):aO ah 139 [pw V D,aL j,gr l] (.cd [.agg (wW [] []),.one (.c (.bool false))]):=by
 have dl:¬(j:Int)<0:=by omega
 generalize (j:Int)=dN at *;rcases cs with q1|⟨q1,q2⟩|⟨q1,q2,q3⟩
 all_goals
  refine bq (f:=139) Tryz.func139 rfl rfl rfl rfl ?_;(repeat first|refine db ?_|(with_reducible apply bT (c:=true));rfl;rfl;(exact ca (by omega))|(with_reducible apply bT (c:=false));rfl;rfl;(exact cm (by omega)))
  ((refine bm rfl (c8 rfl rfl rfl (aZ rfl aM)) ?_))
  exact aao
theorem akG{V l:List aq}{D:List Int}{j:Nat}{dN pN:Int}(l7:dN=j)(r3:D[j]?=some pN)(PD:1≤pN∧pN≤1048576)(al:0<l.length)(e4:V.length=D.length+1)(aa:V.length≤1100)(PA:l.length≤1100):aO ah 139 [pw V D,aL dN,gr l] (.cd [.agg (wW (GK V j l) (CJ D j l.length)),.one (.c (.bool true))]):=by
 have E1:j<D.length:=(br.1 r3).1;have dl:¬dN<0:=by omega
 have q1:¬dN≥D.length:=by omega
 have q2:¬dN≥(V.length:Int)-1:=by omega
 have q3:¬(l.length:Int)=0:=by omega
 have q4:dN<(D.length:Int):=by omega
 have hx:=wR l7 r3;have gv:=ahk (d:=pN+1) (m:=l.length+1) (by omega) (by omega);have hQ:=ahZ (V:=V) (l:=l) (f:=dN+1) (t:=dN+1) (by omega) (by omega) (by omega) (by omega);have W0:=ahY (V:=D) (l:=List.replicate (l.length+1) (pN+1)) (f:=dN) (t:=dN+1) (by omega) (by omega) (by omega) (by rw[List.length_replicate];omega);have aI:(dN+1).toNat=j+1:=by omega
 have aN:dN.toNat=j:=by omega
 have cc:D.getD j 0=pN:=by simp[List.getD,r3]
 have ed:D.take j++List.replicate (l.length+1) (pN+1)++D.drop (j+1)=CJ D j l.length:=by unfold CJ;rw[cc]
 have iY:V.take (j+1)++l++V.drop (j+1)=GK V j l:=rfl;rw[aI,iY] at hQ;rw[aI,aN,ed] at W0;have pP:(((l.length+1:Nat):Int))=(l.length:Int)+1:=by omega
 rw[pP] at gv;clear aI aN cc ed iY pP;generalize GK V j l=MW at *;generalize CJ D j l.length=xF at *;generalize List.replicate (l.length+1) (pN+1)=T at *;refine bq (f:=139) Tryz.func139 rfl rfl rfl rfl ?_;(repeat first|refine db ?_|refine fA ?_|refine uf hQ ?_|(with_reducible apply bT (c:=false));rfl;rfl;(exact cm (by omega)))
 ((refine bm rfl (c8 rfl rfl rfl (aZ rfl aM)) ?_))
 exact ag.aV.refl _
theorem aew:We:=by
 intro V D j l mF aa PA af o9;cases al:l with
 | nil=>exact akF (V:=V) (D:=D) (l:=[]) (j:=j) (by omega) (by omega) (by omega) (.inr (.inr ⟨by omega,by omega,rfl⟩))
 | cons p m =>
  rw[←al];have e:l.isEmpty=false:=by rw[al];rfl
  rw[e];have n2:0<l.length:=by rw[al];exact gz _
  obtain⟨pN,r3⟩:∃pN,D[j]?=some pN:=⟨_,bG af⟩;exact akG (V:=V) (l:=l) (D:=D) (j:=j) rfl r3 (o9 pN (cP r3)) n2 mF aa PA
theorem Y8(V:List aq):ag.aV (.w (.agg [.p (b0 2 V.length (bY V)),.c (.slice none 0 0)])) (pw V []):=DH rfl fun j x y ab ai=>by
 match j with
 | 0=>cases ab;cases ai;exact .inl rfl
 | 1=>cases ab;cases ai;exact .inr ⟨rfl,1,rfl⟩
 | j+2=>simp at ab
theorem aer:V9:=by
 intro x y z w;cases aj:dG x y z w with
 | true =>
  obtain⟨rfl,rfl⟩:=tc.1 aj;rw[show w6 (x,y) (x,y)=[(x,y)] from if_pos rfl,show w5 (x,y) (x,y)=[] from if_pos rfl];refine bq (f:=191) Tryz.func191 rfl rfl rfl rfl ?_;(refine fs ?_)
  ((refine bm rfl (c8 rfl rfl rfl aM) ?_))
  exact Y8 [(x,y)]
 | false =>
  have aA:¬((x,y):aq)=(z,w):=fun e=>by
   have:=tc.2 (⟨congrArg Prod.fst e,congrArg Prod.snd e⟩:x=z∧y=w);rw[aj] at this;cases this
  rw[show w6 (x,y) (z,w)=[(x,y),(z,w)] from if_neg aA,show w5 (x,y) (z,w)=[1] from if_neg aA];refine bq (f:=191) Tryz.func191 rfl rfl rfl rfl ?_;(refine fs ?_)
  ((refine bm rfl (c8 rfl rfl rfl aM) ?_))
  exact ag.aV.refl _
def Wm(V:List aq)(D:List Int)(n:Nat)(az:List (Nat×ag))(aU:List (Nat×List AC)):Prop :=
 ∃(k:Nat) (ef d:Int),k≤D.length∧n=D.length-k∧ef=k∧d=mB (D.take k)∧aU=[(1,wW V D)]∧az=[(1,Vq 1),(3,aL d),(7,cD 1 D.length (cJ D)),(8,aL D.length),(9,aL ef)]
theorem ZN{D:List Int}{k:Nat}{d:Int}(h:D[k]?=some d):mB (D.take (k+1))=max (mB (D.take k)) d:=by
 have ae:=(br.1 h).1
 have e:D.take (k+1)=D.take k++[d]:=by
  rw[ls ae,(br.1 h).2]
 unfold mB;rw[e,List.foldl_append];rfl
theorem Q0:Mu:=by
 intro V D aa hd;refine bq (f:=76) Tryz.func76 rfl rfl rfl rfl ?_;(refine fs ?_);refine qJ 18 (Wm V D) D.length _ [(1,wW V D)] ⟨0,0,0,dy _,rfl,rfl,rfl,rfl,rfl⟩ rfl ⟨rfl,rfl,rfl,rfl,rfl,trivial⟩ ⟨rfl,trivial⟩ rfl ?_;rintro n az aU ⟨k,ef,d,ae,rfl,lJ,uT,rfl,rfl⟩ bE;clear bE
 by_cases aj:k<D.length
 ·have q2:ef<(D.length:Int):=by omega
  have q3:0≤ef:=by omega
  obtain⟨e,g1⟩:∃e,D[k]?=some e:=⟨_,bG aj⟩;have hx:=wR lJ g1;have aD:=ZN g1;rw[←uT,show max d e=if e>d then e else d by split <;> omega] at aD;(refine fs ?_);exact⟨D.length-(k+1),_,[(1,wW V D)],by omega,⟨k+1,ef+1,_,by omega,rfl,by omega,aD.symm,rfl,rfl⟩,rfl,⟨rfl,rfl,rfl,rfl,rfl,trivial⟩,⟨rfl,trivial⟩,rfl⟩
 ·have q2:¬ef<(D.length:Int):=by omega
  have cy:D.take k=D:=gV (by omega);rw[cy] at uT;rw[←uT];(refine fs ?_)
  ((refine bm rfl (aZ rfl aM) ?_))
  exact ag.aV.refl _
def nT(r:Int)(L:List aq)(x y:Int):List aq:=if 0≤hk L x y then L else if r≤(L.length:Int) then L else L++[(x,y)]
def kH(r:Int)(L:List aq)(x y:Int):Bool:=if 0≤hk L x y then false else if r≤(L.length:Int) then false else true
def nS(r:Int)(L:List aq)(x y:Int):Int:=if 0≤hk L x y then 0 else if r≤(L.length:Int) then 90 else 0
theorem sn{L:List aq}{x y:Int}:0≤hk L x y↔(x,y)∈L:=by
 unfold hk;cases h:L.findIdx? fun e=>decide (e.1=x)&&decide (e.2=y) with
 | none =>
  rw[List.findIdx?_eq_none_iff] at h;refine⟨fun aJ=>absurd aJ (by decide),fun aJ => ?_⟩;have:=h _ aJ;simp at this
 | some k =>
  obtain⟨ae,h1,_⟩:=List.findIdx?_eq_some_iff_getElem.1 h;simp only[eb,cS] at h1;refine⟨fun _ => ?_,fun _=>Int.natCast_nonneg k⟩;have:L[k]=(x,y):=Prod.ext h1.1 h1.2;rw[←this];exact List.getElem_mem ae
abbrev zX:=Int→List aq→Value→dS→Prop
def Wa(rK:zX):Prop:=∀n:Int,Hz ah 60 [aL n] fun p S=>∃b,p=bJ b∧rK (rp n) [] p S
def V5(rK:zX):Prop:=∀(r:Int) L b S (x y:Int),rK r L (bJ b) S→L.length≤1100→xS ah 146 [aQ (bJ b),bn x y] (bJ b) S fun v S'=>v = .cd [.one (.c (.bool (kH r L x y))),.one (.c (.int .i64 (nS r L x y)))]∧rK r (nT r L x y) (bJ b) S'
def Wd(rK:zX):Prop:=∀(r:Int) L b S,rK r L (bJ b) S→L.length≤1100→xS ah 62 [aQ (bJ b)] (bJ b) S fun v S'=>v=aL r∧rK r L (bJ b) S'
def Wb(rK:zX):Prop:=∀(r:Int) L b S (x y:Int),rK r L (bJ b) S→L.length≤1100→xS ah 203 [aQ (bJ b),bn x y] (bJ b) S fun v S'=>∃k:Int,v = .cd [.one (.c (.int .i64 k)),.one (.c (.bool (decide (0≤hk L x y))))]∧(0≤hk L x y→k=hk L x y)∧rK r L (bJ b) S'
end Go.Proofs.YtklpfooafbjnpaaGreat
namespace Go.Proofs.YtklpfooafbjnpaaGreat
def fo(l:List dC)(x y:Int):Nat:=(vl l x y).length
theorem Ti(l:List dC)(x y:Int):fo l x y≤l.length:=aiH l x y
theorem y0:∀ {l:List dC} (h:lb l) (x y:Int) (k:Nat) (e:dC),l[k]?=some e→(k<fo l x y↔nB e.1 e.2.1 x y=true)
 | [],_,_,_,k,e,ae=>by simp at ae
 | f::l,h,x,y,k,e,ae=>by
  have ak:=j9.1 h
  by_cases ay:nB f.1 f.2.1 x y=true
  ·have hp:fo (f::l) x y=fo l x y+1:=by
    unfold fo vl;rw[List.filter_cons,if_pos ay];rfl
   rw[hp];cases k with
   | zero=>simp at ae;subst ae;simp[ay]
   | succ k =>
    have:=y0 ak.2 x y k e (by simpa using ae);rw[←this];omega
  ·have dH:∀g∈f::l,¬nB g.1 g.2.1 x y=true:=by
    intro g au;rcases fe.1 au with rfl|au
    ·exact ay
    ·have h1:=ak.1 g au;rw[qf] at h1 ay ⊢;omega
   have hp:fo (f::l) x y=0:=by
    unfold fo vl;rw[List.filter_eq_nil_iff.2 dH];rfl
   rw[hp];have:=dH e (cP ae);simp[this]
theorem L4{l:List dC}(h:lb l){x y:Int}:∀e∈l.take (fo l x y),nB e.1 e.2.1 x y=true:=by
 intro e he;obtain⟨k,ae⟩:=kx he;have bb:=(br.1 ae).1;rw[dV] at bb;rw[gg (by omega)] at ae;exact(y0 h x y k e ae).1 (by omega)
theorem Ol{l:List dC}(h:lb l){x y:Int}:∀e∈l.drop (fo l x y),¬nB e.1 e.2.1 x y=true:=by
 intro e he;obtain⟨k,ae⟩:=kx he;rw[gI] at ae;intro bb;have:=(y0 h x y _ e ae).2 bb;omega
theorem Tw{l:List dC}(h:lb l){x y:Int}:vl l x y=l.take (fo l x y):=by
 conv=>lhs;rw[←j8 (fo l x y) l]
 unfold vl;rw[List.filter_append,List.filter_eq_self.2 (L4 h),List.filter_eq_nil_iff.2 (Ol h),mS]
theorem EM{l:List dC}(h:lb l){x y:Int}:il l x y=true↔∃u,l[fo l x y]?=some (x,y,u):=by
 constructor
 ·intro aY;unfold il at aY;rw[List.any_eq_true] at aY;obtain⟨e,he,aj⟩:=aY;simp only[eb,cS] at aj;obtain⟨k,ae⟩:=kx he;have h1:=y0 h x y k e ae;have h2:¬k<fo l x y:=by rw[h1,qf];omega
  have yp:=(br.1 ae).1;have nn:fo l x y<l.length:=by omega
  have hp:=bG nn;have ar:=y0 h x y _ _ hp
  by_cases e':k=fo l x y
  ·refine⟨e.2.2,?_⟩;rw[←e',ae];exact congrArg some (Prod.ext aj.1 (Prod.ext aj.2 rfl))
  ·exfalso;have aK:=List.pairwise_iff_getElem.1 h (fo l x y) k nn yp (by omega);have hU:l[k]=e:=(br.1 ae).2;rw[hU,qf] at aK;have bX:nB l[fo l x y].1 l[fo l x y].2.1 x y=true:=by rw[qf];omega
   have:=ar.2 bX;omega
 ·rintro⟨u,hu⟩;exact List.any_eq_true.2 ⟨_,cP hu,by simp⟩
theorem ZO{l:List dC}(h:lb l){x y:Int}(aA:il l x y=false):∀e∈l.drop (fo l x y),nB x y e.1 e.2.1=true:=by
 intro e he;have h1:=Ol h e he
 have h2:¬(e.1=x∧e.2.1=y):=by
  rintro⟨ar,aK⟩;have:il l x y=true:=List.any_eq_true.2 ⟨_,oi he,by simp[ar,aK]⟩;rw[aA] at this;cases this
 rw[qf] at *;omega
theorem Tx{l:List dC}(h:lb l){x y v:Int}(aA:il l x y=false):tP l x y v=l.take (fo l x y)++(x,y,v)::l.drop (fo l x y):=by
 unfold tP;rw[Tw h];congr 2
 conv=>lhs;rw[←j8 (fo l x y) l]
 unfold Gh;rw[List.filter_append,List.filter_eq_self.2 (ZO h aA),List.filter_eq_nil_iff.2 fun e he => ?_,tU];have:=L4 h e he;rw[qf] at *;omega
theorem aiI{l:List dC}(h:lb l){x y v u:Int}(hp:l[fo l x y]?=some (x,y,u)):tP l x y v=l.take (fo l x y)++(x,y,v)::l.drop (fo l x y+1):=by
 unfold tP;rw[Tw h];congr 2;have al:=(br.1 hp).1;have he:=(br.1 hp).2
 conv=>lhs;rw[←j8 (fo l x y) l]
 unfold Gh;rw[List.filter_append,List.filter_eq_nil_iff.2 (fun e he=>by have:=L4 h e he;rw[qf] at *;omega),tU,jE al,he,List.filter_cons_of_neg (by rw[qf];simp)];refine List.filter_eq_self.2 fun e hm => ?_;obtain⟨k,ae⟩:=kx hm;rw[gI] at ae;have yp:=(br.1 ae).1;have aK:=List.pairwise_iff_getElem.1 h (fo l x y) _ al yp (by omega);rw[he,(br.1 ae).2] at aK;exact aK
theorem alp{l:List dC}(h:lb l){x y u:Int}(hp:l[fo l x y]?=some (x,y,u)):il l x y=true∧py l x y=u:=Vt h (cP hp)
abbrev aiA(e:dC):aq:=(e.1,e.2.1)
def qe:Nat→List aq→List dC
 | _,[]=>[]
 | k,p::l=>(p.1,p.2,(k:Int))::qe (k+1) l
theorem Sg:∀(k:Nat) (l:List aq) (p:aq),qe k (l++[p])=qe k l++[(p.1,p.2,((k+l.length:Nat):Int))]
 | k,[],p=>by simp[qe]
 | k,q::l,p=>by
  simp only[tS,qe,Sg (k+1) l p,hJ];rw[show k+1+l.length=k+(l.length+1) by omega]
theorem Sh:∀(k:Nat) (l:List aq),(qe k l).map aiA=l
 | _,[]=>rfl
 | k,p::l=>by simp only[qe,hK,Sh (k+1) l]
theorem agr(k:Nat)(l:List aq):(qe k l).length=l.length:=by
 have:=congrArg List.length (Sh k l);rwa [jC] at this
theorem KT:∀(k:Nat) (l:List aq) (x y w:Int),(x,y,w)∈qe k l↔∃i:Nat,l[i]?=some (x,y)∧w=((k+i:Nat):Int)
 | k,[],x,y,w=>by simp[qe]
 | k,p::l,x,y,w=>by
  rw[qe,fe,KT (k+1) l x y w]
  constructor
  ·rintro (h|⟨i,h1,h2⟩)
   ·simp only[Prod.mk.injEq] at h;exact⟨0,by rw[xg,h.1,h.2.1],by rw[h.2.2];rfl⟩
   ·exact⟨i+1,by rw[List.getElem?_cons_succ];exact h1,by rw[h2];omega⟩
  ·rintro⟨i,h1,h2⟩
   match i with
   | 0=>rw[xg] at h1;cases h1;exact .inl (by rw[h2];rfl)
   | i+1=>rw[List.getElem?_cons_succ] at h1;exact .inr ⟨i,h1,by rw[h2];omega⟩
def oW(L:List aq)(es:List dC):Prop:=lb es∧es.Perm (qe 0 L)∧L.Nodup
theorem oW.len{L:List aq}{es:List dC}(h:oW L es):es.length=L.length:=by rw[h.2.1.length_eq,agr]
theorem ags{L:List aq}(aA:L.Nodup){i:Nat}{x y:Int}(h:L[i]?=some (x,y)):hk L x y=(i:Int):=by
 have aF:0≤hk L x y:=sn.2 (cP h);unfold hk at aF ⊢;cases ay:L.findIdx? fun e=>decide (e.1=x)&&decide (e.2=y) with
 | none=>rw[ay] at aF;exact absurd aF (by decide)
 | some k =>
  obtain⟨ae,h1,_⟩:=List.findIdx?_eq_some_iff_getElem.1 ay;simp only[eb,cS] at h1;have aI:L[k]=(x,y):=Prod.ext h1.1 h1.2;obtain⟨hi,aN⟩:=br.1 h;have:=(List.getElem_inj (h₀:=ae) (h₁:=hi) aA).1 (aI.trans aN.symm);rw[this]
theorem abM{es:List dC}{a b:Int}:il es a b=true↔∃w,(a,b,w)∈es:=by
 unfold il;rw[List.any_eq_true]
 constructor
 ·rintro⟨⟨p,q,w⟩,h1,h2⟩;simp only[eb,cS] at h2;exact⟨w,by rw[←h2.1,←h2.2];exact h1⟩
 ·rintro⟨w,h⟩;exact⟨_,h,by simp⟩
theorem oW.num{L:List aq}{es:List dC}(h:oW L es)(x y:Int):il es x y=decide (0≤hk L x y)∧(0≤hk L x y→py es x y=hk L x y):=by
 by_cases aY:0≤hk L x y
 ·obtain⟨i,hi⟩:=kx (sn.1 aY);have hm:(x,y,((0+i:Nat):Int))∈es:=h.2.1.mem_iff.2 ((KT 0 L x y _).2 ⟨i,hi,rfl⟩);have h1:=Vt h.1 hm;exact⟨by rw[h1.1,ca aY],fun _=>by rw[h1.2,ags h.2.2 hi,iR]⟩
 ·refine⟨?_,fun aJ=>absurd aJ aY⟩;rw[cm aY];cases he:il es x y with
  | false=>rfl
  | true =>
   obtain⟨w,hw⟩:=abM.1 he;obtain⟨i,hi,_⟩:=(KT 0 L x y w).1 (h.2.1.mem_iff.1 hw);exact absurd (sn.2 (cP hi)) aY
theorem oW.add{L:List aq}{es:List dC}(h:oW L es){x y:Int}(aA:¬ 0≤hk L x y):oW (L++[(x,y)]) (tP es x y L.length):=by
 have cz:il es x y=false:=by rw[(h.num x y).1];exact cm aA
 refine⟨aiJ h.1 x y L.length,?_,?_⟩
 ·rw[Tx h.1 cz,Sg,iR];refine List.perm_middle.trans ?_;rw[j8];refine(h.2.1.cons _).trans ?_;exact(List.perm_append_singleton _ _).symm
 ·rw[List.nodup_append];refine⟨h.2.2,by simp,fun a aX b aa e => ?_⟩;rw[jD] at aa;subst aa;subst e;exact aA (sn.2 aX)
theorem oW.nil:oW [] []:=⟨.nil,.refl _,.nil⟩
theorem XC{r:Int}{L:List aq}{x y:Int}(h:0≤hk L x y):nT r L x y=L∧kH r L x y=false∧nS r L x y=0:=by unfold nT kH nS;rw[if_pos h,if_pos h,if_pos h];exact⟨rfl,rfl,rfl⟩
theorem XB{r:Int}{L:List aq}{x y:Int}(h:¬ 0≤hk L x y)(h2:r≤(L.length:Int)):nT r L x y=L∧kH r L x y=false∧nS r L x y=90:=by unfold nT kH nS;rw[if_neg h,if_neg h,if_neg h,if_pos h2,if_pos h2,if_pos h2];exact⟨rfl,rfl,rfl⟩
theorem XD{r:Int}{L:List aq}{x y:Int}(h:¬ 0≤hk L x y)(h2:¬r≤(L.length:Int)):nT r L x y=L++[(x,y)]∧kH r L x y=true∧nS r L x y=0:=by unfold nT kH nS;rw[if_neg h,if_neg h,if_neg h,if_neg h2,if_neg h2,if_neg h2];exact⟨rfl,rfl,rfl⟩
end Go.Proofs.YtklpfooafbjnpaaGreat
namespace Go.Proofs.YtklpfooafbjnpaaGreat
open Go.RowKit
abbrev hI(v:Value)(l:List dC):bC:=⟨293,3,v,l.length,eA l⟩
end Go.Proofs.YtklpfooafbjnpaaGreat
namespace Go.Proofs.YtklpfooafbjnpaaGreat
theorem Sv{a1 a2 b1 b2 p1 p2:Int}(h:cn a1 a2 b1 b2 p1 p2=0):(b2-a2)*a1+(a1-b1)*a2=(b2-a2)*p1+(a1-b1)*p2:=by unfold cn at h;grind
theorem Sx{a1 a2 b1 b2 c1 c2 d1 d2 p1 p2:Int}(h:cn a1 a2 b1 b2 p1 p2=0)(k:cn c1 c2 d1 d2 p1 p2=0) :
  kR a1 a2 b1 b2 c1 c2 d1 d2=p1*dm a1 a2 b1 b2 c1 c2 d1 d2∧kS a1 a2 b1 b2 c1 c2 d1 d2=p2*dm a1 a2 b1 b2 c1 c2 d1 d2:=by
 have e:=Sv h;have f:=Sv k;unfold kR kS dm;rw[e,f]
 constructor <;> grind
theorem FW(p w:Int):kw (p*w) w=p*jy w:=by
 unfold kw jy
 split
 ·rw[Int.mul_neg]
 ·rfl
theorem DW{p d a b:Int}(aF:hG a b≤p)(h1:p≤hE a b)(hd:0<d):lZ (p*d) d a b :=
 ⟨qo aF (by omega),qo h1 (by omega)⟩
theorem OR{a1 a2 b1 b2 c1 c2 d1 d2 p1 p2 d:Int}(h:dE p1 p2 a1 a2 b1 b2)(k:dE p1 p2 c1 c2 d1 d2)(hd:0<d):four a1 a2 b1 b2 c1 c2 d1 d2 (p1*d) (p2*d) d :=
 ⟨DW h.2.1 h.2.2.1 hd,DW h.2.2.2.1 h.2.2.2.2 hd,DW k.2.1 k.2.2.1 hd,DW k.2.2.2.1 k.2.2.2.2 hd⟩
theorem af2{a1 a2 b1 b2 c1 c2 d1 d2:Int}(h:dm a1 a2 b1 b2 c1 c2 d1 d2=0) :
  (jh a1 a2 b1 b2 c1 c2 d1 d2=iL∧∀p1 p2,dE p1 p2 a1 a2 b1 b2→¬dE p1 p2 c1 c2 d1 d2) ∨
  ∃f1 f2 g1 g2,jh a1 a2 b1 b2 c1 c2 d1 d2=wS f1 f2 g1 g2∧dI f1 f2 g1 g2∧dE f1 f2 a1 a2 b1 b2∧dE f1 f2 c1 c2 d1 d2∧dE g1 g2 a1 a2 b1 b2∧dE g1 g2 c1 c2 d1 d2
   ∧ f1=ej (eV a1 a2 b1 b2) (eE a1 a2 b1 b2) (eV c1 c2 d1 d2) (eE c1 c2 d1 d2)∧f2=ee (eV a1 a2 b1 b2) (eE a1 a2 b1 b2) (eV c1 c2 d1 d2) (eE c1 c2 d1 d2)
   ∧ g1=eV (ej a1 a2 b1 b2) (ee a1 a2 b1 b2) (ej c1 c2 d1 d2) (ee c1 c2 d1 d2)∧g2=eE (ej a1 a2 b1 b2) (ee a1 a2 b1 b2) (ej c1 c2 d1 d2) (ee c1 c2 d1 d2)
   ∧ ∀p1 p2,dE p1 p2 a1 a2 b1 b2→dE p1 p2 c1 c2 d1 d2→dI f1 f2 p1 p2∧dI p1 p2 g1 g2:=by
 have hs:=yF a1 a2 b1 b2;have aD:=yF c1 c2 d1 d2
 have hw:qh (eV a1 a2 b1 b2) (eE a1 a2 b1 b2) (ej a1 a2 b1 b2) (ee a1 a2 b1 b2) (eV c1 c2 d1 d2) (eE c1 c2 d1 d2) (ej c1 c2 d1 d2) (ee c1 c2 d1 d2)=0:=by
  have h1:=GZ a1 a2 b1 b2 c1 c2 d1 d2;have h2:=CV a1 a2 b1 b2 c1 c2 d1 d2;have ar:=CV b1 b2 a1 a2 c1 c2 d1 d2;rw[←Vx];rcases oB a1 a2 b1 b2 with ⟨h1,h2,ar,aK,_⟩|⟨h1,h2,ar,aK,_⟩ <;> rcases oB c1 c2 d1 d2 with ⟨bB,cl,ju,lp,_⟩|⟨bB,cl,ju,lp,_⟩ <;> rw[h1,h2,ar,aK,bB,cl,ju,lp] <;> omega
 have zk:∀p1 p2,dE p1 p2 (eV a1 a2 b1 b2) (eE a1 a2 b1 b2) (ej a1 a2 b1 b2) (ee a1 a2 b1 b2)↔dE p1 p2 a1 a2 b1 b2:=fun _ _=>Cd;have tO9:∀p1 p2,dE p1 p2 (eV c1 c2 d1 d2) (eE c1 c2 d1 d2) (ej c1 c2 d1 d2) (ee c1 c2 d1 d2)↔dE p1 p2 c1 c2 d1 d2:=fun _ _=>Cd;unfold jh;rw[if_pos h];unfold wT inl;generalize eV a1 a2 b1 b2=s1 at *;generalize eE a1 a2 b1 b2=s2 at *;generalize ej a1 a2 b1 b2=bV at *;generalize ee a1 a2 b1 b2=b6 at *;generalize eV c1 c2 d1 d2=t1 at *;generalize eE c1 c2 d1 d2=t2 at *;generalize ej c1 c2 d1 d2=t3 at *;generalize ee c1 c2 d1 d2=t4 at *;have key:=fun p1 p2 => @Rp s1 s2 bV b6 t1 t2 t3 t4 p1 p2 hs aD hw
 by_cases q:dE (ej s1 s2 t1 t2) (ee s1 s2 t1 t2) s1 s2 bV b6∧dE (ej s1 s2 t1 t2) (ee s1 s2 t1 t2) t1 t2 t3 t4
 ·right;rw[if_pos q];obtain⟨cM,cN,kD,mq,anP,alf⟩:=key _ _ q.1 q.2;exact⟨_,_,_,_,rfl,alf,(zk _ _).1 cM,(tO9 _ _).1 cN,(zk _ _).1 kD,(tO9 _ _).1 mq,rfl,rfl,rfl,rfl,fun p1 p2 hp aj=>⟨(key p1 p2 ((zk _ _).2 hp) ((tO9 _ _).2 aj)).2.2.2.2.1,(key p1 p2 ((zk _ _).2 hp) ((tO9 _ _).2 aj)).2.2.2.2.2⟩⟩
 ·left;rw[if_neg q];exact⟨rfl,fun p1 p2 hp aj=>q ⟨(key p1 p2 ((zk _ _).2 hp) ((tO9 _ _).2 aj)).1,(key p1 p2 ((zk _ _).2 hp) ((tO9 _ _).2 aj)).2.1⟩⟩
theorem agK{a1 a2 b1 b2 f1 f2 g1 g2 p1 p2:Int}(ay:dE f1 f2 a1 a2 b1 b2)(au:dE g1 g2 a1 a2 b1 b2)(hp:dE p1 p2 a1 a2 b1 b2)(aF:dI f1 f2 p1 p2)(h1:dI p1 p2 g1 g2):dE p1 p2 f1 f2 g1 g2:=by
 refine(xa (aF.trans h1)).2 ⟨?_,aF,h1⟩
 by_cases e:a1=b1∧a2=b2
 ·obtain⟨rfl,rfl⟩:=e;obtain⟨rfl,rfl⟩:=Cc ay;obtain⟨rfl,rfl⟩:=Cc au;obtain⟨rfl,rfl⟩:=Cc hp;exact H5 ..
 ·have a:=ay.1;have b:=au.1;have c:=hp.1;unfold cn at *;have d1:(b1-a1)*((g1-f1)*(p2-f2)-(g2-f2)*(p1-f1))=0:=by grind
  have d2:(b2-a2)*((g1-f1)*(p2-f2)-(g2-f2)*(p1-f1))=0:=by grind
  rcases tV.1 d1 with e'|e'
  ·rcases tV.1 d2 with f|f
   ·omega
   ·exact f
  ·exact e'
theorem af1(a1 a2 b1 b2 c1 c2 d1 d2:Int) :
  (jh a1 a2 b1 b2 c1 c2 d1 d2=iL∧∀p1 p2,dE p1 p2 a1 a2 b1 b2→¬dE p1 p2 c1 c2 d1 d2) ∨
  (∃x y d,jh a1 a2 b1 b2 c1 c2 d1 d2=j5 x d y d∧0<d∧(d=1∨d=jy (dm a1 a2 b1 b2 c1 c2 d1 d2))∧four a1 a2 b1 b2 c1 c2 d1 d2 x y d∧∀p1 p2,dE p1 p2 a1 a2 b1 b2→dE p1 p2 c1 c2 d1 d2→x=p1*d∧y=p2*d) ∨
  (∃f1 f2 g1 g2,jh a1 a2 b1 b2 c1 c2 d1 d2=uv f1 f2 g1 g2∧¬(f1=g1∧f2=g2)∧dI f1 f2 g1 g2∧dE f1 f2 a1 a2 b1 b2∧dE f1 f2 c1 c2 d1 d2∧dE g1 g2 a1 a2 b1 b2∧dE g1 g2 c1 c2 d1 d2
   ∧ f1=ej (eV a1 a2 b1 b2) (eE a1 a2 b1 b2) (eV c1 c2 d1 d2) (eE c1 c2 d1 d2)∧f2=ee (eV a1 a2 b1 b2) (eE a1 a2 b1 b2) (eV c1 c2 d1 d2) (eE c1 c2 d1 d2)
   ∧ g1=eV (ej a1 a2 b1 b2) (ee a1 a2 b1 b2) (ej c1 c2 d1 d2) (ee c1 c2 d1 d2)∧g2=eE (ej a1 a2 b1 b2) (ee a1 a2 b1 b2) (ej c1 c2 d1 d2) (ee c1 c2 d1 d2)
   ∧ ∀p1 p2,dE p1 p2 a1 a2 b1 b2→dE p1 p2 c1 c2 d1 d2→dE p1 p2 f1 f2 g1 g2):=by
 by_cases h:dm a1 a2 b1 b2 c1 c2 d1 d2=0
 ·rcases af2 h with ⟨e,aA⟩|⟨f1,f2,g1,g2,e,al,cM,cN,kD,mq,v1,v2,v3,v4,hp⟩
  ·exact .inl ⟨e,aA⟩
  ·right;rw[e];unfold wS
   by_cases q:f1=g1∧f2=g2
   ·left;rw[if_pos q];refine⟨f1,f2,1,rfl,by omega,.inl rfl,?_,fun p1 p2 aX aa => ?_⟩
    ·have:=OR cM cN (d:=1) (by omega);rwa [Int.mul_one,Int.mul_one] at this
    ·obtain⟨bB,cl⟩:=hp p1 p2 aX aa;obtain⟨rfl,rfl⟩:=q;have:=dI.DK bB cl;omega
   ·right;rw[if_neg q];exact⟨f1,f2,g1,g2,rfl,q,al,cM,cN,kD,mq,v1,v2,v3,v4,fun p1 p2 aX aa=>agK cM kD aX (hp p1 p2 aX aa).1 (hp p1 p2 aX aa).2⟩
 ·have hd:=Sc h;unfold jh;rw[if_neg h];unfold od va
  by_cases q:four a1 a2 b1 b2 c1 c2 d1 d2 (kw (kR a1 a2 b1 b2 c1 c2 d1 d2) (dm a1 a2 b1 b2 c1 c2 d1 d2)) (kw (kS a1 a2 b1 b2 c1 c2 d1 d2) (dm a1 a2 b1 b2 c1 c2 d1 d2)) (jy (dm a1 a2 b1 b2 c1 c2 d1 d2))
  ·right;left;rw[if_pos q];refine⟨_,_,_,rfl,hd,.inr rfl,q,fun p1 p2 aX aa => ?_⟩;obtain⟨aI,aN⟩:=Sx aX.1 aa.1;rw[aI,aN,FW,FW];exact⟨rfl,rfl⟩
  ·left;rw[if_neg q];refine⟨rfl,fun p1 p2 aX aa=>q ?_⟩;obtain⟨aI,aN⟩:=Sx aX.1 aa.1;rw[aI,aN,FW,FW];exact OR aX aa hd
end Go.Proofs.YtklpfooafbjnpaaGreat
namespace Go.Proofs.YtklpfooafbjnpaaGreat
open Go.RowKit
theorem alt{a1 a2 b1 b2 c1 c2 d1 d2:Int}(aX:c4 a1 a2=true)(aa:c4 b1 b2=true)(ak:c4 c1 c2=true)(hd:c4 d1 d2=true) : -144115188075855872≤dm a1 a2 b1 b2 c1 c2 d1 d2∧dm a1 a2 b1 b2 c1 c2 d1 d2≤144115188075855872:=by
 rw[tY] at aX aa ak hd;have m1:=FP (x:=b2-a2) (y:=c1-d1) (by omega) (by omega) (by omega) (by omega);have m2:=FP (x:=a1-b1) (y:=d2-c2) (by omega) (by omega) (by omega) (by omega);unfold dm;omega
theorem NN{n d a b:Int}(h:lZ n d a b)(a0 : -134217728≤a)(a1:a≤134217728)(iI : -134217728≤b)(b1:b≤134217728)(d0:0≤d)(d1:d≤144115188075855872) : -19342813113834066795298816≤n∧n≤19342813113834066795298816:=by
 obtain⟨aF,h1⟩:=h;have i0 : -134217728≤hG a b∧hG a b≤134217728:=by unfold hG;split <;> omega
 have i1 : -134217728≤hE a b∧hE a b≤134217728:=by unfold hE;split <;> omega
 have m0:=DR i0.1 i0.2 (show -144115188075855872≤d by omega) d1;have m1:=DR i1.1 i1.2 (show -144115188075855872≤d by omega) d1;omega
def Dc(M:fR):Prop:=(M=iL)∨(∃x y d,M=j5 x d y d∧0<d∧d≤144115188075855872∧(-19342813113834066795298816≤x∧x≤19342813113834066795298816)∧(-19342813113834066795298816≤y∧y≤19342813113834066795298816))∨(∃f1 f2 g1 g2,M=uv f1 f2 g1 g2)
theorem aa3{a1 a2 b1 b2 c1 c2 d1 d2 x y d:Int}(aX:c4 a1 a2=true)(aa:c4 b1 b2=true)(ak:c4 c1 c2=true)(hd:c4 d1 d2=true)(aF:0<d)(h1:d=1∨d=jy (dm a1 a2 b1 b2 c1 c2 d1 d2))(ay:four a1 a2 b1 b2 c1 c2 d1 d2 x y d) :
  d≤144115188075855872∧(-19342813113834066795298816≤x∧x≤19342813113834066795298816)∧(-19342813113834066795298816≤y∧y≤19342813113834066795298816):=by
 have cO:=alt aX aa ak hd;rw[tY] at aX aa
 have tp:d≤144115188075855872:=by
  rcases h1 with rfl|rfl
  ·omega
  ·unfold jy;split <;> omega
 exact⟨tp,NN ay.1 aX.1.1 aX.1.2 aa.1.1 aa.1.2 (by omega) tp,NN ay.2.1 aX.2.1 aX.2.2 aa.2.1 aa.2.2 (by omega) tp⟩
theorem afC(a1 a2 b1 b2 c1 c2 d1 d2:Int):Dc (si a1 a2 b1 b2 c1 c2 d1 d2):=by
 unfold si
 by_cases h:(c4 a1 a2&&c4 b1 b2&&c4 c1 c2&&c4 d1 d2)=true
 ·rw[if_pos h];simp only[eb] at h;rcases af1 a1 a2 b1 b2 c1 c2 d1 d2 with ⟨e,_⟩|⟨x,y,d,e,aF,h1,ay,_⟩|⟨f1,f2,g1,g2,e,_⟩
  ·exact .inl e
  ·exact .inr (.inl ⟨x,y,d,e,aF,aa3 h.1.1.1 h.1.1.2 h.1.2 h.2 aF h1 ay⟩)
  ·exact .inr (.inr ⟨f1,f2,g1,g2,e⟩)
 ·rw[if_neg h];exact .inl rfl
end Go.Proofs.YtklpfooafbjnpaaGreat
namespace Go.Proofs.YtklpfooafbjnpaaGreat
open Go.RowKit
open Go.Conc
structure iT where
 cap:Nat
 buf:List Value
 shut:Bool
 ns:Nat
 B8:Nat
def iT.obj(eN:iT):Obj := .chan eN.cap eN.buf.toArray eN.shut eN.ns eN.B8 false
abbrev lz:=Option (Nat×Obj)
def Wx(g:lz)(aH:cT)(aP:Nat→Prop)(dY:cT)(dJ:Nat→Prop):Prop:=match g with
 | none=>dY=aH∧dJ=aP
 | some (c,eN)=>(∀b,aH.F b→dY.F b)∧dY.F c∧¬aH.F c∧(∀b,dJ b→aP b)∧¬dJ c∧dY.N=aH.N∧dY.marks=aH.marks∧dY.W.heap[c]?=some eN∧eO aH dY.W
def fP(g:lz)(aH:cT)(aP:Nat→Prop)(R:aE)(s:aB)(a:Act)(w:World):Prop:=∃dY dJ,Wx g aH aP dY dJ∧ic dY dJ R s a w
section
variable{P:Program}{aH dY:cT}{aP dJ A:Nat→Prop}{R ap:aE}{s s':aB}{a a':Act}{w w':World}{ad:Nat→Nat}{g:lz}
theorem eO.comp(h:eO dY w)(aF:eO aH dY.W)(ay:∀b,aH.F b→dY.F b):eO aH w :=
 ⟨h.os.trans aF.os,h.tape.trans aF.tape,h.output.trans aF.output,eL aF.size h.size,fun b q=>(h.block b (ay b q)).trans (aF.block b q)⟩
theorem fP.shut(adw:∀b,¬aH.F b→aP b)(h:fP g aH aP R s a w):ic aH aP R s a w:=by
 have Bx:∀b,aH.W.heap.size≤b→aP b:=fun b q=>adw b fun z=>absurd (aH.lt b z) (Nat.not_lt.2 q);obtain⟨dY,dJ,au,A,ad,an⟩:=h;cases g with
 | none=>obtain⟨rfl,rfl⟩:=au;exact⟨A,ad,an⟩
 | some x =>
  obtain⟨c,eN⟩:=x;obtain⟨hF,_,_,cp,_,fZ,hm,_,aa⟩:=au;have e:hV aH s ad w=hV dY s ad w:=by unfold hV;rw[hm]
  refine⟨A,ad,Bx,fun b q=>cp b (an.sub b q),by rw[e];exact an.rel,fun k cs ae q=>an.hH k cs ae (hF _ q),an.below.comp aa hF,fun i r hi=>⟨(an.rows i r hi).ok,(an.rows i r hi).gO,(an.rows i r hi).own⟩,an.apart,fun i r g hi q=>⟨fun z=>(an.hot i r g hi q).1 (hF _ z),cp _ (an.hot i r g hi q).2⟩,fun k b ae=>an.fI k b (by rw[fZ];exact ae)⟩
theorem fP.turn{c:Nat}{eN C0:Obj}(h:fP (some (c,eN)) aH aP R s a w):fP (some (c,C0)) aH aP R s a {w with heap:=w.heap.setIfInBounds c C0}:=by
 obtain⟨dY,dJ,⟨hF,ak,uS,cp,PB,fZ,hm,ab,aa⟩,A,ad,an⟩:=h;have cq:c<dY.W.heap.size:=dY.lt c ak;have aA:∀b,b≠c→∀H:Array Obj,(H.setIfInBounds c C0)[b]?=H[b]?:=fun b q H=>Cm (Ne.symm q);have JI:¬A c:=fun q=>PB (an.sub c q)
 let w1:World:={w with heap:=w.heap.setIfInBounds c C0}
 let oU:cT:={dY with W:={dY.W with heap:=dY.W.heap.setIfInBounds c C0},lt:=fun b q=>by simpa using dY.lt b q}
 have cV:∀b,s.free A ad b→b<w.heap.size→s.free A ad b∧w1.heap[b]?=w.heap[b]?:=fun b q _=>⟨q,aA b (fun e=>JI (by rw[←e];exact q.1)) _⟩;refine⟨oU,dJ,⟨hF,ak,uS,cp,PB,fZ,hm,by simp[oU,cq],⟨aa.os,aa.tape,aa.output,by simpa [oU] using aa.size,fun b q => ?_⟩⟩,A,ad,?_⟩
 ·exact(aA b (fun e=>uS (by rw[←e];exact q)) _).trans (aa.block b q)
 ·have PX:∀k cs,s.mem k=some cs→ad k≠c:=fun k cs ae e=>an.hH k cs ae (by rw[e];exact ak);refine⟨fun b q=>an.up b (by simpa [oU] using q),an.sub,?_,an.hH,⟨an.below.os,an.below.tape,an.below.output,by simpa [oU] using an.below.size,fun b q => ?_⟩,fun i r hi => ?_,an.apart,an.hot,an.fI⟩
  ·refine⟨an.rel.kv,an.rel.size,fun t av aD => ?_,fun k cs ae => ?_,an.rel.inj,⟨rfl,rfl,rfl,cH _,fun _ _=>rfl⟩,fun b q=>an.rel.up b (by simpa [hV] using q),lI s ad _⟩
   ·obtain⟨v,h1,h2⟩:=an.rel.dk t av aD;exact⟨v,h1,h2.map cV fun _ _=>rfl⟩
   ·obtain⟨vs,ty,h1,h2,ar⟩:=an.rel.c3 k cs ae;exact⟨vs,ty,(aA _ (PX k cs ae) _).trans h1,h2.map cV fun _ _ _ _=>rfl,fun q=>ar ⟨by simpa [hV] using q.1,q.2⟩⟩
  ·by_cases e:b=c
   ·subst e;have h1:b<w.heap.size:=j6 cq an.below.size;simp[oU,cq,h1]
   ·exact(aA b e _).trans ((an.below.block b q).trans (aA b e _).symm)
  ·have aC:=an.rows i r hi;refine⟨aC.ok.kept aC.gO (fun g q=>aA g (fun e=>(an.hot i r g hi q).1 (by rw[e];exact ak)) _) (by simp) cV,aC.gO,aC.own⟩
theorem fP.look{c:Nat}{eN:Obj}(h:fP (some (c,eN)) aH aP R s a w):w.heap[c]?=some eN:=by
 obtain⟨dY,dJ,⟨_,ak,_,_,_,_,_,ab,_⟩,A,ad,an⟩:=h;exact(an.below.block c ak).trans ab
def iU(P:Program)(x:Code)(Q:Exit→lz→aE→aB→Prop)(g:lz)(R:aE)(s:aB):Prop :=
 s.bN→∀aH aP a w,(∀b,¬aH.F b→aP b)→fP g aH aP R s a w→nA P x (fun e a' w'=>∃cZ ap s',s'.bN∧fP cZ aH aP ap s' a' w'∧Q e cZ ap s') a w
variable{Q:Exit→lz→aE→aB→Prop}{x y:Code}
theorem AL(h:eZ P x (fun e R s=>Q e g R s) R s):iU P x Q g R s:=by
 rintro ok aH aP a w hu ⟨dY,dJ,au,an⟩;refine w0 (RV (h ok dY dJ a w an).top) ?_;rintro e a' w' ⟨ap,s',bU,bu,aj⟩;exact⟨g,ap,s',bU,⟨dY,dJ,au,bu⟩,aj⟩
theorem Ly{Q:Exit→aE→aB→Prop}(h:iU P x (fun e _ R s=>Q e R s) none R s):Hw P x Q R s:=by
 intro ok aH aP a w hu an;refine w0 (h ok aH aP a w hu ⟨aH,aP,⟨rfl,rfl⟩,an⟩) ?_;rintro e a' w' ⟨cZ,ap,s',bU,bu,aj⟩;exact⟨ap,s',bU,bu.shut hu,aj⟩
def AN(next:lz→aE→aB→Prop)(Q:Exit→lz→aE→aB→Prop):Exit→lz→aE→aB→Prop
 | .normal,g,R,s=>next g R s
 | e,g,R,s=>Q e g R s
def AM(id:Nat)(Q:Exit→lz→aE→aB→Prop):Exit→lz→aE→aB→Prop
 | .exit iw,g,R,s=>bif Nat.beq iw id then Q .normal g R s else Q (.exit iw) g R s
 | e,g,R,s=>Q e g R s
theorem nY(h:iU P x (AN (fun g R s=>iU P y Q g R s) Q) g R s):iU P (.seq x y) Q g R s:=by
 intro ok aH aP a w hu b8;refine af9 (w0 (h ok aH aP a w hu b8) ?_);rintro x a' w' ⟨cZ,ap,s',bU,hz,aj⟩;cases x <;> first|exact aj bU aH aP a' w' hu hz|exact⟨cZ,ap,s',bU,hz,aj⟩
theorem uM{id:Nat}(h:iU P x (AM id Q) g R s):iU P (.block id x) Q g R s:=by
 intro ok aH aP a w hu b8;refine af5 (w0 (h ok aH aP a w hu b8) ?_);rintro x a' w' ⟨cZ,ap,s',bU,hz,aj⟩;cases x with
 | exit iw =>
  simp only[Exit.inBlock];simp only[AM] at aj;cases aa:Nat.beq iw id with
  | true=>rw[aa] at aj;rw[if_pos (gd aa)];exact⟨cZ,ap,s',bU,hz,aj⟩
  | false =>
   rw[aa] at aj;have:iw≠id:=fun e=>by subst e;rw[qm] at aa;cases aa
   rw[if_neg this];exact⟨cZ,ap,s',bU,hz,aj⟩
 | _=>exact⟨cZ,ap,s',bU,hz,aj⟩
theorem fP.rr(h:fP g aH aP R s a w):∃dY dJ,ic dY dJ R s a w:=let ⟨dY,dJ,_,h⟩:=h;⟨dY,dJ,h⟩
theorem O1{c:Operand}{b:Bool}(ak:s.look c=some (bl b))(h1:b=true→iU P x Q g R s)(aF:b=false→iU P y Q g R s):iU P (.cond c x y) Q g R s:=by
 intro ok aH aP a w hu ev;obtain⟨_,_,A,ad,an⟩:=ev.rr;refine af6 (an.rel.look ak).1 ?_;cases b with
 | true=>exact h1 rfl ok aH aP a w hu ev
 | false=>exact aF rfl ok aH aP a w hu ev
theorem II{c:Operand}{b:Bool}(ak:s.look c=some (bl b))(aa:b=true)(h1:iU P x Q g R s):iU P (.cond c x y) Q g R s:=O1 ak (fun _=>h1) fun e=>by rw[aa] at e;cases e
theorem IH{c:Operand}{b:Bool}(ak:s.look c=some (bl b))(aa:b=false)(aF:iU P y Q g R s):iU P (.cond c x y) Q g R s:=O1 ak (fun e=>by rw[aa] at e;cases e) fun _=>aF
theorem fP.le(h:fP g aH aP R s a w)(Kr:ba ap R):fP g aH aP ap s a w:=let ⟨dY,dJ,au,A,ad,h⟩:=h;⟨dY,dJ,au,A,ad,h.le Kr⟩
theorem fP.p9(h:fP g aH aP R s a w)(l:s.aV s'):fP g aH aP R s' a w:=let ⟨dY,dJ,au,A,ad,h⟩:=h;⟨dY,dJ,au,A,ad,h.p9 l⟩
theorem IJ(N:Nat)(I:Nat→lz→aE→List (Nat×ag)→List (Nat×List AC)→Prop)(k:Nat)(R0:aE)(az:List (Nat×ag))(aU:List (Nat×List AC))(bg:I k g R0 az aU)(al:ba R0 R)(aA:N=s.n)(aD:hT s.tmps az)(hm:hT s.mem aU)(bE:okB az aU=true)
  (round:∀k g R az aU,I k g R az aU→okB az aU=true→iU P x (AN (fun cZ ap s'=>∃k' k9 hr hh,k'<k∧I k' cZ k9 hr hh∧ba k9 ap∧N=s'.n∧hT s'.tmps hr∧hT s'.mem hh∧okB hr hh=true) Q) g R (eg N az aU)):iU P (.loop x) Q g R s:=by
 intro ok aH aP a w hu ev;refine af7 (fun k a w=>∃g R az aU,I k g R az aU∧okB az aU=true∧fP g aH aP R (eg N az aU) a w) (n:=k) ⟨g,R0,az,aU,bg,bE,(ev.le al).p9 (qZ aA aD hm)⟩ ?_;rintro k a w ⟨g,R,az,aU,bg,ok,b8⟩;refine w0 (round k g R az aU bg ok (q0 ok) aH aP a w hu b8) ?_;rintro x a' w' ⟨cZ,ap,s',bU,hz,aj⟩;cases x with
 | normal =>
  obtain⟨k',k9,hr,hh,h1,h2,ar,aK,bX,fh,kK⟩:=aj;exact⟨k',h1,cZ,k9,hr,hh,h2,kK,(hz.le ar).p9 (qZ aK bX fh)⟩
 | _=>exact⟨cZ,ap,s',bU,hz,aj⟩
def km(P:Program)(ops:Array Oper)(K:lz→aE→aB→Prop)(k:Nat)(l:List Oper)(g:lz)(R:aE)(s:aB):Prop :=
 (∀j:Nat,l[j]?=ops[k+j]?)→s.bN→∀aH aP a w,(∀b,¬aH.F b→aP b)→fP g aH aP R s a w →
  q7 P ops (fun e a' w'=>e = .normal∧∃cZ ap s',s'.bN∧fP cZ aH aP ap s' a' w'∧K cZ ap s') ((List.range l.length).map (k + ·)) a w
variable{K:lz→aE→aB→Prop}{ops:Array Oper}{k:Nat}{l rest:List Oper}{o:Oper}
theorem nX{id:Nat}(h:km P l.toArray (fun g R s=>Q .normal g R s) 0 l g R s):iU P (.region id l.toArray false) Q g R s:=by
 intro ok aH aP a w hu ev;have:=h (by simp) ok aH aP a w hu ev;refine af8 (?_:q7 P l.toArray _ (List.range l.toArray.size) a w);simp only[iR,List.map_id'] at this;rw[List.size_toArray];intro b k cs aa;obtain⟨e,a',w',⟨rfl,aj⟩,r⟩:=this b k cs aa;exact⟨.normal,a',w',aj,r⟩
theorem mE(h:K g R s):km P ops K k [] g R s:=fun _ ok aH aP a w hu ev=>af3 ⟨rfl,g,R,s,ok,ev,h⟩
theorem vo(k n:Nat):(List.range (n+1)).map (k + ·)=k::(List.range n).map (k+1 + ·):=by
 rw[List.range_succ_eq_map,hK,List.map_map];congr 1;exact nE fun j _=>by simp[oj,ol 1 j]
theorem uL(al:∀j:Nat,(o::rest)[j]?=ops[k+j]?):ops[k]?=some o∧∀j:Nat,rest[j]?=ops[k+1+j]? :=
 ⟨by simpa using (al 0).symm,fun j=>by have:=al (j+1);simpa [oj,ol 1 j] using this⟩
theorem aaC(h:ti P ops none o (fun R s=>km P ops K (k+1) rest g R s) R s):km P ops K k (o::rest) g R s:=by
 intro al ok aH aP a w hu ev;obtain⟨aC,ao⟩:=uL al;rw[hJ,vo];obtain⟨dY,dJ,au,an⟩:=ev;rcases Pq (K':=q7 P ops (fun e a' w'=>e = .normal∧∃cZ ap s',s'.bN∧fP cZ aH aP ap s' a' w'∧K cZ ap s') ((List.range rest.length).map (k+1 + ·))) ok an h (fun ap s' a' w' bU bu ae=>ae ao bU aH aP a' w' hu ⟨dY,dJ,au,bu⟩) with ⟨h1,_,h2⟩|⟨h1,h2⟩
 ·exact B2 aC h1 h2 fun _ _ q=>by cases q.1
 ·exact af4 aC h1 h2
variable{c:Nat}{eN:iT}{dst:Option Nat}{ty:Nat}{pos:String}{after:Array Edge}{guard:Option (Nat×Bool)}
theorem fP.eval{x:Operand}{v:Value}(h:fP g aH aP R s a w)(ab:s.look x=some (aQ v)):a.eval x=v:=by
 obtain⟨_,_,A,ad,an⟩:=h.rr;exact(an.rel.look ab).1
theorem fP.put{v:Value}{av:ag}(h:fP g aH aP R s a w)(hd:∀d,dst=some d→d<s.n)(hv:∀U ad W,cR U ad W av v):fP g aH aP R (s.put dst av) (a.put dst v) w:=by
 obtain⟨dY,dJ,au,A,ad,an⟩:=h;exact⟨dY,dJ,au,A,ad,an.put hd (hv _ _ _)⟩
theorem fP.want{b:Bool}{o:Oper}(h:fP g aH aP R s a w)(hw:want ops o s=some b):Region.wanted o (yielded ops a.tmps)=b:=by
 obtain⟨_,_,A,ad,an⟩:=h.rr;exact Mi hw an.rel
theorem Ik{b:Frame}(aa:b.kind = .normal):b.kind ≠ .early:=by rw[aa];exact fun h=>by cases h
theorem aaF{x y:Operand}{v:Value}(hw:want ops ⟨none,.send x y,ty,pos,after,guard⟩ s=some true)(ab:s.look x=some (aQ (.chan (some c))))(ai:s.look y=some (aQ v))(hs:eN.shut=false)(ao:eN.buf.length<eN.cap)
  (h:km P ops K (k+1) rest (some (c,iT.obj {eN with buf:=eN.buf++[v],ns:=eN.ns+1})) R s):km P ops K k (⟨none,.send x y,ty,pos,after,guard⟩::rest) (some (c,eN.obj)) R s:=by
 intro al ok aH aP a w hu ev;obtain⟨aC,pe⟩:=uL al;rw[hJ,vo];have aI:=ev.eval ab;have aN:=ev.eval ai;have aF:=ev.look;unfold iT.obj at aF;rw[hs] at aF;refine wZ (a1:=a) (w1:={w with heap:=w.heap.setIfInBounds c (iT.obj {eN with buf:=eN.buf++[v],ns:=eN.ns+1})}) (fun b BN cs aa => ?_) (h pe ok aH aP a _ hu ev.turn);have:=step_lone_send_room (stepG_comm (P:=P) (w:=w) (a:=a) (rest:=(List.range rest.length).map (k+1 + ·)) (main:=true) (b:=b) (k:=BN) (cs:=cs) (cases := #[scase c v (.tuple #[])]) (blocking:=true) (shape := .send) (w':=w) aC (ev.want hw) (Ik aa) (by simp[execOp,scase,aI,aN])) aF (by simpa using ao);rw[Frame.finish_at,aC] at this;simpa [lone,solo,G,World.setChan,iT.obj,hs,Act.put] using this
theorem Ux{z:Value}{x:Operand}{t:Nat}(ab:a.eval x = .chan (some c))(aR:(zeroValue t).run P w = .ok z w){d:Nat}{ty:Nat}:(execOp a.eval ⟨some d,.select #[⟨x,none,t⟩] true,ty,pos,after,guard⟩).run P w = .ok (.comm #[rcase c z] true .select) w:=by
 simp[execOp,rcase,ab,aR]
theorem TP(z v:Value)(ok:Bool):commResult #[rcase c z] .select ((0:Nat):Int) v ok = .tuple #[goInt 0,.bool ok,v]:=by simp[commResult,rcase,List.zipIdx_cons]
theorem Vj{x y z:Value}(ab:x.oneCell'=true)(ai:y.oneCell'=true)(aR:z.oneCell'=true):∀U ad W,cR U ad W (.cd [.one (.c x),.one (.c y),.one (.c z)]) (.tuple #[x,y,z]):=by
 intro U ad W;refine⟨[x,y,z],rfl,rfl,fun i a v aX hv => ?_⟩
 match i with
 | 0=>cases aX;cases hv;exact⟨rfl,ab⟩
 | 1=>cases aX;cases hv;exact⟨rfl,ai⟩
 | 2=>cases aX;cases hv;exact⟨rfl,aR⟩
 | i+3=>simp at aX
theorem L6{l:List bD}(ok:s.bN)(h:(ag.cd l).aW=true){d:Nat}:(s.put (some d) (.cd l)).bN:=ok.put fun j af=>absurd af (ag.c6 h j)
theorem aaE{d:Nat}{x:Operand}{t:Nat}{v z:Value}{bs:List Value}(hw:want ops ⟨some d,.select #[⟨x,none,t⟩] true,ty,pos,after,guard⟩ s=some true)(ab:s.look x=some (aQ (.chan (some c))))(aa:eN.buf=v::bs)(aR:∀w,(zeroValue t).run P w = .ok z w)(hd:Nat.blt d s.n=true)(hv:v.oneCell'=true)
  (h:km P ops K (k+1) rest (some (c,iT.obj {eN with buf:=bs,B8:=eN.B8+1})) R (s.put (some d) (.cd [.one (.c (goInt 0)),.one (.c (.bool true)),.one (.c v)]))):km P ops K k (⟨some d,.select #[⟨x,none,t⟩] true,ty,pos,after,guard⟩::rest) (some (c,eN.obj)) R s:=by
 intro al ok aH aP a w hu ev;obtain⟨aC,pe⟩:=uL al;rw[hJ,vo];have aI:=ev.eval ab;have aF:=ev.look;have ep:∀d',some d=some d'→d'<s.n:=fun d' e=>by cases e;simpa [lr] using hd
 unfold iT.obj at aF;rw[aa] at aF;refine wZ (a1:=a.put (some d) (.tuple #[goInt 0,.bool true,v])) (w1:={w with heap:=w.heap.setIfInBounds c (iT.obj {eN with buf:=bs,B8:=eN.B8+1})}) (fun b BN cs cO => ?_) (h pe (L6 ok rfl) aH aP _ _ hu (ev.turn.put ep (Vj rfl rfl hv)));have:=step_lone_sel_recv_buf (k:=0) (c:=c) (z:=z) (stepG_comm (P:=P) (w:=w) (a:=a) (rest:=(List.range rest.length).map (k+1 + ·)) (main:=true) (b:=b) (k:=BN) (cs:=cs) (cases := #[rcase c z]) (blocking:=true) (shape := .select) (w':=w) aC (ev.want hw) (Ik cO) (Ux aI (aR w))) rfl (fun m c' hm nl=>by cases m with|zero=>exact absurd rfl hm|succ m=>simp at nl) aF (by simp);rw[Frame.finish_at,aC,TP] at this;simpa [lone,solo,G,World.setChan,iT.obj,Act.put] using this
theorem aaD{d:Nat}{x:Operand}{t:Nat}{z:Value}(hw:want ops ⟨some d,.select #[⟨x,none,t⟩] true,ty,pos,after,guard⟩ s=some true)(ab:s.look x=some (aQ (.chan (some c))))(aa:eN.buf=[])(hs:eN.shut=true)(aR:∀w,(zeroValue t).run P w = .ok z w)(hd:Nat.blt d s.n=true)(hv:z.oneCell'=true)
  (h:km P ops K (k+1) rest (some (c,eN.obj)) R (s.put (some d) (.cd [.one (.c (goInt 0)),.one (.c (.bool false)),.one (.c z)]))):km P ops K k (⟨some d,.select #[⟨x,none,t⟩] true,ty,pos,after,guard⟩::rest) (some (c,eN.obj)) R s:=by
 intro al ok aH aP a w hu ev;obtain⟨aC,pe⟩:=uL al;rw[hJ,vo];have aI:=ev.eval ab;have aF:=ev.look;have ep:∀d',some d=some d'→d'<s.n:=fun d' e=>by cases e;simpa [lr] using hd
 unfold iT.obj at aF;rw[aa,hs] at aF;refine wZ (a1:=a.put (some d) (.tuple #[goInt 0,.bool false,z])) (w1:=w) (fun b BN cs cO => ?_) (h pe (L6 ok rfl) aH aP _ _ hu (ev.put ep (Vj rfl rfl hv)));have:=step_lone_sel_recv_shut (k:=0) (c:=c) (z:=z) (stepG_comm (P:=P) (w:=w) (a:=a) (rest:=(List.range rest.length).map (k+1 + ·)) (main:=true) (b:=b) (k:=BN) (cs:=cs) (cases := #[rcase c z]) (blocking:=true) (shape := .select) (w':=w) aC (ev.want hw) (Ik cO) (Ux aI (aR w))) rfl (fun m c' hm nl=>by cases m with|zero=>exact absurd rfl hm|succ m=>simp at nl) aF;rw[Frame.finish_at,aC,TP] at this;simpa [lone,solo,G,Act.put] using this
theorem aaz{x:Operand}{az:Array TypeId}(hw:want ops ⟨dst,.call ⟨.builtin .close,#[x],az⟩,ty,pos,after,guard⟩ s=some true)(ab:s.look x=some (aQ (.chan (some c))))(hs:eN.shut=false)(hd:∀d,dst=some d→d<s.n)
  (h:km P ops K (k+1) rest (some (c,iT.obj {eN with shut:=true})) R (s.put dst (.cd []))):km P ops K k (⟨dst,.call ⟨.builtin .close,#[x],az⟩,ty,pos,after,guard⟩::rest) (some (c,eN.obj)) R s:=by
 intro al ok aH aP a w hu ev;obtain⟨aC,pe⟩:=uL al;rw[hJ,vo];have aI:=ev.eval ab;have aF:=ev.look;unfold iT.obj at aF;rw[hs] at aF;refine B2 aC (ev.want hw) (Oper.sO (v := .tuple #[]) (w':={w with heap:=w.heap.setIfInBounds c (iT.obj {eN with shut:=true})}) ?_ (h pe ?_ aH aP _ _ hu (ev.turn.put hd fun U ad W=>⟨[],rfl,rfl,fun i x v ab=>by simp at ab⟩))) fun _ _ q=>by cases q.1
 ·have em:(#[x]:Array Operand).map a.eval = #[.chan (some c)]:=by simp[aI]
  simp only[execOp,resolve,em,Sem.run_bind,Sem.run_pure,Result.andThen_ok,invoke,builtin];rw[run_close_open az ty aF];rfl
 ·cases dst with
  | none=>exact ok
  | some d=>exact L6 ok rfl
theorem fP.open{o1:Obj}(h:ic aH aP R s a w)(aa:Below w.heap.size w w')(ak:w.heap.size≤c)(ab:w'.heap[c]?=some o1):fP (some (c,o1)) aH aP R s a w':=by
 obtain⟨A,ad,an⟩:=h;have cq:c<w'.heap.size:=(iA.1 ab).1;have o5:eO aH w':=an.below.then aa;have cV:∀b,s.free A ad b→b<w.heap.size→s.free (fun b=>A b∧b≠c) ad b∧w'.heap[b]?=w.heap[b]?:=fun b q al=>⟨⟨⟨q.1,by omega⟩,q.2⟩,aa.block b al⟩;have yt:∀k cs,s.mem k=some cs→ad k<w.heap.size:=fun k cs ae=>an.rel.lt ae
 let dY:cT:=⟨w',fun b=>aH.F b∨b=c,fun b q=>q.elim (fun q=>j6 (aH.lt b q) (eL an.below.size aa.size)) (fun e=>by rw[e];exact cq),aH.N,aH.marks⟩
 refine⟨dY,fun b=>aP b∧b≠c,⟨fun b q => .inl q,.inr rfl,fun q=>by have:=aH.lt c q;have:=an.below.size;omega,fun b q=>q.1,fun q=>q.2 rfl,rfl,rfl,ab,o5⟩,fun b=>A b∧b≠c,ad,?_⟩;refine⟨fun b q=>⟨an.up b (eL o5.size q),fun e=>by subst e;exact absurd cq (Nat.not_lt.2 q)⟩,fun b q=>⟨an.sub b q.1,q.2⟩,?_,fun k cs ae q=>q.elim (an.hH k cs ae) fun e=>by have:=yt k cs ae;omega,⟨rfl,rfl,rfl,cH _,fun _ _=>rfl⟩,fun i r hi => ?_,an.apart,fun i r g hi q => ?_,an.fI⟩
 ·refine⟨an.rel.kv,an.rel.size,fun t av aD => ?_,fun k cs ae => ?_,an.rel.inj,⟨rfl,rfl,rfl,cH _,fun _ _=>rfl⟩,fun b q=>⟨an.rel.up b (eL aa.size q),fun e=>by subst e;exact absurd cq (Nat.not_lt.2 q)⟩,lI s ad _⟩
  ·obtain⟨v,h1,h2⟩:=an.rel.dk t av aD;exact⟨v,h1,h2.map cV fun _ _=>rfl⟩
  ·obtain⟨vs,ty,h1,h2,ar⟩:=an.rel.c3 k cs ae;exact⟨vs,ty,(aa.block _ (yt k cs ae)).trans h1,h2.map cV fun _ _ _ _=>rfl,fun q=>q.2 k cs ae rfl⟩
 ·have aC:=an.rows i r hi;exact⟨aC.ok.kept aC.gO (fun g q=>aa.block g (aC.ok.lt q)) aa.size cV,aC.gO,fun g q=>⟨fun z=>(aC.own g q).1 z.1,(aC.own g q).2⟩⟩
 ·have Jr:=(an.rows i r hi).ok.lt q;exact⟨fun z=>z.elim (an.hot i r g hi q).1 fun e=>by omega,(an.hot i r g hi q).2,by omega⟩
theorem aaA{d t e n:Nat}{x:Operand}{gD:IntKind}{dir:ChanDir}{eH:TypeInfo}(hw:want ops ⟨some d,.makeChan t x,ty,pos,after,guard⟩ s=some true)(ab:s.look x=some (aQ (.int gD n)))(aD:P.underlying t=some (.chan dir e))(hi:P.info? e=some eH)(aA:(n:Int)≤9223372036854775807)(aa:(eH.bytes:Int)*n≤281474976710544)(hd:Nat.blt d s.n=true)
  (h:∀c,km P ops K (k+1) rest (some (c,iT.obj ⟨n,[],false,0,0⟩)) R (s.put (some d) (aQ (.chan (some c))))):km P ops K k (⟨some d,.makeChan t x,ty,pos,after,guard⟩::rest) none R s:=by
 intro al ok aH aP a w hu ev;obtain⟨aC,pe⟩:=uL al;rw[hJ,vo];have aI:=ev.eval ab;have mc:=ev.want hw;obtain⟨zD,zB,iK,an⟩:=ev;rw[show zD=aH from iK.1,show zB=aP from iK.2] at an;have ep:∀d',some d=some d'→d'<s.n:=fun d' e=>by cases e;simpa [lr] using hd
 have aX:=Below.alloc (Below.refl w.heap.size w) (cH _) (.chan n #[] false 0 0 false);have I0:fP (some (w.heap.size,iT.obj ⟨n,[],false,0,0⟩)) aH aP R s a (w.alloc (.chan n #[] false 0 0 false)):=fP.open an aX (cH _) (heap_alloc_new w _);refine B2 aC mc (Oper.sO (v := .chan (some w.heap.size)) (w':=w.alloc (.chan n #[] false 0 0 false)) ?_ (h _ pe (ok.put fun j af=>absurd af (gG _ j)) aH aP _ _ hu (I0.put ep fun U ad W=>⟨rfl,rfl⟩))) fun _ _ q=>by cases q.1
 simp only[execOp,aI,Sem.run_bind,run_makeChan aD hi gD n aA aa,Result.andThen_ok,Sem.run_pure]
theorem aaB{d t:Nat}(hw:want ops ⟨some d,.makeMap t none,ty,pos,after,guard⟩ s=some true)(hd:Nat.blt d s.n=true)
  (h:∀c,km P ops K (k+1) rest (some (c,.map #[] 0)) R (s.put (some d) (aQ (.map (some c))))):km P ops K k (⟨some d,.makeMap t none,ty,pos,after,guard⟩::rest) none R s:=by
 intro al ok aH aP a w hu ev;obtain⟨aC,pe⟩:=uL al;rw[hJ,vo];have mc:=ev.want hw;obtain⟨zD,zB,iK,an⟩:=ev;rw[show zD=aH from iK.1,show zB=aP from iK.2] at an;have ep:∀d',some d=some d'→d'<s.n:=fun d' e=>by cases e;simpa [lr] using hd
 have aX:=Below.alloc (Below.refl w.heap.size w) (cH _) (.map #[] 0);have I0:fP (some (w.heap.size,.map #[] 0)) aH aP R s a (w.alloc (.map #[] 0)):=fP.open an aX (cH _) (heap_alloc_new w _);refine B2 aC mc (Oper.sO (v := .map (some w.heap.size)) (w':=w.alloc (.map #[] 0)) ?_ (h _ pe (ok.put fun j af=>absurd af (gG _ j)) aH aP _ _ hu (I0.put ep fun U ad W=>⟨rfl,rfl⟩))) fun _ _ q=>by cases q.1
 rfl
structure Dm (P:Program) (f:FuncId) (args:List ag) (eN:iT):Prop where
 call:∀(U:Nat→Prop) (W:World) (vs:List Value),ig U id W args vs →
  Calls P f vs.toArray W fun e W'=>∃c,e = .returned (.chan (some c))∧W.heap.size≤c∧W'.heap[c]?=some eN.obj∧Below W.heap.size W W'
theorem aax{d:Nat}{o:Oper}{f:FuncId}{args:List ag}(hw:want ops o s=some true)(ab8:o.dst=some d)(ak:rE P s.look o f args)(aj:Dm P f args eN)(cq:args.all ag.aW=true)(hd:Nat.blt d s.n=true)
  (h:∀c,km P ops K (k+1) rest (some (c,eN.obj)) R (s.put (some d) (aQ (.chan (some c))))):km P ops K k (o::rest) none R s:=by
 intro al ok aH aP a w hu ev;obtain⟨aC,pe⟩:=uL al;rw[hJ,vo];have mc:=ev.want hw;obtain⟨zD,zB,iK,an⟩:=ev;rw[show zD=aH from iK.1,show zB=aP from iK.2] at an;have ep:∀d',some d=some d'→d'<s.n:=fun d' e=>by cases e;simpa [lr] using hd
 obtain⟨A,ad,AX⟩:=id an;obtain⟨us,Qx,fw⟩:=ak.run AX.rel;refine B2 aC mc ?_ fun _ _ q=>by cases q.1
 unfold Oper.wp;rw[fw,Oper.upon_enter];have adx:ig (s.free A ad) id w args us:=⟨Qx.1,fun i x v ab hv=>(Qx.2 i x v ab hv).map (fun b aa _=>⟨aa,rfl⟩) fun j af=>absurd af (ag.c6 (b5.1 cq x (cP ab)) j)⟩;refine(aj.call _ w us adx).mono ?_;rintro e w' ⟨c,rfl,ko,hA,Jj⟩;rw[ab8];exact h c pe (ok.put fun j af=>absurd af (gG _ j)) aH aP _ _ hu ((fP.open an Jj ko hA).put ep fun U ad W=>⟨rfl,rfl⟩)
def aiO(P:Program)(fn:Func)(eN:iT):Exit→lz→aE→aB→Prop
 | .normal,g,R,s | .ret,g,R,s=>∃c,g=some (c,eN.obj)∧fn.results.toList.map (gJ P s)=[some (.one (.c (.chan (some c))))]
 | _,_,_,_=>False
theorem aiN{f:FuncId}{fn:Func}{x:Code}{args:List ag}(ay:P.funcs[f]?=some fn)(aa:fn.body=some x)(aA:args.length≤fn.ntmps)(cq:args.all ag.aW=true)
  (h:iU P x (aiO P fn eN) none dP (start fn.ntmps args)):Dm P f args eN:=by
 refine⟨fun U W vs cL => ?_⟩;have al:=cL.1;have ha:∀x∈args,x.closed:=fun x ab=>ag.c6 (b5.1 cq x ab);refine NQ ay aa ?_;have ok:(start fn.ntmps args).bN:=⟨fun t av j aD af=>absurd af (ha av (cP aD) j),fun k cs x j ae=>by cases ae⟩;have cV:∀b,U b→b<W.heap.size→(start fn.ntmps args).free (fun b=>U b∨W.heap.size≤b) id b∧W.heap[b]?=W.heap[b]?:=fun b aa _=>⟨⟨.inl aa,fun k cs ae=>by cases ae⟩,rfl⟩
 have an:dn (cT.all W) (fun b=>U b∨W.heap.size≤b) dP (start fn.ntmps args) {tmps:=vs.toArray++Array.replicate (fn.ntmps-vs.toArray.size) undef,defers:=[]} W (fun b=>U b∨W.heap.size≤b) id:=by
  refine⟨fun b aa => .inr aa,fun _ h=>h,?_,fun k cs ae=>(by cases ae),eO.refl (cT.all W),fun i r hi=>(by cases hi),fun i j r q hi=>(by cases hi),fun i r g hi=>(by cases hi),fun k b ae=>(by cases ae)⟩;refine⟨rfl,by simp[start];omega,fun t av aD => ?_,fun k cs ae=>(by cases ae),fun k k' cs aw ae=>(by cases ae),⟨rfl,rfl,rfl,cH _,fun _ _=>rfl⟩,fun b aa => .inr aa,lI _ _ _⟩;have bb:t<vs.length:=by rw[←al];exact(br.1 aD).1
  refine⟨vs[t],by simp[Array.getElem?_append,bb],?_⟩;exact(cL.2 t av _ aD (bG bb)).map cV fun _ _=>rfl
 refine w0 (h ok (cT.all W) _ _ W (fun b aa => .inr (Nat.not_lt.1 aa)) ⟨cT.all W,_,⟨rfl,rfl⟩,_,id,an⟩) ?_;rintro e a' w' ⟨cZ,ap,s',bU,ev,aj⟩
 have fin:(∃c,cZ=some (c,eN.obj)∧fn.results.toList.map (gJ P s')=[some (.one (.c (.chan (some c))))])→a'.defers=[]∧∃v,(results fn a'.tmps).run P w' = .ok v w'∧∃c,Ending.returned v = .returned (.chan (some c))∧W.heap.size≤c∧w'.heap[c]?=some eN.obj∧Below W.heap.size W w':=by
  rintro⟨c,rfl,h1⟩;have acP:=ev.look
  have uS:W.heap.size≤c:=by
   obtain⟨dY,dJ,au,_⟩:=ev;exact Nat.not_lt.1 au.2.2.1
  obtain⟨A,ad,AX⟩:=ev.shut fun b aa => .inr (Nat.not_lt.1 aa);obtain⟨v,q1,q2⟩:=Cr (xs:=[.one (.c (.chan (some c)))]) AX.rel h1;have:v = .chan (some c):=q2.1;subst this;exact⟨AX.rel.kv,_,q1,c,rfl,uS,acP,AX.below.all⟩
 cases e with
 | normal=>exact fin aj
 | ret=>exact fin aj
 | _=>exact aj.elim
theorem kJ(h:cI P ops none (fun R s=>km P ops K (k+1) rest g R s) [o] R s):km P ops K k (o::rest) g R s:=aaC h
theorem O3(h:Q .normal g R s):iU P .skip Q g R s:=AL (LD h)
theorem IK(h:Q .ret g R s):iU P .ret Q g R s:=AL (LB h)
theorem O2{id:Nat}(h:Q (.exit id) g R s):iU P (.exit id) Q g R s:=AL (LA h)
variable{next:lz→aE→aB→Prop}{id iw:Nat}
theorem l4(h:next g R s):AN next Q .normal g R s:=h
theorem aa7(h:Q .ret g R s):AN next Q .ret g R s:=h
theorem Pd(h:Q (.exit id) g R s):AN next Q (.exit id) g R s:=h
theorem O4(h:Q .normal g R s):AM id Q .normal g R s:=h
theorem aaM(h:Q .ret g R s):AM id Q .ret g R s:=h
theorem O5(h:Q .normal g R s):AM id Q (.exit id) g R s:=by show bif Nat.beq id id then _ else _;rw[qm];exact h
theorem aay{d:Nat}{f:FuncId}{EC:Operand}{az:Array TypeId}{lo:List Operand}{args:List ag} [E:Enters P f](hw:want ops ⟨some d,.call ⟨.value EC,lo.toArray,az⟩,ty,pos,after,guard⟩ s=some true)(au:s.look EC=some (aQ (.func (.func f) #[] #[])))(aX:lo.map s.look=args.map some)(aj:Dm P f args eN)(cq:args.all ag.aW=true)(hd:Nat.blt d s.n=true)
  (h:∀c,km P ops K (k+1) rest (some (c,eN.obj)) R (s.put (some d) (aQ (.chan (some c))))):km P ops K k (⟨some d,.call ⟨.value EC,lo.toArray,az⟩,ty,pos,after,guard⟩::rest) none R s :=
 aax hw rfl ⟨⟨_,EC,rfl,rfl,.inl ⟨[],au,by simpa using aX,rfl⟩⟩,E.h⟩ aj cq hd h
theorem aaK(i d:Nat)(r:bC)(hi:R i=some r)(hd:s.tmps d=some (aQ r.v))(h:iU P x Q g (fun j=>if j=i then none else R j) (s.put (some d) (cD r.sz r.n r.ys)))(bI:0<r.sz:=by first|decide|exact gz _):iU P x Q g R s:=by
 rintro ok aH aP a w hu ⟨dY,dJ,au,A,ad,an⟩
 have ep:d<s.n:=by
  obtain⟨v,h1,_⟩:=an.rel.dk d _ hd;rw[←an.rel.size];exact(iA.1 h1).1
 obtain⟨bZ,tk⟩:=an.uA i d r hi bI hd ep;exact h (ok.put fun j af=>absurd af (lq _ j)) aH aP a w hu ⟨dY,dJ,au,bZ,ad,tk⟩
theorem aaL(k:Nat)(cs:List AC)(ae:s.mem k=some cs)(cq:cs.all AC.aW=true)(h:iU P x Q none R (mD s k cs)):iU P x Q none R s:=by
 rintro ok aH aP a w hu ⟨dY,dJ,au,A,ad,an⟩;obtain⟨rfl,rfl⟩:=au;have wx:dJ (ad k):=hu _ (an.hH k cs ae);have J6:∀b,A b→A b∨b=ad k:=fun b q => .inl q;have hW:∀b,s.free A ad b→b<w.heap.size→s.free (fun b=>A b∨b=ad k) ad b∧w.heap[b]?=w.heap[b]?:=fun b q _=>⟨⟨.inl q.1,q.2⟩,rfl⟩
 have ao:Rel (hV dY s ad w) (fun b=>A b∨b=ad k) s ad a w:=by
  refine⟨an.rel.kv,an.rel.size,fun t av aD => ?_,fun k cs ae => ?_,an.rel.inj,an.rel.below,fun b q => .inl (an.rel.up b q),an.rel.fI⟩
  ·obtain⟨v,h1,h2⟩:=an.rel.dk t av aD;exact⟨v,h1,h2.map hW fun _ _=>rfl⟩
  ·obtain⟨vs,ty,h1,h2,ar⟩:=an.rel.c3 k cs ae;exact⟨vs,ty,h1,h2.map hW fun _ _ _ _=>rfl,ar⟩
 have wD:=OV ae cq (.inr rfl) ao
 have lj:∀j ds,(mD s k cs).mem j=some ds→j≠k∧s.mem j=some ds:=fun j ds af=>by
  simp only[mD] at af;cases aa:td s k j with
  | false=>rw[aa] at af;simp at af
  | true=>rw[aa] at af;simp at af;exact⟨(Ev aa).1,af⟩
 have acw:∀b,s.free A ad b→b<w.heap.size→(mD s k cs).free (fun b=>A b∨b=ad k) ad b∧w.heap[b]?=w.heap[b]?:=fun b q _=>⟨⟨.inl q.1,fun j ds af=>q.2 j ds (lj j ds af).2⟩,rfl⟩;refine h (OU ok) dY dJ a w hu ⟨dY,dJ,⟨rfl,rfl⟩,fun b=>A b∨b=ad k,ad,an.up,fun b q=>q.elim (an.sub b) fun e=>by rw[e];exact wx,?_,fun j ds af=>an.hH j ds (lj j ds af).2,an.below,fun i r hi => ?_,an.apart,an.hot,an.fI⟩
 ·refine⟨wD.kv,wD.size,wD.dk,fun j ds af => ?_,wD.inj,⟨rfl,rfl,rfl,cH _,fun _ _=>rfl⟩,wD.up,lI _ _ _⟩;obtain⟨vs,ty,h1,h2,_⟩:=wD.c3 j ds af;exact⟨vs,ty,h1,h2,fun q=>q.2 j ds af rfl⟩
 ·have aC:=an.rows i r hi;refine⟨aC.ok.kept aC.gO (fun _ _=>rfl) (cH _) acw,aC.gO,fun g q=>⟨fun z=>z.elim (aC.own g q).1 fun e=>(aC.own g q).2 k cs ae e.symm,fun j ds af=>(aC.own g q).2 j ds (lj j ds af).2⟩⟩
end
end Go.Proofs.YtklpfooafbjnpaaGreat
namespace Go.Proofs.YtklpfooafbjnpaaGreat
abbrev cf:=Int×Int
def lE(l:List cf):List (cf×cf):=l.zip (l.drop 1++l.take 1)
end Go.Proofs.YtklpfooafbjnpaaGreat
namespace Go.Proofs.YtklpfooafbjnpaaGreat
open Go.RowKit
def Cj(p:Int×Int):List AC:=[.c (.int .i64 p.1),.c (.int .i64 p.2)]
def pt(l:List (Int×Int)):List AC:=l.flatMap Cj
def lv(l:List (Int×Int)):AC := .p (b0 2 l.length (pt l))
def gW(L:List (List (Int×Int))):AC := .p (b0 1 L.length (L.map lv))
def ik(L:List (List (Int×Int))):List ((Int×Int)×(Int×Int)):=L.flatMap lE
def Vo(e:(Int×Int)×(Int×Int)):List ag:=[.w (.agg (Cj e.1)),.w (.agg (Cj e.2))]
def q9(L:List (List (Int×Int)))(k:Nat):Nat:=(ik (L.take k)).length
theorem wk(l:List (Int×Int)):(lE l).length=l.length:=by
 simp only[lE,List.length_zip,cY,iB,dV];omega
theorem Av{l:List (Int×Int)}{i:Nat}{p q:Int×Int}(hp:l[i]?=some p)(aj:(if i+1<l.length then l[i+1]? else l[0]?)=some q):(lE l)[i]?=some (p,q):=by
 have hi:=(br.1 hp).1;simp only[lE,List.getElem?_zip_eq_some];refine⟨hp,?_⟩
 by_cases h:i+1<l.length
 ·rw[if_pos h] at aj;rw[fE (by simp;omega),gI,ol 1 i];exact aj
 ·rw[if_neg h] at aj;rw[gh (by simp;omega),iB,show i-(l.length-1)=0 by omega,gg (by omega)];exact aj
theorem aiF{L:List (List (Int×Int))}{k:Nat}{r:List (Int×Int)}(h:L[k]?=some r):q9 L (k+1)=q9 L k+r.length:=by
 have ae:=(br.1 h).1;have:L.take (k+1)=L.take k++[r]:=by rw[ls ae,(br.1 h).2]
 simp only[q9,ik,this,sy,cY,List.flatMap_cons,List.flatMap_nil,mS,wk]
theorem ZZ{L:List (List (Int×Int))}{k i:Nat}{r:List (Int×Int)}(h:L[k]?=some r)(hi:i<r.length):(ik L)[q9 L k+i]?=(lE r)[i]?:=by
 have ae:=(br.1 h).1
 have e:ik L=ik (L.take k)++(lE r++ik (L.drop (k+1))):=by
  conv=>lhs;rw[←j8 k L,jE ae,(br.1 h).2]
  simp only[ik,sy,List.flatMap_cons]
 rw[e,gh (by unfold q9;omega),show q9 L k+i-(ik (L.take k)).length=i by unfold q9;omega,fE (by rw[wk];exact hi)]
theorem rl{l:List (Int×Int)}{i:Nat}{ii:Int}{x y:Int}(hi:ii=i)(h:l[i]?=some (x,y)):((pt l).drop (ii.toNat*2)).take 2=[.c (.int .i64 x),.c (.int .i64 y)]:=by
 subst hi;rw[kz]
 induction l generalizing i with
 | nil=>simp at h
 | cons p l ck =>
  cases i with
  | zero=>simp at h;subst h;rfl
  | succ i =>
   have:=ck (i:=i) (by simpa using h);rw[←this,Nat.succ_mul];show ((Cj p++pt l).drop (i*2+2)).take 2=_;rw[show Cj p++pt l=AC.c (.int .i64 p.1)::AC.c (.int .i64 p.2)::pt l from rfl];rfl
theorem y8{L:List (List (Int×Int))}{i:Nat}{ii:Int}{r:List (Int×Int)}(hi:ii=i)(h:L[i]?=some r):((L.map lv).drop (ii.toNat*1)).take 1=[lv r]:=by
 subst hi;rw[kz,Nat.mul_one];have ae:=(br.1 h).1;rw[jE (by simpa using ae)];simp[(br.1 h).2]
abbrev zo(k:Nat):ag := .w (.one (.own k 0))
def Eh(x:Int×((Int×Int)×(Int×Int))):List AC:=[.c (.int .i64 x.2.1.1),.c (.int .i64 x.2.1.2),.c (.int .i64 x.2.2.1),.c (.int .i64 x.2.2.2),.c (.int .i64 x.1)]
def nV(l:List (Int×((Int×Int)×(Int×Int)))):List AC:=l.flatMap Eh
theorem take_one{α:Type}{l:List α}{i:Nat}{x:α}(h:l[i]?=some x):l.take (i+1)=l.take i++[x]:=by
 rw[ls (br.1 h).1,(br.1 h).2]
def h3(A B:List (List (Int×Int)))(op fill rung cap:Int):List AC:=[gW A,gW B,.c (.int .i64 op),.c (.int .i64 fill),.c (.int .i64 rung),.c (.int .i64 cap)]
theorem Tg{i:Nat}{r:bC}(h:0<r.sz):zR (bo i r):=fun j q af=>by
 by_cases e:j=i
 ·subst e;rw[bo,bW] at af;cases af;exact h
 ·rw[bo,bM _ _ e] at af;cases af
theorem ahx(L:List (List (Int×Int))):aO ah 105 [.w (.one (gW L))] (.w (.one (.p (lV (.func 164) [.p (oX [gW L])])))):=by
 refine Lb (f:=105) Tryz.func105 rfl rfl rfl rfl ?_;refine DQ (vY ?_);(refine fs ?_);refine DP 1 _ rfl rfl ?_;refine vY ?_;(repeat first|refine db ?_|refine DJ (xs:=[_]) (cs:=[_]) rfl rfl rfl rfl ?_)
 ((refine bm rfl (aZ rfl aM) ?_))
 exact ag.aV.refl _
abbrev GY(l:Nat):ag:=aQ (.func (.yield l) #[] #[])
def Xf(X:ki)(L:List (List (Int×Int)))(k:Nat)(g:Option Nat)(az:List (Nat×ag))(aU:List (Nat×List AC)):Prop :=
 ∃(i:Nat) (ii:Int),i≤L.length∧k=L.length-i∧ii=i∧g=some (q9 L i)∧aU=[]∧az=[(0,GY X.l),(7,.w (.one (gW L))),(8,aL L.length),(9,aL ii)]
def Xe(X:ki)(L:List (List (Int×Int)))(r:List (Int×Int))(b:Nat)(KW:Int)(k:Nat)(g:Option Nat)(az:List (Nat×ag))(aU:List (Nat×List AC)):Prop :=
 ∃(i:Nat) (ii:Int),i≤r.length∧k=r.length-i∧ii=i∧g=some (b+i)∧aU=[]∧az=[(0,GY X.l),(4,.w (.one (lv r))),(7,.w (.one (gW L))),(8,aL L.length),(9,aL KW),(13,.w (.one (lv r))),(14,aL r.length),(15,aL ii)]
theorem agk{r:List (Int×Int)}{j:Nat}{dN:Int}(hp:j<r.length)(l7:dN=j):∃x y,(0≤(dN+1) % (r.length:Int)∧(dN+1) % (r.length:Int)<r.length)∧(if j+1<r.length then r[j+1]? else r[0]?)=some (x,y)∧((pt r).drop (((dN+1) % (r.length:Int)).toNat*2)).take 2=[.c (.int .i64 x),.c (.int .i64 y)]:=by
 subst l7
 by_cases aA:j+1<r.length
 ·have e:((j:Int)+1) % (r.length:Int)=((j+1:Nat):Int):=by rw[Int.emod_eq_of_lt (by omega) (by omega)];omega
  obtain⟨x,y,g⟩:∃x y,r[j+1]?=some (x,y):=⟨_,_,bG aA⟩;refine⟨x,y,by rw[e];omega,by rw[if_pos aA];exact g,rl e g⟩
 ·have e:((j:Int)+1) % (r.length:Int)=((0:Nat):Int):=by
   rw[show (j:Int)+1=(r.length:Int) by omega,Int.emod_self];rfl
  obtain⟨x,y,g⟩:∃x y,r[0]?=some (x,y):=⟨_,_,bG (by omega)⟩;refine⟨x,y,by rw[e];omega,by rw[if_neg aA];exact g,rl e g⟩
theorem ad8{L:List (List (Int×Int))}(dj:L.length≤4611686018427387904)(ao:∀r∈L,r.length≤4611686018427387904):Dh ah (lV (.func 164) [.p (oX [gW L])]) ((ik L).map Vo):=by
 refine QP (gf:=164) Tryz.func164 rfl (fun args w=>x7 (by kernel_rfl)) (cg rfl) rfl rfl ?_;intro X hc hxs;refine⟨_,iF.cons (ly.refl _) iF.nil,?_⟩;(repeat first|(with_reducible apply fT);rfl|(with_reducible apply Ae);(iterate 5 rfl)|(with_reducible apply rM);(iterate 3 rfl)|(with_reducible first|apply sP|apply oS|apply dA|apply zx)|(with_reducible apply qt);assumption);refine G6 34 (Xf X L) L.length _ [] ⟨0,0,dy _,rfl,rfl,rfl,rfl,rfl⟩ rfl ⟨rfl,rfl,rfl,rfl,trivial⟩ trivial rfl ?_;rintro n g az aU ⟨i,ii,hi,rfl,er,rfl,rfl,rfl⟩ bE;clear bE
 by_cases aj:i<L.length
 ·have q2:ii<(L.length:Int):=by omega
  have q3:0≤ii:=by omega
  obtain⟨r,jZ⟩:∃r,L[i]?=some r:=⟨_,bG aj⟩;have hx:=y8 er jZ;have hB:=ao r (cP jZ);(repeat first|(with_reducible apply fT);rfl|(with_reducible apply Ae);(iterate 5 rfl)|(with_reducible apply Ad);(iterate 3 rfl);(omega);(omega);(assumption);rfl|(with_reducible apply rM);(iterate 3 rfl)|(with_reducible first|apply sP|apply oS|apply dA)|(with_reducible apply zA);assumption|with_reducible apply zx|(with_reducible apply zz);rfl;(exact ca (by omega))|(with_reducible apply qt);assumption);refine G6 34 (Xe X L r (q9 L i) ii) r.length _ [] ⟨0,0,dy _,rfl,rfl,rfl,rfl,rfl⟩ rfl ⟨rfl,rfl,rfl,rfl,rfl,rfl,rfl,rfl,trivial⟩ trivial rfl ?_;rintro n g az aU ⟨j,dN,af,rfl,l7,rfl,rfl,rfl⟩ bE;clear bE
  by_cases hp:j<r.length
  ·have p2:dN<(r.length:Int):=by omega
   have p3:0≤dN:=by omega
   obtain⟨x,y,g1⟩:∃x y,r[j]?=some (x,y):=⟨_,_,bG hp⟩;have k8:=rl l7 g1;obtain⟨de,mr,⟨gE,fC⟩,g2,pB⟩:=agk hp l7
   have ab:X.xs[q9 L i+j]?=some (Vo ((x,y),(de,mr))):=by
    rw[hxs,dx,ZZ jZ hp,Av g1 g2];rfl
   (repeat first|(with_reducible apply fT);rfl|(with_reducible apply HJ);(iterate 5 rfl)|(with_reducible apply Ad);(iterate 3 rfl);(omega);(omega);(assumption);rfl|(with_reducible apply vV);(iterate 3 rfl);(exact jd (by omega));rfl|(with_reducible apply Nj);(iterate 3 rfl);(omega);(omega);rfl|(with_reducible apply rM);(iterate 3 rfl)|(with_reducible first|apply sP|apply oS|apply dA)|(with_reducible apply zA);assumption|with_reducible apply zx|(with_reducible apply zz);rfl;(exact ca (by omega))|refine alz (ri:=6) (kc:=10) (by assumption) (by kernel_rfl) rfl (by kernel_rfl) rfl ?_|(with_reducible apply qt);assumption);refine⟨j6 (Nat.lt_succ_self _) (cg rfl),rfl,_,[.w (.agg [.c (.int .i64 x),.c (.int .i64 y)]),.w (.agg [.c (.int .i64 de),.c (.int .i64 mr)])],ab,rfl,pA.cons (sQ.w rfl rfl) (pA.cons (sQ.w rfl rfl) pA.nil),?_,?_⟩
   ·(repeat first|(with_reducible apply fT);rfl|(with_reducible apply vV);(iterate 3 rfl);(exact jd (by omega));rfl|(with_reducible first|apply oS|apply dA)|(with_reducible apply zA);assumption|with_reducible apply G1|(with_reducible apply zy);rfl;(rfl)|(with_reducible apply qt);assumption);exact⟨r.length-(j+1),_,[],by omega,⟨j+1,dN+1,hp,rfl,by omega,rfl,rfl,rfl⟩,rfl,⟨rfl,rfl,rfl,rfl,rfl,rfl,rfl,rfl,trivial⟩,trivial,rfl⟩
   ·(repeat first|(with_reducible apply fT);rfl|(with_reducible first|apply oS|apply dA|apply VS)|(with_reducible apply VU);assumption|with_reducible apply VQ|(with_reducible apply zz);rfl;(rfl));exact⟨.inr rfl,.inl rfl⟩
  ·have e:j=r.length:=by omega
   have u3:=aiF jZ;subst e;(repeat first|(with_reducible apply fT);rfl|(with_reducible apply vV);(iterate 3 rfl);(exact jd (by omega));rfl|(with_reducible first|apply sP|apply oS|apply dA|apply G1|apply G2)|(with_reducible apply G5);assumption|with_reducible apply G3|(with_reducible apply zy);rfl;(exact cm (by omega))|(with_reducible apply qt);assumption);exact⟨L.length-(i+1),_,[],by omega,⟨i+1,ii+1,aj,rfl,by omega,by rw[u3],rfl,rfl⟩,rfl,⟨rfl,rfl,rfl,rfl,trivial⟩,trivial,rfl⟩
 ·have e:i=L.length:=by omega
  subst e;(repeat first|(with_reducible apply fT);rfl|(with_reducible first|apply sP|apply oS|apply dA|apply G2)|(with_reducible apply G5);assumption|with_reducible apply G3|(with_reducible apply zy);rfl;(exact cm (by omega))|(with_reducible apply qt);assumption);exact⟨.inl rfl,.inr (by unfold q9;rw[List.take_length,jC])⟩
instance am1:Hi ah 137 2 false 1:=⟨by kernel_rfl⟩
theorem SK{n m:Nat}{xs ys:List AC}{op fill rung cap:Int}:aO ah 104 [.w (.agg [.p (b0 1 n xs),.p (b0 1 m ys),.c (.int .i64 op),.c (.int .i64 fill),.c (.int .i64 rung),.c (.int .i64 cap)])] (.w (.agg [.p (b0 1 n xs),.p (b0 1 m ys)])):=by
 refine bq (f:=104) Tryz.func104 rfl rfl rfl rfl ?_;(refine fs ?_)
 ((refine bm rfl (c8 rfl rfl rfl aM) ?_))
 exact ag.aV.refl _
theorem SX(A B:List (List (Int×Int)))(op fill rung cap:Int):aO ah 221 [.w (.agg (h3 A B op fill rung cap))] (.w (.one (.p (lV (.func 265) [.p (oX (h3 A B op fill rung cap))])))):=by
 refine Lb (f:=221) Tryz.func221 rfl rfl rfl rfl ?_;refine DQ (vY ?_);(refine fs ?_);refine DP 1 _ rfl rfl ?_;refine vY ?_;(repeat first|refine db ?_|refine DJ (xs:=[_]) (cs:=[_]) rfl rfl rfl rfl ?_)
 ((refine bm rfl (aZ rfl aM) ?_))
 exact ag.aV.refl _
def x6(U:Nat→Prop)(W:World)(r:List (Int×Int)):AC := .p (Is U W (b0 2 r.length (pt r)))
theorem Ow(U:Nat→Prop)(W:World)(L:List (List (Int×Int))):iF U W (L.map lv) (L.map (x6 U W)):=⟨by simp,fun j x y ab ai=>by
 rw[dx] at ab ai;cases h:L[j]? with
 | none=>rw[h] at ab;cases ab
 | some r=>rw[h] at ab ai;cases ab;cases ai;exact ly.Ir _⟩
theorem afD{f:List (Int×Int)→AC}{L:List (List (Int×Int))}{i:Nat}{ii:Int}{r:List (Int×Int)}(hi:ii=i)(h:L[i]?=some r):((L.map f).drop (ii.toNat*1)).take 1=[f r]:=by
 subst hi;rw[kz,Nat.mul_one];have ae:=(br.1 h).1;rw[jE (by simpa using ae)];simp[(br.1 h).2]
def sG(A B:List (List (Int×Int))):List (List ag):=(A++B).map fun r=>[.w (.one (lv r))]
def sv(A B:List (List (Int×Int)))(i:Nat):Nat:=if i=0 then 0 else if i=1 then A.length else A.length+B.length
abbrev rU(X:ki)(L:List (List (Int×Int))):AC := .p (b0 1 L.length (L.map (x6 X.U X.cu)))
def Xc(X:ki)(A B:List (List (Int×Int)))(k:Nat)(g:Option Nat)(az:List (Nat×ag))(aU:List (Nat×List AC)):Prop :=
 ∃(i:Nat) (ii:Int),i≤2∧k=2-i∧ii=i∧g=some (sv A B i)∧aU=[]∧az=[(0,GY X.l),(8,.w (.agg [rU X A,rU X B])),(9,aL ii)]
def Xd(X:ki)(A B L:List (List (Int×Int)))(b:Nat)(KW:Int)(k:Nat)(g:Option Nat)(az:List (Nat×ag))(aU:List (Nat×List AC)):Prop :=
 ∃(i:Nat) (ii:Int),i≤L.length∧k=L.length-i∧ii=i∧g=some (b+i)∧aU=[]∧az=[(0,GY X.l),(8,.w (.agg [rU X A,rU X B])),(9,aL KW),(12,.w (.one (rU X L))),(13,aL L.length),(14,aL ii)]
theorem QQ{A B:List (List (Int×Int))}{op fill rung cap:Int}(cp:A.length≤4611686018427387904)(cX:B.length≤4611686018427387904):Dh ah (lV (.func 265) [.p (oX (h3 A B op fill rung cap))]) (sG A B):=by
 refine QP (gf:=265) Tryz.func265 rfl (fun args w=>x7 (by kernel_rfl)) (cg rfl) rfl rfl ?_;intro X hc hxs;refine⟨[.p (oX [rU X A,rU X B,.c (.int .i64 op),.c (.int .i64 fill),.c (.int .i64 rung),.c (.int .i64 cap)])],iF.cons (ly.ptr (iF.cons (ly.sl (Ow _ _ A)) (iF.cons (ly.sl (Ow _ _ B)) (iF.cons (ly.refl _) (iF.cons (ly.refl _) (iF.cons (ly.refl _) (iF.cons (ly.refl _) iF.nil))))))) iF.nil,?_⟩;have eR:=SK (n:=A.length) (m:=B.length) (xs:=A.map (x6 X.U X.cu)) (ys:=B.map (x6 X.U X.cu)) (op:=op) (fill:=fill) (rung:=rung) (cap:=cap);(repeat first|(with_reducible apply fT);rfl|(with_reducible apply HJ);(iterate 5 rfl)|refine HF rfl rfl rfl (by(exact eR)) rfl ?_|(with_reducible first|apply sP|apply oS|apply dA|apply zx)|(with_reducible apply qt);assumption);refine G6 24 (Xc X A B) 2 _ [] ⟨0,0,dy _,rfl,rfl,rfl,rfl,rfl⟩ rfl ⟨rfl,rfl,rfl,trivial⟩ trivial rfl ?_;rintro n g az aU ⟨i,ii,hi,rfl,er,rfl,rfl,rfl⟩ bE;clear bE
 by_cases aj:i<2
 ·have q2:ii<2:=by omega
  have q3:0≤ii:=by omega
  obtain⟨L,o8,abv,adF,r9⟩:∃L:List (List (Int×Int)),[rU X A,rU X B][ii.toNat*1]?=some (rU X L)∧L.length≤4611686018427387904∧(∀j r,L[j]?=some r→X.xs[sv A B i+j]?=some [.w (.one (lv r))])∧sv A B (i+1)=sv A B i+L.length:=by
   have IR:i=0∨i=1:=by omega
   rw[hxs];rcases IR with rfl|rfl
   ·subst er;refine⟨A,rfl,cp,fun j r af => ?_,by simp[sv]⟩;have bb:=(br.1 af).1;rw[show sv A B 0+j=j from iR j,sG,dx,fE bb,af];rfl
   ·subst er;refine⟨B,rfl,cX,fun j r af => ?_,by simp[sv]⟩;rw[show sv A B 1+j=A.length+j from rfl,sG,dx,gh (by omega),show A.length+j-A.length=j by omega,af];rfl
  (repeat first|(with_reducible apply fT);rfl|(with_reducible apply rM);(iterate 3 rfl)|(with_reducible apply Ng);(iterate 3 rfl);(omega);(omega);(assumption);rfl|(with_reducible first|apply sP|apply oS|apply dA)|(with_reducible apply zA);assumption|with_reducible apply zx|(with_reducible apply zz);rfl;(exact ca (by omega))|(with_reducible apply qt);assumption);refine G6 24 (Xd X A B L (sv A B i) ii) L.length _ [] ⟨0,0,dy _,rfl,rfl,rfl,rfl,rfl⟩ rfl ⟨rfl,rfl,rfl,rfl,rfl,rfl,trivial⟩ trivial rfl ?_;rintro n g az aU ⟨j,dN,af,rfl,l7,rfl,rfl,rfl⟩ bE;clear bE
  by_cases hp:j<L.length
  ·have p2:dN<(L.length:Int):=by omega
   have p3:0≤dN:=by omega
   obtain⟨r,g1⟩:∃r,L[j]?=some r:=⟨_,bG hp⟩;have k8:=afD (f:=x6 X.U X.cu) l7 g1;have ab:=adF j r g1;(repeat first|(with_reducible apply fT);rfl|(with_reducible apply Ae);(iterate 5 rfl)|(with_reducible apply Ad);(iterate 3 rfl);(omega);(omega);(assumption);rfl|(with_reducible first|apply sP|apply oS|apply dA)|(with_reducible apply zA);assumption|with_reducible apply zx|(with_reducible apply zz);rfl;(exact ca (by omega))|refine aly (ri:=6) (k:=2) (by assumption) rfl ?_|(with_reducible apply qt);assumption);refine⟨j6 (Nat.lt_succ_self _) (cg rfl),rfl,_,[.w (.one (x6 X.U X.cu r))],ab,rfl,pA.cons (sQ.Ir _) pA.nil,?_,?_⟩
   ·(repeat first|(with_reducible apply fT);rfl|(with_reducible apply vV);(iterate 3 rfl);(exact jd (by omega));rfl|(with_reducible first|apply oS|apply dA)|(with_reducible apply zA);assumption|with_reducible apply G1|(with_reducible apply zy);rfl;(rfl)|(with_reducible apply qt);assumption);exact⟨L.length-(j+1),_,[],by omega,⟨j+1,dN+1,hp,rfl,by omega,rfl,rfl,rfl⟩,rfl,⟨rfl,rfl,rfl,rfl,rfl,rfl,trivial⟩,trivial,rfl⟩
   ·(repeat first|(with_reducible apply fT);rfl|(with_reducible first|apply oS|apply dA|apply VS)|(with_reducible apply VU);assumption|with_reducible apply VQ|(with_reducible apply zz);rfl;(rfl));exact⟨.inr rfl,.inl rfl⟩
  ·have e:j=L.length:=by omega
   subst e;(repeat first|(with_reducible apply fT);rfl|(with_reducible apply vV);(iterate 3 rfl);(exact jd (by omega));rfl|(with_reducible first|apply sP|apply oS|apply dA|apply G1|apply G2)|(with_reducible apply G5);assumption|with_reducible apply G3|(with_reducible apply zy);rfl;(exact cm (by omega))|(with_reducible apply qt);assumption);exact⟨2-(i+1),_,[],by omega,⟨i+1,ii+1,aj,rfl,by omega,by rw[r9],rfl,rfl⟩,rfl,⟨rfl,rfl,rfl,trivial⟩,trivial,rfl⟩
 ·have e:i=2:=by omega
  subst e;(repeat first|(with_reducible apply fT);rfl|(with_reducible first|apply sP|apply oS|apply dA|apply G2)|(with_reducible apply G5);assumption|with_reducible apply G3|(with_reducible apply zy);rfl;(exact cm (by omega))|(with_reducible apply qt);assumption);exact⟨.inl rfl,.inr (by simp[sv,sG])⟩
instance am2:nb ah 28 95 5 40:=⟨by kernel_rfl⟩
abbrev x5(v:Value)(l:List (Int×((Int×Int)×(Int×Int)))):bC:=⟨95,5,v,l.length,nV l⟩
def cK(A B:List (List (Int×Int))):List (Int×((Int×Int)×(Int×Int))):=(ik A).map (fun e=>(0,e))++(ik B).map fun e=>(1,e)
theorem ZX(v:Value)(l:List (Int×((Int×Int)×(Int×Int))))(x:Int×((Int×Int)×(Int×Int))):x5 v (l++[x])=⟨95,5,v,l.length+1,nV l++Eh x⟩:=by
 simp[x5,nV,sy]
theorem Yt{A B:List (List (Int×Int))}{i:Nat}{e:(Int×Int)×(Int×Int)}(h:(ik A)[i]?=some e):(cK A B)[i]?=some (0,e):=by
 have hi:=(br.1 h).1;unfold cK;rw[fE (by simpa using hi),dx,h];rfl
theorem Yu{A B:List (List (Int×Int))}{i:Nat}{e:(Int×Int)×(Int×Int)}(h:(ik B)[i]?=some e):(cK A B)[(ik A).length+i]?=some (1,e):=by
 unfold cK;rw[gh (by simp),jC,Nat.add_sub_cancel_left,dx,h];rfl
theorem Nl(A B:List (List (Int×Int))):(cK A B).length=(ik A).length+(ik B).length:=by simp[cK]
def oK(A B:List (List (Int×Int)))(i:Nat):Nat:=if i=0 then 0 else if i=1 then(ik A).length else(ik A).length+(ik B).length
def Wo(A B:List (List (Int×Int)))(k:Nat)(R:aE)(az:List (Nat×ag))(aU:List (Nat×List AC)):Prop :=
 ∃(i:Nat) (ii:Int) (v:Value),i≤2∧k=2-i∧ii=i∧v.oneCell'=true∧R=bo 0 (x5 v ((cK A B).take (oK A B i)))∧aU=[(1003,[.c v])]∧az=[(3,zo 1003),(9,.w (.agg [gW A,gW B])),(10,aL ii)]
def Wn(M:List (Int×((Int×Int)×(Int×Int))))(ii:Int)(b:Nat)(i:Nat)(R:aE)(cU:List (List AC)):Prop:=∃v,v.oneCell'=true∧R=bo 0 (x5 v (M.take (b+i)))∧cU=[[.c v],[.c (.int .i64 ii)]]
theorem KZ{A B:List (List (Int×Int))}{op fill rung cap:Int}(cp:A.length≤900000)(cX:B.length≤900000)(yd:∀r∈A,r.length≤900000)(ye:∀r∈B,r.length≤900000)(fY:(cK A B).length≤900000) :
  aO ah 57 [.w (.agg (h3 A B op fill rung cap))] (cD 5 (cK A B).length (nV (cK A B))):=by
 have eR:aO ah 104 [.w (.agg (h3 A B op fill rung cap))] (.w (.agg [gW A,gW B])):=SK;refine La (f:=57) Tryz.func57 rfl rfl rfl rfl ?_;(repeat first|refine b3 ?_|refine gu ?_|(with_reducible first|apply xq|apply vv|apply GC));refine CC (swp 3 1003) (lR _ _) ?_;refine ajZ 0 95 5 rfl ?_;refine ajY 27 (Wo A B) 2 _ _ _ ⟨0,0,.slice none 0 0,dy _,rfl,rfl,rfl,rfl,rfl,rfl⟩ (kX _ _ _) rfl ⟨rfl,rfl,rfl,trivial⟩ ⟨rfl,trivial⟩ rfl ?_;rintro n R az aU ⟨i,ii,v,hi,rfl,er,hv,rfl,rfl,rfl⟩ bE;clear bE
 by_cases aj:i<2
 ·have q2:ii<2:=by omega
  have q3:0≤ii:=by omega
  obtain⟨L,o8,abv,abw,fu,r9⟩:∃L:List (List (Int×Int)),[gW A,gW B][ii.toNat*1]?=some (gW L)∧L.length≤900000∧(∀r∈L,r.length≤900000)∧(∀(j:Nat) e,(ik L)[j]?=some e→(cK A B)[oK A B i+j]?=some (ii,e))∧oK A B (i+1)=oK A B i+(ik L).length:=by
   have IR:i=0∨i=1:=by omega
   rcases IR with rfl|rfl
   ·subst er;refine⟨A,rfl,cp,yd,fun j e he => ?_,by simp[oK]⟩;rw[show oK A B 0+j=j from iR j];exact Yt he
   ·subst er;exact⟨B,rfl,cX,ye,fun j e he=>Yu he,by simp[oK]⟩
  have kg:=ahx L;have lA:=ad8 (L:=L) (by omega) (fun r ao=>by have:=abw r ao;omega);(repeat first|refine b3 ?_|refine gu ?_|(with_reducible first|apply xq|apply vv|apply aj0|apply GC)|(with_reducible apply ajV);rfl;(exact ca (by omega)));refine CC (swp 4 1004) (lR _ _) ?_;refine LF 27 [(3,zo 1003),(4,zo 1004),(9,.w (.agg [gW A,gW B])),(10,aL ii)] [1003,1004] [[.c v],[.c (.int .i64 ii)]] (bo 0 (x5 v ((cK A B).take (oK A B i)))) (Wn (cK A B) ii (oK A B i)) (fun _ _ _=>False) rfl lA (by decide) ?hxs ?hp rfl ⟨rfl,rfl,rfl,rfl,trivial⟩ ⟨rfl,rfl,trivial⟩ (by decide) rfl rfl ⟨v,hv,rfl,rfl⟩ (ba.refl _) (Tg (gz _)) ?round ?done (fun _ _ _ _ _ h=>h.elim)
  case hxs =>
   intro x ab;obtain⟨e,_,rfl⟩:=fO.1 ab;exact⟨rfl,rfl⟩
  case hp =>
   intro p hp;simp only[fe,sA,or_false] at hp;rcases hp with rfl|rfl <;> exact⟨by decide,rfl⟩
  case round =>
   rintro j x R cU ab ⟨v,hv,rfl,rfl⟩ bE;rw[dx] at ab;obtain⟨⟨⟨da,jJ⟩,de,mr⟩,he,rfl⟩:=Option.map_eq_some_iff.1 ab;clear ab bE;have aD:=take_one (fu _ _ he);have yz:((cK A B).take (oK A B i+j)).length≤900000:=by rw[dV];omega
   (refine aS ?_);refine mL 0 rfl rfl rfl rfl ?q1 ?q2 rfl rfl (fun a8 bS => ?_)
   case q1=>exact eL (m:=1000000) (by show ((cK A B).take (oK A B i+j)).length+1≤1000000;omega) (by decide)
   case q2=>show (((cK A B).take (oK A B i+j)).length+1)*40≤140737488355328;omega
   (refine aS ?_);refine⟨_,_,⟨a8,bS,rfl,rfl⟩,?_,Tg (gz _),rfl,⟨rfl,rfl,trivial⟩,rfl⟩;rw[←oj,aD,ZX];exact kX _ _ _
  case done =>
   rintro R cU ⟨v,hv,rfl,rfl⟩ bE;clear bE;rw[jC];(repeat first|refine b3 ?_|with_reducible apply vv);exact⟨2-(i+1),_,_,_,by omega,⟨i+1,ii+1,v,by omega,rfl,by omega,hv,rfl,rfl,rfl⟩,by rw[r9];exact ba.refl _,rfl,⟨rfl,rfl,rfl,trivial⟩,⟨rfl,trivial⟩,rfl⟩
 ·have e:i=2:=by omega
  subst e;have cy:(cK A B).take (oK A B 2)=cK A B:=gV (by rw[Nl];simp[oK]);rw[cy];have q4:¬ii<2:=by omega
  refine ajW 0 1003 0 (x5 v (cK A B)) rfl rfl rfl ?_;(repeat first|refine b3 ?_|(with_reducible first|apply xq|apply vv|apply LG|apply ajX)|(with_reducible apply ajU);rfl;(exact cm (by omega)))
  ((refine bm rfl (aZ rfl aM) ?_))
  exact ag.aV.refl _
end Go.Proofs.YtklpfooafbjnpaaGreat
