/-
  My own texts,without what this claim does not need. My own text.
-/
import Derived.Conc.LoneCalls
import Derived.Conc.LoneSelectN
import Derived.Conc.SmallLaws
import Derived.Conc.EventLaws
import Derived.Test.YtklpfooafbjnpaaGreatSLRoomsK10
set_option maxRecDepth 100000
set_option maxHeartbeats 64000000
set_option linter.unusedVariables false
set_option linter.unusedSimpArgs false
set_option linter.unusedSectionVars false
open Go.Proofs.Tryz renaming prog → ah
namespace Go.Proofs.YtklpfooafbjnpaaGreat
open Go.RowKit
theorem ai1{V l:List aq}{f t:Int}(au:0≤f∧f≤V.length)(aC:0≤t∧t≤V.length)(mM:V.length≤10000)(al:l.length≤10000):aP ah 196 [fD V,aL f,aL t,fD l] (fD (V.take f.toNat++l++V.drop t.toNat)):=by
 have J:=TD (LL:=[V.take f.toNat,l,V.drop t.toNat]) (by show 3≤1100;decide) (by simp[cZ];omega);have cz:[V.take f.toNat,l,V.drop t.toNat].flatten=V.take f.toNat++l++V.drop t.toNat:=by simp
 rw[cz] at J
 replace J:aP ah 217 [cE 1 3 [.p (b4 2 (V.take f.toNat).length (bZ (V.take f.toNat))),.p (b4 2 l.length (bZ l)),.p (b4 2 (V.drop t.toNat).length (bZ (V.drop t.toNat)))]] (fD (V.take f.toNat++l++V.drop t.toNat)):=J
 have a1:0≤f:=au.1;have a2:f≤f:=o5 f;have a3:f≤V.length:=au.2;have a4:0≤t:=aC.1;have a5:t≤V.length:=aC.2;have a6:(V.length:Int)≤V.length:=o5 _;have m1:f.toNat-0=(V.take f.toNat).length:=by rw[ea];omega
 have aH:((bZ V).drop (0*2)).take ((V.take f.toNat).length*2)=bZ (V.take f.toNat):=by
  have h:bZ V=bZ (V.take f.toNat)++bZ (V.drop f.toNat):=by rw[←ua,kh]
  rw[h,Nat.zero_mul,List.drop_zero,←ot,List.take_left]
 have m2:(V.length:Int).toNat-t.toNat=(V.drop t.toNat).length:=by rw[iG];omega
 have aN:((bZ V).drop (t.toNat*2)).take ((V.drop t.toNat).length*2)=bZ (V.drop t.toNat):=by
  have h:bZ V=bZ (V.take t.toNat)++bZ (V.drop t.toNat):=by rw[←ua,kh]
  rw[h,show t.toNat*2=(bZ (V.take t.toNat)).length by rw[ot,ea];omega,List.drop_left,Rz rfl]
 refine bp (f:=196) Tryz.func196 rfl rfl rfl rfl ?_;(repeat first|refine dd ?_|refine fs ?_|(with_reducible apply Ik);(iterate 4 rfl);(assumption);(assumption);(assumption);(assumption);(assumption);rfl|(with_reducible apply Il);(iterate 5 rfl);(assumption);(assumption);(assumption);(assumption);(assumption);(assumption);rfl)
 ((refine bk rfl (aX rfl aM) ?_))
 exact ag.aU.refl _
theorem ai0{V l:List Int}{f t:Int}(au:0≤f∧f≤V.length)(aC:0≤t∧t≤V.length)(mM:V.length≤10000)(al:l.length≤10000):aP ah 197 [lH V,aL f,aL t,lH l] (lH (V.take f.toNat++l++V.drop t.toNat)):=by
 have J:=TC (LL:=[V.take f.toNat,l,V.drop t.toNat]) (by show 3≤1100;decide) (by simp[cZ];omega);have cz:[V.take f.toNat,l,V.drop t.toNat].flatten=V.take f.toNat++l++V.drop t.toNat:=by simp
 rw[cz] at J
 replace J:aP ah 218 [cE 1 3 [.p (b4 1 (V.take f.toNat).length (cK (V.take f.toNat))),.p (b4 1 l.length (cK l)),.p (b4 1 (V.drop t.toNat).length (cK (V.drop t.toNat)))]] (lH (V.take f.toNat++l++V.drop t.toNat)):=J
 have a1:0≤f:=au.1;have a2:f≤f:=o5 f;have a3:f≤V.length:=au.2;have a4:0≤t:=aC.1;have a5:t≤V.length:=aC.2;have a6:(V.length:Int)≤V.length:=o5 _;have m1:f.toNat-0=(V.take f.toNat).length:=by rw[ea];omega
 have aH:((cK V).drop (0*1)).take ((V.take f.toNat).length*1)=cK (V.take f.toNat):=by
  have h:cK V=cK (V.take f.toNat)++cK (V.drop f.toNat):=by rw[←B9,kh]
  rw[h,Nat.zero_mul,List.drop_zero,←FV,List.take_left]
 have m2:(V.length:Int).toNat-t.toNat=(V.drop t.toNat).length:=by rw[iG];omega
 have aN:((cK V).drop (t.toNat*1)).take ((V.drop t.toNat).length*1)=cK (V.drop t.toNat):=by
  have h:cK V=cK (V.take t.toNat)++cK (V.drop t.toNat):=by rw[←B9,kh]
  rw[h,show t.toNat*1=(cK (V.take t.toNat)).length by rw[FV,ea];omega,List.drop_left,Rl rfl]
 refine bp (f:=197) Tryz.func197 rfl rfl rfl rfl ?_;(repeat first|refine dd ?_|refine fs ?_|(with_reducible apply Ik);(iterate 4 rfl);(assumption);(assumption);(assumption);(assumption);(assumption);rfl|(with_reducible apply Il);(iterate 5 rfl);(assumption);(assumption);(assumption);(assumption);(assumption);(assumption);rfl)
 ((refine bk rfl (aX rfl aM) ?_))
 exact ag.aU.refl _
theorem RH:WQ:=by
 intro V D aa hd;have HR:=TD (LL:=[V]) (by show 1≤1100;decide) (by simp;omega);have HS:=TC (LL:=[D]) (by show 1≤1100;decide) (by simp;omega);rw[show [V].flatten=V by simp] at HR;rw[show [D].flatten=D by simp] at HS
 replace HR:aP ah 217 [cE 1 1 [.p (b4 2 V.length (bZ V))]] (fD V):=HR
 replace HS:aP ah 218 [cE 1 1 [.p (b4 1 D.length (cK D))]] (lH D):=HS
 refine bp (f:=155) Tryz.func155 rfl rfl rfl rfl ?_;(refine cI ?_)
 ((refine bk rfl (c7 rfl rfl rfl aM) ?_))
 exact ag.aU.refl _
theorem amd{xs ys:List bG}(al:xs.length=ys.length)(h:∀(i:Nat) x y,xs[i]?=some x→ys[i]?=some y→ag.aU (.w x) (.w y)):ag.aU (.cl xs) (.cl ys):=fun U ad W v hv=>by
 obtain⟨vs,e,aA,aZ⟩:=hv
 exact⟨vs,e,by rw[←al];exact aA,fun i y u ai hu=>by
  have hi:i<xs.length:=by rw[al];exact(bt.1 ai).1
  exact h i _ y (bE hi) ai U ad W u (aZ i _ u (bE hi) hu)⟩
theorem abd:ag.aU (.cl [.agg [.c (.slice none 0 0),.c (.slice none 0 0)],.one (.c (.bool false))]) (.cl [.agg (xn [] []),.one (.c (.bool false))]):=amd rfl fun i x y ab ai=>by
 match i with
 | 0=>cases ab;cases ai;exact ZU
 | 1=>cases ab;cases ai;exact ag.aU.refl _
 | i+2=>simp at ab
theorem alL{V l:List aq}{D:List Int}{j:Nat}(aa:V.length≤1100)(hd:D.length≤1100)(af:j≤1100)
  (cs:(j:Int)≥D.length∨(¬(j:Int)≥D.length∧(j:Int)≥(V.length:Int)-1)∨(¬(j:Int)≥D.length∧¬(j:Int)≥(V.length:Int)-1∧(l.length:Int)=0)):aP ah 139 [oF V D,aL j,fD l] (.cl [.agg (xn [] []),.one (.c (.bool false))]):=by
 have c5:¬(j:Int)<0:=by omega
 generalize (j:Int)=dB at *;rcases cs with q1|⟨q1,q2⟩|⟨q1,q2,q3⟩
 all_goals
  refine bp (f:=139) Tryz.func139 rfl rfl rfl rfl ?_;(repeat first|refine dd ?_|(with_reducible apply bT (c:=true));rfl;rfl;(exact b5 (by omega))|(with_reducible apply bT (c:=false));rfl;rfl;(exact b8 (by omega)))
  ((refine bk rfl (c7 rfl rfl rfl (aX rfl aM)) ?_))
  exact abd
theorem alM{V l:List aq}{D:List Int}{j:Nat}{dB pZ:Int}(k0:dB=j)(sw:D[j]?=some pZ)(Qg:1≤pZ∧pZ≤1048576)(al:0<l.length)(e3:V.length=D.length+1)(aa:V.length≤1100)(Qd:l.length≤1100):aP ah 139 [oF V D,aL dB,fD l] (.cl [.agg (xn (Hd V j l) (Db D j l.length)),.one (.c (.bool true))]):=by
 have Fy:j<D.length:=(bt.1 sw).1;have c5:¬dB<0:=by omega
 have q1:¬dB≥D.length:=by omega
 have q2:¬dB≥(V.length:Int)-1:=by omega
 have q3:¬(l.length:Int)=0:=by omega
 have q4:dB<(D.length:Int):=by omega
 have hh:=tY k0 sw;have fL:=ail (d:=pZ+1) (m:=l.length+1) (by omega) (by omega);have gH:=ai1 (V:=V) (l:=l) (f:=dB+1) (t:=dB+1) (by omega) (by omega) (by omega) (by omega);have XL:=ai0 (V:=D) (l:=List.replicate (l.length+1) (pZ+1)) (f:=dB) (t:=dB+1) (by omega) (by omega) (by omega) (by rw[List.length_replicate];omega);have aH:(dB+1).toNat=j+1:=by omega
 have aN:dB.toNat=j:=by omega
 have ck:D.getD j 0=pZ:=by simp[List.getD,sw]
 have eg:D.take j++List.replicate (l.length+1) (pZ+1)++D.drop (j+1)=Db D j l.length:=by unfold Db;rw[ck]
 have jh:V.take (j+1)++l++V.drop (j+1)=Hd V j l:=rfl;rw[aH,jh] at gH;rw[aH,aN,eg] at XL;have p5:(((l.length+1:Nat):Int))=(l.length:Int)+1:=by omega
 rw[p5] at fL;clear aH aN ck eg jh p5;generalize Hd V j l=ND at *;generalize Db D j l.length=x6 at *;generalize List.replicate (l.length+1) (pZ+1)=T at *;refine bp (f:=139) Tryz.func139 rfl rfl rfl rfl ?_;(repeat first|refine dd ?_|refine fs ?_|refine uE gH ?_|(with_reducible apply bT (c:=false));rfl;rfl;(exact b8 (by omega)))
 ((refine bk rfl (c7 rfl rfl rfl (aX rfl aM)) ?_))
 exact ag.aU.refl _
theorem afo:WZ:=by
 intro V D j l mM aa Qd af oK;cases al:l with
 | nil=>exact alL (V:=V) (D:=D) (l:=[]) (j:=j) (by omega) (by omega) (by omega) (.inr (.inr ⟨by omega,by omega,rfl⟩))
 | cons p m =>
  rw[←al];have e:l.isEmpty=false:=by rw[al];rfl
  rw[e];have oe:0<l.length:=by rw[al];exact gE _
  obtain⟨pZ,sw⟩:∃pZ,D[j]?=some pZ:=⟨_,bE af⟩;exact alM (V:=V) (l:=l) (D:=D) (j:=j) rfl sw (oK pZ (cN sw)) oe mM aa Qd
theorem ZV(V:List aq):ag.aU (.w (.agg [.p (b4 2 V.length (bZ V)),.c (.slice none 0 0)])) (oF V []):=D8 rfl fun j x y ab ai=>by
 match j with
 | 0=>cases ab;cases ai;exact .inl rfl
 | 1=>cases ab;cases ai;exact .inr ⟨rfl,1,rfl⟩
 | j+2=>simp at ab
theorem afi:WT:=by
 intro x y z w;cases aj:dK x y z w with
 | true =>
  obtain⟨rfl,rfl⟩:=q6.1 aj;rw[show xv (x,y) (x,y)=[(x,y)] from if_pos rfl,show xu (x,y) (x,y)=[] from if_pos rfl];refine bp (f:=191) Tryz.func191 rfl rfl rfl rfl ?_;(refine eI ?_)
  ((refine bk rfl (c7 rfl rfl rfl aM) ?_))
  exact ZV [(x,y)]
 | false =>
  have aA:¬((x,y):aq)=(z,w):=fun e=>by
   have:=q6.2 (⟨congrArg Prod.fst e,congrArg Prod.snd e⟩:x=z∧y=w);rw[aj] at this;cases this
  rw[show xv (x,y) (z,w)=[(x,y),(z,w)] from if_neg aA,show xu (x,y) (z,w)=[1] from if_neg aA];refine bp (f:=191) Tryz.func191 rfl rfl rfl rfl ?_;(refine eI ?_)
  ((refine bk rfl (c7 rfl rfl rfl aM) ?_))
  exact ag.aU.refl _
def W7(V:List aq)(D:List Int)(n:Nat)(az:List (Nat×ag))(aS:List (Nat×List AC)):Prop :=
 ∃(k:Nat) (dc d:Int),k≤D.length∧n=D.length-k∧dc=k∧d=mI (D.take k)∧aS=[(1,xn V D)]∧az=[(1,V8 1),(3,aL d),(7,cE 1 D.length (cK D)),(8,aL D.length),(9,aL dc)]
theorem aaA{D:List Int}{k:Nat}{d:Int}(h:D[k]?=some d):mI (D.take (k+1))=max (mI (D.take k)) d:=by
 have ae:=(bt.1 h).1
 have e:D.take (k+1)=D.take k++[d]:=by
  rw[kJ ae,(bt.1 h).2]
 unfold mI;rw[e,List.foldl_append];rfl
theorem RI:M6:=by
 intro V D aa hd;refine bp (f:=76) Tryz.func76 rfl rfl rfl rfl ?_;(refine eI ?_);refine oI 18 (W7 V D) D.length _ [(1,xn V D)] ⟨0,0,0,dq _,rfl,rfl,rfl,rfl,rfl⟩ rfl ⟨rfl,rfl,rfl,rfl,rfl,trivial⟩ ⟨rfl,trivial⟩ rfl ?_;rintro n az aS ⟨k,dc,d,ae,rfl,jk,nz,rfl,rfl⟩ bC;clear bC
 by_cases aj:k<D.length
 ·have q2:dc<(D.length:Int):=by omega
  have q3:0≤dc:=by omega
  obtain⟨e,g1⟩:∃e,D[k]?=some e:=⟨_,bE aj⟩;have hh:=tY jk g1;have aC:=aaA g1;rw[←nz,show max d e=if e>d then e else d by split <;> omega] at aC;(refine eI ?_);exact⟨D.length-(k+1),_,[(1,xn V D)],by omega,⟨k+1,dc+1,_,by omega,rfl,by omega,aC.symm,rfl,rfl⟩,rfl,⟨rfl,rfl,rfl,rfl,rfl,trivial⟩,⟨rfl,trivial⟩,rfl⟩
 ·have q2:¬dc<(D.length:Int):=by omega
  have cz:D.take k=D:=gp (by omega);rw[cz] at nz;rw[←nz];(refine eI ?_)
  ((refine bk rfl (aX rfl aM) ?_))
  exact ag.aU.refl _
theorem VU{α:Type}{D E:List α}{k:Nat}{d e:α}(h:D.take k=E.take k)(g1:D[k]?=some d)(g2:E[k]?=some e):(d=e→D.take (k+1)=E.take (k+1))∧(d≠e→D≠E):=by
 refine⟨fun hd => ?_,fun hd e3=>hd ?_⟩
 ·rw[kJ (bt.1 g1).1,kJ (bt.1 g2).1,(bt.1 g1).2,(bt.1 g2).2,h,hd]
 ·rw[e3,g2] at g1;exact(lD g1).symm
def Xb(D E:List Int)(n:Nat)(az:List (Nat×ag))(aS:List (Nat×List AC)):Prop :=
 ∃(k:Nat) (dc:Int),k≤D.length∧n=D.length-k∧dc=k∧D.take k=E.take k∧aS=[]∧az=[(0,lH D),(1,lH E),(12,aL D.length),(13,aL dc)]
theorem ah2{D E:List Int}(hd:D.length≤1000000):aP ah 161 [lH D,lH E] (bl (decide (D=E))):=by
 by_cases al:(D.length:Int)=E.length
 ·have adH:D.length=E.length:=by omega
  refine bp (f:=161) Tryz.func161 rfl rfl rfl rfl ?_;(refine eI ?_);refine oI 26 (Xb D E) D.length _ [] ⟨0,0,dq _,rfl,rfl,rfl,rfl,rfl⟩ rfl ⟨rfl,rfl,rfl,rfl,trivial⟩ trivial rfl ?_;rintro n az aS ⟨k,dc,ae,rfl,jk,nz,rfl,rfl⟩ bC;clear bC
  by_cases aj:k<D.length
  ·have q2:dc<(D.length:Int):=by omega
   have q3:0≤dc:=by omega
   have q4:dc<(E.length:Int):=by omega
   obtain⟨d,g1⟩:∃d,D[k]?=some d:=⟨_,bE aj⟩;obtain⟨e,g2⟩:∃e,E[k]?=some e:=⟨_,bE (by omega)⟩;have hh:=tY jk g1;have we:=tY jk g2;have st:=VU nz g1 g2
   by_cases he:d=e
   ·have aC:=st.1 he;(refine eI ?_);exact⟨D.length-(k+1),_,[],by omega,⟨k+1,dc+1,by omega,rfl,by omega,aC,rfl,rfl⟩,rfl,⟨rfl,rfl,rfl,rfl,trivial⟩,trivial,rfl⟩
   ·rw[b8 (st.2 he)];(refine eI ?_)
    ((refine bk rfl (aX rfl aM) ?_))
    exact ag.aU.refl _
  ·have q2:¬dc<(D.length:Int):=by omega
   rw[gp (by omega),gp (by omega)] at nz;rw[b5 nz];(refine eI ?_)
   ((refine bk rfl (aX rfl aM) ?_))
   exact ag.aU.refl _
 ·rw[b8 (show ¬D=E from fun e=>al (by rw[e]))];refine bp (f:=161) Tryz.func161 rfl rfl rfl rfl ?_;(refine eI ?_)
  ((refine bk rfl (aX rfl aM) ?_))
  exact ag.aU.refl _
def Xc(D E:List aq)(n:Nat)(az:List (Nat×ag))(aS:List (Nat×List AC)):Prop :=
 ∃(k:Nat) (dc:Int),k≤D.length∧n=D.length-k∧dc=k∧D.take k=E.take k∧aS=[]∧az=[(0,fD D),(1,fD E),(12,aL D.length),(13,aL dc)]
theorem LB{D E:List aq}(hd:D.length≤1000000):aP ah 93 [fD D,fD E] (bl (decide (D=E))):=by
 by_cases al:(D.length:Int)=E.length
 ·have adH:D.length=E.length:=by omega
  refine bp (f:=93) Tryz.func93 rfl rfl rfl rfl ?_;(refine eI ?_);refine oI 26 (Xc D E) D.length _ [] ⟨0,0,dq _,rfl,rfl,rfl,rfl,rfl⟩ rfl ⟨rfl,rfl,rfl,rfl,trivial⟩ trivial rfl ?_;rintro n az aS ⟨k,dc,ae,rfl,jk,nz,rfl,rfl⟩ bC;clear bC
  by_cases aj:k<D.length
  ·have q2:dc<(D.length:Int):=by omega
   have q3:0≤dc:=by omega
   have q4:dc<(E.length:Int):=by omega
   obtain⟨x,y,g1⟩:∃x y,D[k]?=some (x,y):=⟨_,_,bE aj⟩;obtain⟨z,w,g2⟩:∃z w,E[k]?=some (z,w):=⟨_,_,bE (by omega)⟩;have hh:=oR jk g1;have we:=oR jk g2;have st:=VU nz g1 g2;cases he:dK x y z w with
   | true =>
    have aC:=st.1 (by obtain⟨rfl,rfl⟩:=q6.1 he;rfl);(refine eI ?_);exact⟨D.length-(k+1),_,[],by omega,⟨k+1,dc+1,by omega,rfl,by omega,aC,rfl,rfl⟩,rfl,⟨rfl,rfl,rfl,rfl,trivial⟩,trivial,rfl⟩
   | false =>
    rw[b8 (st.2 fun e=>by
     have:=q6.2 (⟨congrArg Prod.fst e,congrArg Prod.snd e⟩:x=z∧y=w);rw[he] at this;cases this)]
    (refine eI ?_)
    ((refine bk rfl (aX rfl aM) ?_))
    exact ag.aU.refl _
  ·have q2:¬dc<(D.length:Int):=by omega
   rw[gp (by omega),gp (by omega)] at nz;rw[b5 nz];(refine eI ?_)
   ((refine bk rfl (aX rfl aM) ?_))
   exact ag.aU.refl _
 ·rw[b8 (show ¬D=E from fun e=>al (by rw[e]))];refine bp (f:=93) Tryz.func93 rfl rfl rfl rfl ?_;(refine eI ?_)
  ((refine bk rfl (aX rfl aM) ?_))
  exact ag.aU.refl _
theorem afn:WY:=by
 intro V W D E h1 h2 ar aJ;have a8:=LB (D:=V) (E:=W) (by omega);have bL:=ah2 (D:=D) (E:=E) (by omega);generalize decide (V=W)=p1 at *;generalize decide (D=E)=p2 at *;cases p1 with
 | false =>
  refine bp (f:=95) Tryz.func95 rfl rfl rfl rfl ?_;(refine cI ?_)
  ((refine bk rfl (aX rfl aM) ?_))
  exact ag.aU.refl _
 | true =>
  refine bp (f:=95) Tryz.func95 rfl rfl rfl rfl ?_;(refine cI ?_)
  ((refine bk rfl (aX rfl aM) ?_))
  exact ag.aU.refl _
def n4(r:Int)(L:List aq)(x y:Int):List aq:=if 0≤hy L x y then L else if r≤(L.length:Int) then L else L++[(x,y)]
def kR(r:Int)(L:List aq)(x y:Int):Bool:=if 0≤hy L x y then false else if r≤(L.length:Int) then false else true
def n3(r:Int)(L:List aq)(x y:Int):Int:=if 0≤hy L x y then 0 else if r≤(L.length:Int) then 90 else 0
theorem sP{L:List aq}{x y:Int}:0≤hy L x y↔(x,y)∈L:=by
 unfold hy;cases h:L.findIdx? fun e=>decide (e.1=x)&&decide (e.2=y) with
 | none =>
  rw[List.findIdx?_eq_none_iff] at h;refine⟨fun aK=>absurd aK (by decide),fun aK => ?_⟩;have:=h _ aK;simp at this
 | some k =>
  obtain⟨ae,h1,_⟩:=List.findIdx?_eq_some_iff_getElem.1 h;simp only[ef,cU] at h1;refine⟨fun _ => ?_,fun _=>Int.natCast_nonneg k⟩;have:L[k]=(x,y):=Prod.ext h1.1 h1.2;rw[←this];exact List.getElem_mem ae
abbrev As:=Int→List aq→Value→dY→Prop
def WU(r7:As):Prop:=∀n:Int,H6 ah 60 [aL n] fun p S=>∃b,p=bJ b∧r7 (rK n) [] p S
def WO(r7:As):Prop:=∀(r:Int) L b S (x y:Int),r7 r L (bJ b) S→L.length≤1100→yj ah 146 [aQ (bJ b),bn x y] (bJ b) S fun v S'=>v = .cl [.one (.c (.bool (kR r L x y))),.one (.c (.int .i64 (n3 r L x y)))]∧r7 r (n4 r L x y) (bJ b) S'
def WX(r7:As):Prop:=∀(r:Int) L b S,r7 r L (bJ b) S→L.length≤1100→yj ah 62 [aQ (bJ b)] (bJ b) S fun v S'=>v=aL r∧r7 r L (bJ b) S'
def WV(r7:As):Prop:=∀(r:Int) L b S (x y:Int),r7 r L (bJ b) S→L.length≤1100→yj ah 203 [aQ (bJ b),bn x y] (bJ b) S fun v S'=>∃k:Int,v = .cl [.one (.c (.int .i64 k)),.one (.c (.bool (decide (0≤hy L x y))))]∧(0≤hy L x y→k=hy L x y)∧r7 r L (bJ b) S'
end Go.Proofs.YtklpfooafbjnpaaGreat
namespace Go.Proofs.YtklpfooafbjnpaaGreat
def fq(l:List dL)(x y:Int):Nat:=(vH l x y).length
theorem TZ(l:List dL)(x y:Int):fq l x y≤l.length:=ajK l x y
theorem zq:∀ {l:List dL} (h:lp l) (x y:Int) (k:Nat) (e:dL),l[k]?=some e→(k<fq l x y↔nK e.1 e.2.1 x y=true)
 | [],_,_,_,k,e,ae=>by simp at ae
 | f::l,h,x,y,k,e,ae=>by
  have ak:=ki.1 h
  by_cases au:nK f.1 f.2.1 x y=true
  ·have hp:fq (f::l) x y=fq l x y+1:=by
    unfold fq vH;rw[List.filter_cons,if_pos au];rfl
   rw[hp];cases k with
   | zero=>simp at ae;subst ae;simp[au]
   | succ k =>
    have:=zq ak.2 x y k e (by simpa using ae);rw[←this];omega
  ·have dw:∀g∈f::l,¬nK g.1 g.2.1 x y=true:=by
    intro g aw;rcases fi.1 aw with rfl|aw
    ·exact au
    ·have h1:=ak.1 g aw;rw[qs] at h1 au ⊢;omega
   have hp:fq (f::l) x y=0:=by
    unfold fq vH;rw[List.filter_eq_nil_iff.2 dw];rfl
   rw[hp];have:=dw e (cN ae);simp[this]
theorem MD{l:List dL}(h:lp l){x y:Int}:∀e∈l.take (fq l x y),nK e.1 e.2.1 x y=true:=by
 intro e he;obtain⟨k,ae⟩:=kF he;have a7:=(bt.1 ae).1;rw[ea] at a7;rw[gm (by omega)] at ae;exact(zq h x y k e ae).1 (by omega)
theorem O2{l:List dL}(h:lp l){x y:Int}:∀e∈l.drop (fq l x y),¬nK e.1 e.2.1 x y=true:=by
 intro e he;obtain⟨k,ae⟩:=kF he;rw[gR] at ae;intro a7;have:=(zq h x y _ e ae).2 a7;omega
theorem Ud{l:List dL}(h:lp l){x y:Int}:vH l x y=l.take (fq l x y):=by
 conv=>lhs;rw[←kh (fq l x y) l]
 unfold vH;rw[List.filter_append,List.filter_eq_self.2 (MD h),List.filter_eq_nil_iff.2 (O2 h),nb]
theorem Fg{l:List dL}(h:lp l){x y:Int}:iw l x y=true↔∃u,l[fq l x y]?=some (x,y,u):=by
 constructor
 ·intro aZ;unfold iw at aZ;rw[List.any_eq_true] at aZ;obtain⟨e,he,aj⟩:=aZ;simp only[ef,cU] at aj;obtain⟨k,ae⟩:=kF he;have h1:=zq h x y k e ae;have h2:¬k<fq l x y:=by rw[h1,qs];omega
  have yR:=(bt.1 ae).1;have nB:fq l x y<l.length:=by omega
  have hp:=bE nB;have ar:=zq h x y _ _ hp
  by_cases e':k=fq l x y
  ·refine⟨e.2.2,?_⟩;rw[←e',ae];exact congrArg some (Prod.ext aj.1 (Prod.ext aj.2 rfl))
  ·exfalso;have aJ:=List.pairwise_iff_getElem.1 h (fq l x y) k nB yR (by omega);have hZ:l[k]=e:=(bt.1 ae).2;rw[hZ,qs] at aJ;have bR:nK l[fq l x y].1 l[fq l x y].2.1 x y=true:=by rw[qs];omega
   have:=ar.2 bR;omega
 ·rintro⟨u,hu⟩;exact List.any_eq_true.2 ⟨_,cN hu,by simp⟩
theorem aaB{l:List dL}(h:lp l){x y:Int}(aA:iw l x y=false):∀e∈l.drop (fq l x y),nK x y e.1 e.2.1=true:=by
 intro e he;have h1:=O2 h e he
 have h2:¬(e.1=x∧e.2.1=y):=by
  rintro⟨ar,aJ⟩;have:iw l x y=true:=List.any_eq_true.2 ⟨_,oA he,by simp[ar,aJ]⟩;rw[aA] at this;cases this
 rw[qs] at *;omega
theorem Ue{l:List dL}(h:lp l){x y v:Int}(aA:iw l x y=false):uk l x y v=l.take (fq l x y)++(x,y,v)::l.drop (fq l x y):=by
 unfold uk;rw[Ud h];congr 2
 conv=>lhs;rw[←kh (fq l x y) l]
 unfold GL;rw[List.filter_append,List.filter_eq_self.2 (aaB h aA),List.filter_eq_nil_iff.2 fun e he => ?_,ur];have:=MD h e he;rw[qs] at *;omega
theorem ajL{l:List dL}(h:lp l){x y v u:Int}(hp:l[fq l x y]?=some (x,y,u)):uk l x y v=l.take (fq l x y)++(x,y,v)::l.drop (fq l x y+1):=by
 unfold uk;rw[Ud h];congr 2;have al:=(bt.1 hp).1;have he:=(bt.1 hp).2
 conv=>lhs;rw[←kh (fq l x y) l]
 unfold GL;rw[List.filter_append,List.filter_eq_nil_iff.2 (fun e he=>by have:=MD h e he;rw[qs] at *;omega),ur,jP al,he,List.filter_cons_of_neg (by rw[qs];simp)];refine List.filter_eq_self.2 fun e hm => ?_;obtain⟨k,ae⟩:=kF hm;rw[gR] at ae;have yR:=(bt.1 ae).1;have aJ:=List.pairwise_iff_getElem.1 h (fq l x y) _ al yR (by omega);rw[he,(bt.1 ae).2] at aJ;exact aJ
theorem ams{l:List dL}(h:lp l){x y u:Int}(hp:l[fq l x y]?=some (x,y,u)):iw l x y=true∧pN l x y=u:=Wa h (cN hp)
abbrev ajD(e:dL):aq:=(e.1,e.2.1)
def qq:Nat→List aq→List dL
 | _,[]=>[]
 | k,p::l=>(p.1,p.2,(k:Int))::qq (k+1) l
theorem SX:∀(k:Nat) (l:List aq) (p:aq),qq k (l++[p])=qq k l++[(p.1,p.2,((k+l.length:Nat):Int))]
 | k,[],p=>by simp[qq]
 | k,q::l,p=>by
  simp only[uo,qq,SX (k+1) l p,hP];rw[show k+1+l.length=k+(l.length+1) by omega]
theorem SY:∀(k:Nat) (l:List aq),(qq k l).map ajD=l
 | _,[]=>rfl
 | k,p::l=>by simp only[qq,hQ,SY (k+1) l]
theorem ahm(k:Nat)(l:List aq):(qq k l).length=l.length:=by
 have:=congrArg List.length (SY k l);rwa [jN] at this
theorem Lt:∀(k:Nat) (l:List aq) (x y w:Int),(x,y,w)∈qq k l↔∃i:Nat,l[i]?=some (x,y)∧w=((k+i:Nat):Int)
 | k,[],x,y,w=>by simp[qq]
 | k,p::l,x,y,w=>by
  rw[qq,fi,Lt (k+1) l x y w]
  constructor
  ·rintro (h|⟨i,h1,h2⟩)
   ·simp only[Prod.mk.injEq] at h;exact⟨0,by rw[vJ,h.1,h.2.1],by rw[h.2.2];rfl⟩
   ·exact⟨i+1,by rw[zv];exact h1,by rw[h2];omega⟩
  ·rintro⟨i,h1,h2⟩
   match i with
   | 0=>rw[vJ] at h1;cases h1;exact .inl (by rw[h2];rfl)
   | i+1=>rw[zv] at h1;exact .inr ⟨i,h1,by rw[h2];omega⟩
def pe(L:List aq)(es:List dL):Prop:=lp es∧es.Perm (qq 0 L)∧L.Nodup
theorem pe.len{L:List aq}{es:List dL}(h:pe L es):es.length=L.length:=by rw[h.2.1.length_eq,ahm]
theorem ahn{L:List aq}(aA:L.Nodup){i:Nat}{x y:Int}(h:L[i]?=some (x,y)):hy L x y=(i:Int):=by
 have aF:0≤hy L x y:=sP.2 (cN h);unfold hy at aF ⊢;cases au:L.findIdx? fun e=>decide (e.1=x)&&decide (e.2=y) with
 | none=>rw[au] at aF;exact absurd aF (by decide)
 | some k =>
  obtain⟨ae,h1,_⟩:=List.findIdx?_eq_some_iff_getElem.1 au;simp only[ef,cU] at h1;have aH:L[k]=(x,y):=Prod.ext h1.1 h1.2;obtain⟨hi,aN⟩:=bt.1 h;have:=(List.getElem_inj (h₀:=ae) (h₁:=hi) aA).1 (aH.trans aN.symm);rw[this]
theorem acE{es:List dL}{a b:Int}:iw es a b=true↔∃w,(a,b,w)∈es:=by
 unfold iw;rw[List.any_eq_true]
 constructor
 ·rintro⟨⟨p,q,w⟩,h1,h2⟩;simp only[ef,cU] at h2;exact⟨w,by rw[←h2.1,←h2.2];exact h1⟩
 ·rintro⟨w,h⟩;exact⟨_,h,by simp⟩
theorem pe.num{L:List aq}{es:List dL}(h:pe L es)(x y:Int):iw es x y=decide (0≤hy L x y)∧(0≤hy L x y→pN es x y=hy L x y):=by
 by_cases aZ:0≤hy L x y
 ·obtain⟨i,hi⟩:=kF (sP.1 aZ);have hm:(x,y,((0+i:Nat):Int))∈es:=h.2.1.mem_iff.2 ((Lt 0 L x y _).2 ⟨i,hi,rfl⟩);have h1:=Wa h.1 hm;exact⟨by rw[h1.1,b5 aZ],fun _=>by rw[h1.2,ahn h.2.2 hi,iF]⟩
 ·refine⟨?_,fun aK=>absurd aK aZ⟩;rw[b8 aZ];cases he:iw es x y with
  | false=>rfl
  | true =>
   obtain⟨w,hw⟩:=acE.1 he;obtain⟨i,hi,_⟩:=(Lt 0 L x y w).1 (h.2.1.mem_iff.1 hw);exact absurd (sP.2 (cN hi)) aZ
theorem pe.add{L:List aq}{es:List dL}(h:pe L es){x y:Int}(aA:¬ 0≤hy L x y):pe (L++[(x,y)]) (uk es x y L.length):=by
 have cA:iw es x y=false:=by rw[(h.num x y).1];exact b8 aA
 refine⟨ajM h.1 x y L.length,?_,?_⟩
 ·rw[Ue h.1 cA,SX,iF];refine List.perm_middle.trans ?_;rw[kh];refine(h.2.1.cons _).trans ?_;exact(List.perm_append_singleton _ _).symm
 ·rw[List.nodup_append];refine⟨h.2.2,by simp,fun a aV b aa e => ?_⟩;rw[jO] at aa;subst aa;subst e;exact aA (sP.2 aV)
theorem pe.nil:pe [] []:=⟨.nil,.refl _,.nil⟩
theorem Yn{r:Int}{L:List aq}{x y:Int}(h:0≤hy L x y):n4 r L x y=L∧kR r L x y=false∧n3 r L x y=0:=by unfold n4 kR n3;rw[if_pos h,if_pos h,if_pos h];exact⟨rfl,rfl,rfl⟩
theorem Ym{r:Int}{L:List aq}{x y:Int}(h:¬ 0≤hy L x y)(h2:r≤(L.length:Int)):n4 r L x y=L∧kR r L x y=false∧n3 r L x y=90:=by unfold n4 kR n3;rw[if_neg h,if_neg h,if_neg h,if_pos h2,if_pos h2,if_pos h2];exact⟨rfl,rfl,rfl⟩
theorem Yo{r:Int}{L:List aq}{x y:Int}(h:¬ 0≤hy L x y)(h2:¬r≤(L.length:Int)):n4 r L x y=L++[(x,y)]∧kR r L x y=true∧n3 r L x y=0:=by unfold n4 kR n3;rw[if_neg h,if_neg h,if_neg h,if_neg h2,if_neg h2,if_neg h2];exact⟨rfl,rfl,rfl⟩
end Go.Proofs.YtklpfooafbjnpaaGreat
namespace Go.Proofs.YtklpfooafbjnpaaGreat
open Go.RowKit
abbrev hO(v:Value)(l:List dL):bF:=⟨293,3,v,l.length,eC l⟩
end Go.Proofs.YtklpfooafbjnpaaGreat
namespace Go.Proofs.YtklpfooafbjnpaaGreat
theorem Tc{a1 a2 b1 b2 p1 p2:Int}(h:cq a1 a2 b1 b2 p1 p2=0):(b2-a2)*a1+(a1-b1)*a2=(b2-a2)*p1+(a1-b1)*p2:=by unfold cq at h;grind
theorem Te{a1 a2 b1 b2 c1 c2 d1 d2 p1 p2:Int}(h:cq a1 a2 b1 b2 p1 p2=0)(k:cq c1 c2 d1 d2 p1 p2=0) :
  k2 a1 a2 b1 b2 c1 c2 d1 d2=p1*dt a1 a2 b1 b2 c1 c2 d1 d2∧k3 a1 a2 b1 b2 c1 c2 d1 d2=p2*dt a1 a2 b1 b2 c1 c2 d1 d2:=by
 have e:=Tc h;have f:=Tc k;unfold k2 k3 dt;rw[e,f]
 constructor <;> grind
theorem Gq(p w:Int):kE (p*w) w=p*jI w:=by
 unfold kE jI
 split
 ·rw[Int.mul_neg]
 ·rfl
theorem En{p d a b:Int}(aF:hM a b≤p)(h1:p≤hL a b)(hd:0<d):l9 (p*d) d a b :=
 ⟨qB aF (by omega),qB h1 (by omega)⟩
theorem Px{a1 a2 b1 b2 c1 c2 d1 d2 p1 p2 d:Int}(h:dN p1 p2 a1 a2 b1 b2)(k:dN p1 p2 c1 c2 d1 d2)(hd:0<d):four a1 a2 b1 b2 c1 c2 d1 d2 (p1*d) (p2*d) d :=
 ⟨En h.2.1 h.2.2.1 hd,En h.2.2.2.1 h.2.2.2.2 hd,En k.2.1 k.2.2.1 hd,En k.2.2.2.1 k.2.2.2.2 hd⟩
theorem agX{a1 a2 b1 b2 c1 c2 d1 d2:Int}(h:dt a1 a2 b1 b2 c1 c2 d1 d2=0) :
  (jt a1 a2 b1 b2 c1 c2 d1 d2=iV∧∀p1 p2,dN p1 p2 a1 a2 b1 b2→¬dN p1 p2 c1 c2 d1 d2) ∨
  ∃f1 f2 g1 g2,jt a1 a2 b1 b2 c1 c2 d1 d2=xj f1 f2 g1 g2∧dP f1 f2 g1 g2∧dN f1 f2 a1 a2 b1 b2∧dN f1 f2 c1 c2 d1 d2∧dN g1 g2 a1 a2 b1 b2∧dN g1 g2 c1 c2 d1 d2
   ∧ f1=en (eX a1 a2 b1 b2) (eG a1 a2 b1 b2) (eX c1 c2 d1 d2) (eG c1 c2 d1 d2)∧f2=eh (eX a1 a2 b1 b2) (eG a1 a2 b1 b2) (eX c1 c2 d1 d2) (eG c1 c2 d1 d2)
   ∧ g1=eX (en a1 a2 b1 b2) (eh a1 a2 b1 b2) (en c1 c2 d1 d2) (eh c1 c2 d1 d2)∧g2=eG (en a1 a2 b1 b2) (eh a1 a2 b1 b2) (en c1 c2 d1 d2) (eh c1 c2 d1 d2)
   ∧ ∀p1 p2,dN p1 p2 a1 a2 b1 b2→dN p1 p2 c1 c2 d1 d2→dP f1 f2 p1 p2∧dP p1 p2 g1 g2:=by
 have hs:=y7 a1 a2 b1 b2;have aC:=y7 c1 c2 d1 d2
 have hw:qu (eX a1 a2 b1 b2) (eG a1 a2 b1 b2) (en a1 a2 b1 b2) (eh a1 a2 b1 b2) (eX c1 c2 d1 d2) (eG c1 c2 d1 d2) (en c1 c2 d1 d2) (eh c1 c2 d1 d2)=0:=by
  have h1:=Hr a1 a2 b1 b2 c1 c2 d1 d2;have h2:=Dk a1 a2 b1 b2 c1 c2 d1 d2;have ar:=Dk b1 b2 a1 a2 c1 c2 d1 d2;rw[←We];rcases oS a1 a2 b1 b2 with ⟨h1,h2,ar,aJ,_⟩|⟨h1,h2,ar,aJ,_⟩ <;> rcases oS c1 c2 d1 d2 with ⟨bD,cp,jE,lA,_⟩|⟨bD,cp,jE,lA,_⟩ <;> rw[h1,h2,ar,aJ,bD,cp,jE,lA] <;> omega
 have zN:∀p1 p2,dN p1 p2 (eX a1 a2 b1 b2) (eG a1 a2 b1 b2) (en a1 a2 b1 b2) (eh a1 a2 b1 b2)↔dN p1 p2 a1 a2 b1 b2:=fun _ _=>CE;have tO9:∀p1 p2,dN p1 p2 (eX c1 c2 d1 d2) (eG c1 c2 d1 d2) (en c1 c2 d1 d2) (eh c1 c2 d1 d2)↔dN p1 p2 c1 c2 d1 d2:=fun _ _=>CE;unfold jt;rw[if_pos h];unfold xk inl;generalize eX a1 a2 b1 b2=s1 at *;generalize eG a1 a2 b1 b2=s2 at *;generalize en a1 a2 b1 b2=bW at *;generalize eh a1 a2 b1 b2=b9 at *;generalize eX c1 c2 d1 d2=t1 at *;generalize eG c1 c2 d1 d2=t2 at *;generalize en c1 c2 d1 d2=t3 at *;generalize eh c1 c2 d1 d2=t4 at *;have key:=fun p1 p2 => @R7 s1 s2 bW b9 t1 t2 t3 t4 p1 p2 hs aC hw
 by_cases q:dN (en s1 s2 t1 t2) (eh s1 s2 t1 t2) s1 s2 bW b9∧dN (en s1 s2 t1 t2) (eh s1 s2 t1 t2) t1 t2 t3 t4
 ·right;rw[if_pos q];obtain⟨cO,cP,kN,mz,aoT,amj⟩:=key _ _ q.1 q.2;exact⟨_,_,_,_,rfl,amj,(zN _ _).1 cO,(tO9 _ _).1 cP,(zN _ _).1 kN,(tO9 _ _).1 mz,rfl,rfl,rfl,rfl,fun p1 p2 hp aj=>⟨(key p1 p2 ((zN _ _).2 hp) ((tO9 _ _).2 aj)).2.2.2.2.1,(key p1 p2 ((zN _ _).2 hp) ((tO9 _ _).2 aj)).2.2.2.2.2⟩⟩
 ·left;rw[if_neg q];exact⟨rfl,fun p1 p2 hp aj=>q ⟨(key p1 p2 ((zN _ _).2 hp) ((tO9 _ _).2 aj)).1,(key p1 p2 ((zN _ _).2 hp) ((tO9 _ _).2 aj)).2.1⟩⟩
theorem ahH{a1 a2 b1 b2 f1 f2 g1 g2 p1 p2:Int}(au:dN f1 f2 a1 a2 b1 b2)(aw:dN g1 g2 a1 a2 b1 b2)(hp:dN p1 p2 a1 a2 b1 b2)(aF:dP f1 f2 p1 p2)(h1:dP p1 p2 g1 g2):dN p1 p2 f1 f2 g1 g2:=by
 refine(xz (aF.trans h1)).2 ⟨?_,aF,h1⟩
 by_cases e:a1=b1∧a2=b2
 ·obtain⟨rfl,rfl⟩:=e;obtain⟨rfl,rfl⟩:=CD au;obtain⟨rfl,rfl⟩:=CD aw;obtain⟨rfl,rfl⟩:=CD hp;exact IE ..
 ·have a:=au.1;have b:=aw.1;have c:=hp.1;unfold cq at *;have d1:(b1-a1)*((g1-f1)*(p2-f2)-(g2-f2)*(p1-f1))=0:=by grind
  have d2:(b2-a2)*((g1-f1)*(p2-f2)-(g2-f2)*(p1-f1))=0:=by grind
  rcases uu.1 d1 with e'|e'
  ·rcases uu.1 d2 with f|f
   ·omega
   ·exact f
  ·exact e'
theorem agW(a1 a2 b1 b2 c1 c2 d1 d2:Int) :
  (jt a1 a2 b1 b2 c1 c2 d1 d2=iV∧∀p1 p2,dN p1 p2 a1 a2 b1 b2→¬dN p1 p2 c1 c2 d1 d2) ∨
  (∃x y d,jt a1 a2 b1 b2 c1 c2 d1 d2=kf x d y d∧0<d∧(d=1∨d=jI (dt a1 a2 b1 b2 c1 c2 d1 d2))∧four a1 a2 b1 b2 c1 c2 d1 d2 x y d∧∀p1 p2,dN p1 p2 a1 a2 b1 b2→dN p1 p2 c1 c2 d1 d2→x=p1*d∧y=p2*d) ∨
  (∃f1 f2 g1 g2,jt a1 a2 b1 b2 c1 c2 d1 d2=uR f1 f2 g1 g2∧¬(f1=g1∧f2=g2)∧dP f1 f2 g1 g2∧dN f1 f2 a1 a2 b1 b2∧dN f1 f2 c1 c2 d1 d2∧dN g1 g2 a1 a2 b1 b2∧dN g1 g2 c1 c2 d1 d2
   ∧ f1=en (eX a1 a2 b1 b2) (eG a1 a2 b1 b2) (eX c1 c2 d1 d2) (eG c1 c2 d1 d2)∧f2=eh (eX a1 a2 b1 b2) (eG a1 a2 b1 b2) (eX c1 c2 d1 d2) (eG c1 c2 d1 d2)
   ∧ g1=eX (en a1 a2 b1 b2) (eh a1 a2 b1 b2) (en c1 c2 d1 d2) (eh c1 c2 d1 d2)∧g2=eG (en a1 a2 b1 b2) (eh a1 a2 b1 b2) (en c1 c2 d1 d2) (eh c1 c2 d1 d2)
   ∧ ∀p1 p2,dN p1 p2 a1 a2 b1 b2→dN p1 p2 c1 c2 d1 d2→dN p1 p2 f1 f2 g1 g2):=by
 by_cases h:dt a1 a2 b1 b2 c1 c2 d1 d2=0
 ·rcases agX h with ⟨e,aA⟩|⟨f1,f2,g1,g2,e,al,cO,cP,kN,mz,v1,v2,v3,v4,hp⟩
  ·exact .inl ⟨e,aA⟩
  ·right;rw[e];unfold xj
   by_cases q:f1=g1∧f2=g2
   ·left;rw[if_pos q];refine⟨f1,f2,1,rfl,by omega,.inl rfl,?_,fun p1 p2 aV aa => ?_⟩
    ·have:=Px cO cP (d:=1) (by omega);rwa [Int.mul_one,Int.mul_one] at this
    ·obtain⟨bD,cp⟩:=hp p1 p2 aV aa;obtain⟨rfl,rfl⟩:=q;have:=dP.Eb bD cp;omega
   ·right;rw[if_neg q];exact⟨f1,f2,g1,g2,rfl,q,al,cO,cP,kN,mz,v1,v2,v3,v4,fun p1 p2 aV aa=>ahH cO kN aV (hp p1 p2 aV aa).1 (hp p1 p2 aV aa).2⟩
 ·have hd:=SS h;unfold jt;rw[if_neg h];unfold ow vw
  by_cases q:four a1 a2 b1 b2 c1 c2 d1 d2 (kE (k2 a1 a2 b1 b2 c1 c2 d1 d2) (dt a1 a2 b1 b2 c1 c2 d1 d2)) (kE (k3 a1 a2 b1 b2 c1 c2 d1 d2) (dt a1 a2 b1 b2 c1 c2 d1 d2)) (jI (dt a1 a2 b1 b2 c1 c2 d1 d2))
  ·right;left;rw[if_pos q];refine⟨_,_,_,rfl,hd,.inr rfl,q,fun p1 p2 aV aa => ?_⟩;obtain⟨aH,aN⟩:=Te aV.1 aa.1;rw[aH,aN,Gq,Gq];exact⟨rfl,rfl⟩
  ·left;rw[if_neg q];refine⟨rfl,fun p1 p2 aV aa=>q ?_⟩;obtain⟨aH,aN⟩:=Te aV.1 aa.1;rw[aH,aN,Gq,Gq];exact Px aV aa hd
end Go.Proofs.YtklpfooafbjnpaaGreat
namespace Go.Proofs.YtklpfooafbjnpaaGreat
open Go.RowKit
theorem amw{a1 a2 b1 b2 c1 c2 d1 d2:Int}(aV:c6 a1 a2=true)(aa:c6 b1 b2=true)(ak:c6 c1 c2=true)(hd:c6 d1 d2=true) : -144115188075855872≤dt a1 a2 b1 b2 c1 c2 d1 d2∧dt a1 a2 b1 b2 c1 c2 d1 d2≤144115188075855872:=by
 rw[ux] at aV aa ak hd;have m1:=Gh (x:=b2-a2) (y:=c1-d1) (by omega) (by omega) (by omega) (by omega);have m2:=Gh (x:=a1-b1) (y:=d2-c2) (by omega) (by omega) (by omega) (by omega);unfold dt;omega
theorem Ot{n d a b:Int}(h:l9 n d a b)(a0 : -134217728≤a)(a1:a≤134217728)(iP : -134217728≤b)(b1:b≤134217728)(d0:0≤d)(d1:d≤144115188075855872) : -19342813113834066795298816≤n∧n≤19342813113834066795298816:=by
 obtain⟨aF,h1⟩:=h;have i0 : -134217728≤hM a b∧hM a b≤134217728:=by unfold hM;split <;> omega
 have i1 : -134217728≤hL a b∧hL a b≤134217728:=by unfold hL;split <;> omega
 have m0:=Ei i0.1 i0.2 (show -144115188075855872≤d by omega) d1;have m1:=Ei i1.1 i1.2 (show -144115188075855872≤d by omega) d1;omega
def DE(M:fW):Prop:=(M=iV)∨(∃x y d,M=kf x d y d∧0<d∧d≤144115188075855872∧(-19342813113834066795298816≤x∧x≤19342813113834066795298816)∧(-19342813113834066795298816≤y∧y≤19342813113834066795298816))∨(∃f1 f2 g1 g2,M=uR f1 f2 g1 g2)
theorem abT{a1 a2 b1 b2 c1 c2 d1 d2 x y d:Int}(aV:c6 a1 a2=true)(aa:c6 b1 b2=true)(ak:c6 c1 c2=true)(hd:c6 d1 d2=true)(aF:0<d)(h1:d=1∨d=jI (dt a1 a2 b1 b2 c1 c2 d1 d2))(au:four a1 a2 b1 b2 c1 c2 d1 d2 x y d) :
  d≤144115188075855872∧(-19342813113834066795298816≤x∧x≤19342813113834066795298816)∧(-19342813113834066795298816≤y∧y≤19342813113834066795298816):=by
 have cQ:=amw aV aa ak hd;rw[ux] at aV aa
 have tM:d≤144115188075855872:=by
  rcases h1 with rfl|rfl
  ·omega
  ·unfold jI;split <;> omega
 exact⟨tM,Ot au.1 aV.1.1 aV.1.2 aa.1.1 aa.1.2 (by omega) tM,Ot au.2.1 aV.2.1 aV.2.2 aa.2.1 aa.2.2 (by omega) tM⟩
theorem agx(a1 a2 b1 b2 c1 c2 d1 d2:Int):DE (sL a1 a2 b1 b2 c1 c2 d1 d2):=by
 unfold sL
 by_cases h:(c6 a1 a2&&c6 b1 b2&&c6 c1 c2&&c6 d1 d2)=true
 ·rw[if_pos h];simp only[ef] at h;rcases agW a1 a2 b1 b2 c1 c2 d1 d2 with ⟨e,_⟩|⟨x,y,d,e,aF,h1,au,_⟩|⟨f1,f2,g1,g2,e,_⟩
  ·exact .inl e
  ·exact .inr (.inl ⟨x,y,d,e,aF,abT h.1.1.1 h.1.1.2 h.1.2 h.2 aF h1 au⟩)
  ·exact .inr (.inr ⟨f1,f2,g1,g2,e⟩)
 ·rw[if_neg h];exact .inl rfl
end Go.Proofs.YtklpfooafbjnpaaGreat
namespace Go.Proofs.YtklpfooafbjnpaaGreat
open Go.RowKit
open Go.Conc
structure jc where
 cap:Nat
 buf:List Value
 shut:Bool
 ns:Nat
 Cz:Nat
def jc.obj(eQ:jc):Obj := .chan eQ.cap eQ.buf.toArray eQ.shut eQ.ns eQ.Cz false
abbrev lJ:=Option (Nat×Obj)
def Xl(g:lJ)(aG:cV)(aO:Nat→Prop)(du:cV)(dC:Nat→Prop):Prop:=match g with
 | none=>du=aG∧dC=aO
 | some (c,eQ)=>(∀b,aG.F b→du.F b)∧du.F c∧¬aG.F c∧(∀b,dC b→aO b)∧¬dC c∧du.N=aG.N∧du.marks=aG.marks∧du.W.heap[c]?=some eQ∧eR aG du.W
def fU(g:lJ)(aG:cV)(aO:Nat→Prop)(R:aE)(s:aB)(a:Act)(w:World):Prop:=∃du dC,Xl g aG aO du dC∧il du dC R s a w
section
variable{P:Program}{aG du:cV}{aO dC A:Nat→Prop}{R ap:aE}{s s':aB}{a a':Act}{w w':World}{ad:Nat→Nat}{g:lJ}
theorem eR.comp(h:eR du w)(aF:eR aG du.W)(au:∀b,aG.F b→du.F b):eR aG w :=
 ⟨h.os.trans aF.os,h.tape.trans aF.tape,h.output.trans aF.output,eO aF.size h.size,fun b q=>(h.block b (au b q)).trans (aF.block b q)⟩
theorem fU.shut(aeo:∀b,¬aG.F b→aO b)(h:fU g aG aO R s a w):il aG aO R s a w:=by
 have B0:∀b,aG.W.heap.size≤b→aO b:=fun b q=>aeo b fun z=>absurd (aG.lt b z) (Nat.not_lt.2 q);obtain⟨du,dC,aw,A,ad,an⟩:=h;cases g with
 | none=>obtain⟨rfl,rfl⟩:=aw;exact⟨A,ad,an⟩
 | some x =>
  obtain⟨c,eQ⟩:=x;obtain⟨hF,_,_,cr,_,gg,hm,_,aa⟩:=aw;have e:h0 aG s ad w=h0 du s ad w:=by unfold h0;rw[hm]
  refine⟨A,ad,B0,fun b q=>cr b (an.sub b q),by rw[e];exact an.rel,fun k cs ae q=>an.hN k cs ae (hF _ q),an.below.comp aa hF,fun i r hi=>⟨(an.rows i r hi).ok,(an.rows i r hi).gX,(an.rows i r hi).own⟩,an.apart,fun i r g hi q=>⟨fun z=>(an.hot i r g hi q).1 (hF _ z),cr _ (an.hot i r g hi q).2⟩,fun k b ae=>an.fN k b (by rw[gg];exact ae)⟩
theorem fU.turn{c:Nat}{eQ Dq:Obj}(h:fU (some (c,eQ)) aG aO R s a w):fU (some (c,Dq)) aG aO R s a {w with heap:=w.heap.setIfInBounds c Dq}:=by
 obtain⟨du,dC,⟨hF,ak,vh,cr,Qe,gg,hm,ab,aa⟩,A,ad,an⟩:=h;have ct:c<du.W.heap.size:=du.lt c ak;have aA:∀b,b≠c→∀H:Array Obj,(H.setIfInBounds c Dq)[b]?=H[b]?:=fun b q H=>CO (Ne.symm q);have Ke:¬A c:=fun q=>Qe (an.sub c q)
 let w1:World:={w with heap:=w.heap.setIfInBounds c Dq}
 let li:cV:={du with W:={du.W with heap:=du.W.heap.setIfInBounds c Dq},lt:=fun b q=>by simpa using du.lt b q}
 have cX:∀b,s.free A ad b→b<w.heap.size→s.free A ad b∧w1.heap[b]?=w.heap[b]?:=fun b q _=>⟨q,aA b (fun e=>Ke (by rw[←e];exact q.1)) _⟩;refine⟨li,dC,⟨hF,ak,vh,cr,Qe,gg,hm,by simp[li,ct],⟨aa.os,aa.tape,aa.output,by simpa [li] using aa.size,fun b q => ?_⟩⟩,A,ad,?_⟩
 ·exact(aA b (fun e=>vh (by rw[←e];exact q)) _).trans (aa.block b q)
 ·have QA:∀k cs,s.mem k=some cs→ad k≠c:=fun k cs ae e=>an.hN k cs ae (by rw[e];exact ak);refine⟨fun b q=>an.up b (by simpa [li] using q),an.sub,?_,an.hN,⟨an.below.os,an.below.tape,an.below.output,by simpa [li] using an.below.size,fun b q => ?_⟩,fun i r hi => ?_,an.apart,an.hot,an.fN⟩
  ·refine⟨an.rel.kD,an.rel.size,fun t av aC => ?_,fun k cs ae => ?_,an.rel.inj,⟨rfl,rfl,rfl,cF _,fun _ _=>rfl⟩,fun b q=>an.rel.up b (by simpa [h0] using q),lR s ad _⟩
   ·obtain⟨v,h1,h2⟩:=an.rel.dp t av aC;exact⟨v,h1,h2.map cX fun _ _=>rfl⟩
   ·obtain⟨vs,ty,h1,h2,ar⟩:=an.rel.c4 k cs ae;exact⟨vs,ty,(aA _ (QA k cs ae) _).trans h1,h2.map cX fun _ _ _ _=>rfl,fun q=>ar ⟨by simpa [h0] using q.1,q.2⟩⟩
  ·by_cases e:b=c
   ·subst e;have h1:b<w.heap.size:=jM ct an.below.size;simp[li,ct,h1]
   ·exact(aA b e _).trans ((an.below.block b q).trans (aA b e _).symm)
  ·have aD:=an.rows i r hi;refine⟨aD.ok.kept aD.gX (fun g q=>aA g (fun e=>(an.hot i r g hi q).1 (by rw[e];exact ak)) _) (by simp) cX,aD.gX,aD.own⟩
theorem fU.look{c:Nat}{eQ:Obj}(h:fU (some (c,eQ)) aG aO R s a w):w.heap[c]?=some eQ:=by
 obtain⟨du,dC,⟨_,ak,_,_,_,_,_,ab,_⟩,A,ad,an⟩:=h;exact(an.below.block c ak).trans ab
def jd(P:Program)(x:Code)(Q:Exit→lJ→aE→aB→Prop)(g:lJ)(R:aE)(s:aB):Prop :=
 s.bQ→∀aG aO a w,(∀b,¬aG.F b→aO b)→fU g aG aO R s a w→nJ P x (fun e a' w'=>∃c3 ap s',s'.bQ∧fU c3 aG aO ap s' a' w'∧Q e c3 ap s') a w
variable{Q:Exit→lJ→aE→aB→Prop}{x y:Code}
theorem Bc(h:e2 P x (fun e R s=>Q e g R s) R s):jd P x Q g R s:=by
 rintro ok aG aO a w hu ⟨du,dC,aw,an⟩;refine xr (SD (h ok du dC a w an).top) ?_;rintro e a' w' ⟨ap,s',bV,bu,aj⟩;exact⟨g,ap,s',bV,⟨du,dC,aw,bu⟩,aj⟩
theorem Mc{Q:Exit→aE→aB→Prop}(h:jd P x (fun e _ R s=>Q e R s) none R s):H4 P x Q R s:=by
 intro ok aG aO a w hu an;refine xr (h ok aG aO a w hu ⟨aG,aO,⟨rfl,rfl⟩,an⟩) ?_;rintro e a' w' ⟨c3,ap,s',bV,bu,aj⟩;exact⟨ap,s',bV,bu.shut hu,aj⟩
def Be(next:lJ→aE→aB→Prop)(Q:Exit→lJ→aE→aB→Prop):Exit→lJ→aE→aB→Prop
 | .normal,g,R,s=>next g R s
 | e,g,R,s=>Q e g R s
def Bd(id:Nat)(Q:Exit→lJ→aE→aB→Prop):Exit→lJ→aE→aB→Prop
 | .exit iB,g,R,s=>bif Nat.beq iB id then Q .normal g R s else Q (.exit iB) g R s
 | e,g,R,s=>Q e g R s
theorem n9(h:jd P x (Be (fun g R s=>jd P y Q g R s) Q) g R s):jd P (.seq x y) Q g R s:=by
 intro ok aG aO a w hu cb;refine ag4 (xr (h ok aG aO a w hu cb) ?_);rintro x a' w' ⟨c3,ap,s',bV,hI,aj⟩;cases x <;> first|exact aj bV aG aO a' w' hu hI|exact⟨c3,ap,s',bV,hI,aj⟩
theorem va{id:Nat}(h:jd P x (Bd id Q) g R s):jd P (.block id x) Q g R s:=by
 intro ok aG aO a w hu cb;refine ag0 (xr (h ok aG aO a w hu cb) ?_);rintro x a' w' ⟨c3,ap,s',bV,hI,aj⟩;cases x with
 | exit iB =>
  simp only[Exit.inBlock];simp only[Bd] at aj;cases aa:Nat.beq iB id with
  | true=>rw[aa] at aj;rw[if_pos (gl aa)];exact⟨c3,ap,s',bV,hI,aj⟩
  | false =>
   rw[aa] at aj;have:iB≠id:=fun e=>by subst e;rw[qz] at aa;cases aa
   rw[if_neg this];exact⟨c3,ap,s',bV,hI,aj⟩
 | _=>exact⟨c3,ap,s',bV,hI,aj⟩
theorem fU.rr(h:fU g aG aO R s a w):∃du dC,il du dC R s a w:=let ⟨du,dC,_,h⟩:=h;⟨du,dC,h⟩
theorem PG{c:Operand}{b:Bool}(ak:s.look c=some (bl b))(h1:b=true→jd P x Q g R s)(aF:b=false→jd P y Q g R s):jd P (.cond c x y) Q g R s:=by
 intro ok aG aO a w hu ey;obtain⟨_,_,A,ad,an⟩:=ey.rr;refine ag1 (an.rel.look ak).1 ?_;cases b with
 | true=>exact h1 rfl ok aG aO a w hu ey
 | false=>exact aF rfl ok aG aO a w hu ey
theorem Jh{c:Operand}{b:Bool}(ak:s.look c=some (bl b))(aa:b=true)(h1:jd P x Q g R s):jd P (.cond c x y) Q g R s:=PG ak (fun _=>h1) fun e=>by rw[aa] at e;cases e
theorem Jg{c:Operand}{b:Bool}(ak:s.look c=some (bl b))(aa:b=false)(aF:jd P y Q g R s):jd P (.cond c x y) Q g R s:=PG ak (fun e=>by rw[aa] at e;cases e) fun _=>aF
theorem fU.le(h:fU g aG aO R s a w)(K1:bd ap R):fU g aG aO ap s a w:=let ⟨du,dC,aw,A,ad,h⟩:=h;⟨du,dC,aw,A,ad,h.le K1⟩
theorem fU.ql(h:fU g aG aO R s a w)(l:s.aU s'):fU g aG aO R s' a w:=let ⟨du,dC,aw,A,ad,h⟩:=h;⟨du,dC,aw,A,ad,h.ql l⟩
theorem Ji(N:Nat)(I:Nat→lJ→aE→List (Nat×ag)→List (Nat×List AC)→Prop)(k:Nat)(R0:aE)(az:List (Nat×ag))(aS:List (Nat×List AC))(bh:I k g R0 az aS)(al:bd R0 R)(aA:N=s.n)(aC:hY s.tmps az)(hm:hY s.mem aS)(bC:okB az aS=true)
  (round:∀k g R az aS,I k g R az aS→okB az aS=true→jd P x (Be (fun c3 ap s'=>∃k' ll hE ht,k'<k∧I k' c3 ll hE ht∧bd ll ap∧N=s'.n∧hY s'.tmps hE∧hY s'.mem ht∧okB hE ht=true) Q) g R (ei N az aS)):jd P (.loop x) Q g R s:=by
 intro ok aG aO a w hu ey;refine ag2 (fun k a w=>∃g R az aS,I k g R az aS∧okB az aS=true∧fU g aG aO R (ei N az aS) a w) (n:=k) ⟨g,R0,az,aS,bh,bC,(ey.le al).ql (rq aA aC hm)⟩ ?_;rintro k a w ⟨g,R,az,aS,bh,ok,cb⟩;refine xr (round k g R az aS bh ok (rs ok) aG aO a w hu cb) ?_;rintro x a' w' ⟨c3,ap,s',bV,hI,aj⟩;cases x with
 | normal =>
  obtain⟨k',ll,hE,ht,h1,h2,ar,aJ,bR,fb,kU⟩:=aj;exact⟨k',h1,c3,ll,hE,ht,h2,kU,(hI.le ar).ql (rq aJ bR fb)⟩
 | _=>exact⟨c3,ap,s',bV,hI,aj⟩
def ku(P:Program)(ops:Array Oper)(K:lJ→aE→aB→Prop)(k:Nat)(l:List Oper)(g:lJ)(R:aE)(s:aB):Prop :=
 (∀j:Nat,l[j]?=ops[k+j]?)→s.bQ→∀aG aO a w,(∀b,¬aG.F b→aO b)→fU g aG aO R s a w →
  ry P ops (fun e a' w'=>e = .normal∧∃c3 ap s',s'.bQ∧fU c3 aG aO ap s' a' w'∧K c3 ap s') ((List.range l.length).map (k + ·)) a w
variable{K:lJ→aE→aB→Prop}{ops:Array Oper}{k:Nat}{l rest:List Oper}{o:Oper}
theorem n8{id:Nat}(h:ku P l.toArray (fun g R s=>Q .normal g R s) 0 l g R s):jd P (.region id l.toArray false) Q g R s:=by
 intro ok aG aO a w hu ey;have:=h (by simp) ok aG aO a w hu ey;refine ag3 (?_:ry P l.toArray _ (List.range l.toArray.size) a w);simp only[iF,List.map_id'] at this;rw[List.size_toArray];intro b k cs aa;obtain⟨e,a',w',⟨rfl,aj⟩,r⟩:=this b k cs aa;exact⟨.normal,a',w',aj,r⟩
theorem mL(h:K g R s):ku P ops K k [] g R s:=fun _ ok aG aO a w hu ey=>agY ⟨rfl,g,R,s,ok,ey,h⟩
theorem vL(k n:Nat):(List.range (n+1)).map (k + ·)=k::(List.range n).map (k+1 + ·):=by
 rw[List.range_succ_eq_map,hQ,List.map_map];congr 1;exact nN fun j _=>by simp[oB,oC 1 j]
theorem u7(al:∀j:Nat,(o::rest)[j]?=ops[k+j]?):ops[k]?=some o∧∀j:Nat,rest[j]?=ops[k+1+j]? :=
 ⟨by simpa using (al 0).symm,fun j=>by have:=al (j+1);simpa [oB,oC 1 j] using this⟩
theorem abr(h:tH P ops none o (fun R s=>ku P ops K (k+1) rest g R s) R s):ku P ops K k (o::rest) g R s:=by
 intro al ok aG aO a w hu ey;obtain⟨aD,ao⟩:=u7 al;rw[hP,vL];obtain⟨du,dC,aw,an⟩:=ey;rcases P3 (K':=ry P ops (fun e a' w'=>e = .normal∧∃c3 ap s',s'.bQ∧fU c3 aG aO ap s' a' w'∧K c3 ap s') ((List.range rest.length).map (k+1 + ·))) ok an h (fun ap s' a' w' bV bu ae=>ae ao bV aG aO a' w' hu ⟨du,dC,aw,bu⟩) with ⟨h1,_,h2⟩|⟨h1,h2⟩
 ·exact Ct aD h1 h2 fun _ _ q=>by cases q.1
 ·exact agZ aD h1 h2
variable{c:Nat}{eQ:jc}{dst:Option Nat}{ty:Nat}{pos:String}{after:Array Edge}{guard:Option (Nat×Bool)}
theorem fU.eval{x:Operand}{v:Value}(h:fU g aG aO R s a w)(ab:s.look x=some (aQ v)):a.eval x=v:=by
 obtain⟨_,_,A,ad,an⟩:=h.rr;exact(an.rel.look ab).1
theorem fU.put{v:Value}{av:ag}(h:fU g aG aO R s a w)(hd:∀d,dst=some d→d<s.n)(hv:∀U ad W,cR U ad W av v):fU g aG aO R (s.put dst av) (a.put dst v) w:=by
 obtain⟨du,dC,aw,A,ad,an⟩:=h;exact⟨du,dC,aw,A,ad,an.put hd (hv _ _ _)⟩
theorem fU.want{b:Bool}{o:Oper}(h:fU g aG aO R s a w)(hw:want ops o s=some b):Region.wanted o (yielded ops a.tmps)=b:=by
 obtain⟨_,_,A,ad,an⟩:=h.rr;exact MT hw an.rel
theorem IV{b:Frame}(aa:b.kind = .normal):b.kind ≠ .early:=by rw[aa];exact fun h=>by cases h
theorem abv{x y:Operand}{v:Value}(hw:want ops ⟨none,.send x y,ty,pos,after,guard⟩ s=some true)(ab:s.look x=some (aQ (.chan (some c))))(ai:s.look y=some (aQ v))(hs:eQ.shut=false)(ao:eQ.buf.length<eQ.cap)
  (h:ku P ops K (k+1) rest (some (c,jc.obj {eQ with buf:=eQ.buf++[v],ns:=eQ.ns+1})) R s):ku P ops K k (⟨none,.send x y,ty,pos,after,guard⟩::rest) (some (c,eQ.obj)) R s:=by
 intro al ok aG aO a w hu ey;obtain⟨aD,pw⟩:=u7 al;rw[hP,vL];have aH:=ey.eval ab;have aN:=ey.eval ai;have aF:=ey.look;unfold jc.obj at aF;rw[hs] at aF;refine xq (a1:=a) (w1:={w with heap:=w.heap.setIfInBounds c (jc.obj {eQ with buf:=eQ.buf++[v],ns:=eQ.ns+1})}) (fun b Cg cs aa => ?_) (h pw ok aG aO a _ hu ey.turn);have:=step_lone_send_room (stepG_comm (P:=P) (w:=w) (a:=a) (rest:=(List.range rest.length).map (k+1 + ·)) (main:=true) (b:=b) (k:=Cg) (cs:=cs) (cases := #[scase c v (.tuple #[])]) (blocking:=true) (shape := .send) (w':=w) aD (ey.want hw) (IV aa) (by simp[execOp,scase,aH,aN])) aF (by simpa using ao);rw[Frame.finish_at,aD] at this;simpa [lone,solo,G,World.setChan,jc.obj,hs,Act.put] using this
theorem Vg{z:Value}{x:Operand}{t:Nat}(ab:a.eval x = .chan (some c))(aT:(zeroValue t).run P w = .ok z w){d:Nat}{ty:Nat}:(execOp a.eval ⟨some d,.select #[⟨x,none,t⟩] true,ty,pos,after,guard⟩).run P w = .ok (.comm #[rcase c z] true .select) w:=by
 simp[execOp,rcase,ab,aT]
theorem Uw(z v:Value)(ok:Bool):commResult #[rcase c z] .select ((0:Nat):Int) v ok = .tuple #[goInt 0,.bool ok,v]:=by simp[commResult,rcase,List.zipIdx_cons]
theorem V1{x y z:Value}(ab:x.oneCell'=true)(ai:y.oneCell'=true)(aT:z.oneCell'=true):∀U ad W,cR U ad W (.cl [.one (.c x),.one (.c y),.one (.c z)]) (.tuple #[x,y,z]):=by
 intro U ad W;refine⟨[x,y,z],rfl,rfl,fun i a v aV hv => ?_⟩
 match i with
 | 0=>cases aV;cases hv;exact⟨rfl,ab⟩
 | 1=>cases aV;cases hv;exact⟨rfl,ai⟩
 | 2=>cases aV;cases hv;exact⟨rfl,aT⟩
 | i+3=>simp at aV
theorem MF{l:List bG}(ok:s.bQ)(h:(ag.cl l).aY=true){d:Nat}:(s.put (some d) (.cl l)).bQ:=ok.put fun j af=>absurd af (ag.c9 h j)
theorem abu{d:Nat}{x:Operand}{t:Nat}{v z:Value}{bs:List Value}(hw:want ops ⟨some d,.select #[⟨x,none,t⟩] true,ty,pos,after,guard⟩ s=some true)(ab:s.look x=some (aQ (.chan (some c))))(aa:eQ.buf=v::bs)(aT:∀w,(zeroValue t).run P w = .ok z w)(hd:Nat.blt d s.n=true)(hv:v.oneCell'=true)
  (h:ku P ops K (k+1) rest (some (c,jc.obj {eQ with buf:=bs,Cz:=eQ.Cz+1})) R (s.put (some d) (.cl [.one (.c (goInt 0)),.one (.c (.bool true)),.one (.c v)]))):ku P ops K k (⟨some d,.select #[⟨x,none,t⟩] true,ty,pos,after,guard⟩::rest) (some (c,eQ.obj)) R s:=by
 intro al ok aG aO a w hu ey;obtain⟨aD,pw⟩:=u7 al;rw[hP,vL];have aH:=ey.eval ab;have aF:=ey.look;have et:∀d',some d=some d'→d'<s.n:=fun d' e=>by cases e;simpa [lC] using hd
 unfold jc.obj at aF;rw[aa] at aF;refine xq (a1:=a.put (some d) (.tuple #[goInt 0,.bool true,v])) (w1:={w with heap:=w.heap.setIfInBounds c (jc.obj {eQ with buf:=bs,Cz:=eQ.Cz+1})}) (fun b Cg cs cQ => ?_) (h pw (MF ok rfl) aG aO _ _ hu (ey.turn.put et (V1 rfl rfl hv)));have:=step_lone_sel_recv_buf (k:=0) (c:=c) (z:=z) (stepG_comm (P:=P) (w:=w) (a:=a) (rest:=(List.range rest.length).map (k+1 + ·)) (main:=true) (b:=b) (k:=Cg) (cs:=cs) (cases := #[rcase c z]) (blocking:=true) (shape := .select) (w':=w) aD (ey.want hw) (IV cQ) (Vg aH (aT w))) rfl (fun m c' hm ny=>by cases m with|zero=>exact absurd rfl hm|succ m=>simp at ny) aF (by simp);rw[Frame.finish_at,aD,Uw] at this;simpa [lone,solo,G,World.setChan,jc.obj,Act.put] using this
theorem abt{d:Nat}{x:Operand}{t:Nat}{z:Value}(hw:want ops ⟨some d,.select #[⟨x,none,t⟩] true,ty,pos,after,guard⟩ s=some true)(ab:s.look x=some (aQ (.chan (some c))))(aa:eQ.buf=[])(hs:eQ.shut=true)(aT:∀w,(zeroValue t).run P w = .ok z w)(hd:Nat.blt d s.n=true)(hv:z.oneCell'=true)
  (h:ku P ops K (k+1) rest (some (c,eQ.obj)) R (s.put (some d) (.cl [.one (.c (goInt 0)),.one (.c (.bool false)),.one (.c z)]))):ku P ops K k (⟨some d,.select #[⟨x,none,t⟩] true,ty,pos,after,guard⟩::rest) (some (c,eQ.obj)) R s:=by
 intro al ok aG aO a w hu ey;obtain⟨aD,pw⟩:=u7 al;rw[hP,vL];have aH:=ey.eval ab;have aF:=ey.look;have et:∀d',some d=some d'→d'<s.n:=fun d' e=>by cases e;simpa [lC] using hd
 unfold jc.obj at aF;rw[aa,hs] at aF;refine xq (a1:=a.put (some d) (.tuple #[goInt 0,.bool false,z])) (w1:=w) (fun b Cg cs cQ => ?_) (h pw (MF ok rfl) aG aO _ _ hu (ey.put et (V1 rfl rfl hv)));have:=step_lone_sel_recv_shut (k:=0) (c:=c) (z:=z) (stepG_comm (P:=P) (w:=w) (a:=a) (rest:=(List.range rest.length).map (k+1 + ·)) (main:=true) (b:=b) (k:=Cg) (cs:=cs) (cases := #[rcase c z]) (blocking:=true) (shape := .select) (w':=w) aD (ey.want hw) (IV cQ) (Vg aH (aT w))) rfl (fun m c' hm ny=>by cases m with|zero=>exact absurd rfl hm|succ m=>simp at ny) aF;rw[Frame.finish_at,aD,Uw] at this;simpa [lone,solo,G,Act.put] using this
theorem abo{x:Operand}{az:Array TypeId}(hw:want ops ⟨dst,.call ⟨.builtin .close,#[x],az⟩,ty,pos,after,guard⟩ s=some true)(ab:s.look x=some (aQ (.chan (some c))))(hs:eQ.shut=false)(hd:∀d,dst=some d→d<s.n)
  (h:ku P ops K (k+1) rest (some (c,jc.obj {eQ with shut:=true})) R (s.put dst (.cl []))):ku P ops K k (⟨dst,.call ⟨.builtin .close,#[x],az⟩,ty,pos,after,guard⟩::rest) (some (c,eQ.obj)) R s:=by
 intro al ok aG aO a w hu ey;obtain⟨aD,pw⟩:=u7 al;rw[hP,vL];have aH:=ey.eval ab;have aF:=ey.look;unfold jc.obj at aF;rw[hs] at aF;refine Ct aD (ey.want hw) (Oper.te (v := .tuple #[]) (w':={w with heap:=w.heap.setIfInBounds c (jc.obj {eQ with shut:=true})}) ?_ (h pw ?_ aG aO _ _ hu (ey.turn.put hd fun U ad W=>⟨[],rfl,rfl,fun i x v ab=>by simp at ab⟩))) fun _ _ q=>by cases q.1
 ·have em:(#[x]:Array Operand).map a.eval = #[.chan (some c)]:=by simp[aH]
  simp only[execOp,resolve,em,Sem.run_bind,Sem.run_pure,Result.andThen_ok,invoke,builtin];rw[run_close_open az ty aF];rfl
 ·cases dst with
  | none=>exact ok
  | some d=>exact MF ok rfl
theorem fU.open{o1:Obj}(h:il aG aO R s a w)(aa:Below w.heap.size w w')(ak:w.heap.size≤c)(ab:w'.heap[c]?=some o1):fU (some (c,o1)) aG aO R s a w':=by
 obtain⟨A,ad,an⟩:=h;have ct:c<w'.heap.size:=(iD.1 ab).1;have pn:eR aG w':=an.below.then aa;have cX:∀b,s.free A ad b→b<w.heap.size→s.free (fun b=>A b∧b≠c) ad b∧w'.heap[b]?=w.heap[b]?:=fun b q al=>⟨⟨⟨q.1,by omega⟩,q.2⟩,aa.block b al⟩;have yU:∀k cs,s.mem k=some cs→ad k<w.heap.size:=fun k cs ae=>an.rel.lt ae
 let du:cV:=⟨w',fun b=>aG.F b∨b=c,fun b q=>q.elim (fun q=>jM (aG.lt b q) (eO an.below.size aa.size)) (fun e=>by rw[e];exact ct),aG.N,aG.marks⟩
 refine⟨du,fun b=>aO b∧b≠c,⟨fun b q => .inl q,.inr rfl,fun q=>by have:=aG.lt c q;have:=an.below.size;omega,fun b q=>q.1,fun q=>q.2 rfl,rfl,rfl,ab,pn⟩,fun b=>A b∧b≠c,ad,?_⟩;refine⟨fun b q=>⟨an.up b (eO pn.size q),fun e=>by subst e;exact absurd ct (Nat.not_lt.2 q)⟩,fun b q=>⟨an.sub b q.1,q.2⟩,?_,fun k cs ae q=>q.elim (an.hN k cs ae) fun e=>by have:=yU k cs ae;omega,⟨rfl,rfl,rfl,cF _,fun _ _=>rfl⟩,fun i r hi => ?_,an.apart,fun i r g hi q => ?_,an.fN⟩
 ·refine⟨an.rel.kD,an.rel.size,fun t av aC => ?_,fun k cs ae => ?_,an.rel.inj,⟨rfl,rfl,rfl,cF _,fun _ _=>rfl⟩,fun b q=>⟨an.rel.up b (eO aa.size q),fun e=>by subst e;exact absurd ct (Nat.not_lt.2 q)⟩,lR s ad _⟩
  ·obtain⟨v,h1,h2⟩:=an.rel.dp t av aC;exact⟨v,h1,h2.map cX fun _ _=>rfl⟩
  ·obtain⟨vs,ty,h1,h2,ar⟩:=an.rel.c4 k cs ae;exact⟨vs,ty,(aa.block _ (yU k cs ae)).trans h1,h2.map cX fun _ _ _ _=>rfl,fun q=>q.2 k cs ae rfl⟩
 ·have aD:=an.rows i r hi;exact⟨aD.ok.kept aD.gX (fun g q=>aa.block g (aD.ok.lt q)) aa.size cX,aD.gX,fun g q=>⟨fun z=>(aD.own g q).1 z.1,(aD.own g q).2⟩⟩
 ·have JX:=(an.rows i r hi).ok.lt q;exact⟨fun z=>z.elim (an.hot i r g hi q).1 fun e=>by omega,(an.hot i r g hi q).2,by omega⟩
theorem abp{d t e n:Nat}{x:Operand}{gK:IntKind}{dir:ChanDir}{eJ:TypeInfo}(hw:want ops ⟨some d,.makeChan t x,ty,pos,after,guard⟩ s=some true)(ab:s.look x=some (aQ (.int gK n)))(aC:P.underlying t=some (.chan dir e))(hi:P.info? e=some eJ)(aA:(n:Int)≤9223372036854775807)(aa:(eJ.bytes:Int)*n≤281474976710544)(hd:Nat.blt d s.n=true)
  (h:∀c,ku P ops K (k+1) rest (some (c,jc.obj ⟨n,[],false,0,0⟩)) R (s.put (some d) (aQ (.chan (some c))))):ku P ops K k (⟨some d,.makeChan t x,ty,pos,after,guard⟩::rest) none R s:=by
 intro al ok aG aO a w hu ey;obtain⟨aD,pw⟩:=u7 al;rw[hP,vL];have aH:=ey.eval ab;have mm:=ey.want hw;obtain⟨Aa,z8,iT,an⟩:=ey;rw[show Aa=aG from iT.1,show z8=aO from iT.2] at an;have et:∀d',some d=some d'→d'<s.n:=fun d' e=>by cases e;simpa [lC] using hd
 have aV:=Below.alloc (Below.refl w.heap.size w) (cF _) (.chan n #[] false 0 0 false);have Jv:fU (some (w.heap.size,jc.obj ⟨n,[],false,0,0⟩)) aG aO R s a (w.alloc (.chan n #[] false 0 0 false)):=fU.open an aV (cF _) (heap_alloc_new w _);refine Ct aD mm (Oper.te (v := .chan (some w.heap.size)) (w':=w.alloc (.chan n #[] false 0 0 false)) ?_ (h _ pw (ok.put fun j af=>absurd af (gP _ j)) aG aO _ _ hu (Jv.put et fun U ad W=>⟨rfl,rfl⟩))) fun _ _ q=>by cases q.1
 simp only[execOp,aH,Sem.run_bind,run_makeChan aC hi gK n aA aa,Result.andThen_ok,Sem.run_pure]
theorem abq{d t:Nat}(hw:want ops ⟨some d,.makeMap t none,ty,pos,after,guard⟩ s=some true)(hd:Nat.blt d s.n=true)
  (h:∀c,ku P ops K (k+1) rest (some (c,.map #[] 0)) R (s.put (some d) (aQ (.map (some c))))):ku P ops K k (⟨some d,.makeMap t none,ty,pos,after,guard⟩::rest) none R s:=by
 intro al ok aG aO a w hu ey;obtain⟨aD,pw⟩:=u7 al;rw[hP,vL];have mm:=ey.want hw;obtain⟨Aa,z8,iT,an⟩:=ey;rw[show Aa=aG from iT.1,show z8=aO from iT.2] at an;have et:∀d',some d=some d'→d'<s.n:=fun d' e=>by cases e;simpa [lC] using hd
 have aV:=Below.alloc (Below.refl w.heap.size w) (cF _) (.map #[] 0);have Jv:fU (some (w.heap.size,.map #[] 0)) aG aO R s a (w.alloc (.map #[] 0)):=fU.open an aV (cF _) (heap_alloc_new w _);refine Ct aD mm (Oper.te (v := .map (some w.heap.size)) (w':=w.alloc (.map #[] 0)) ?_ (h _ pw (ok.put fun j af=>absurd af (gP _ j)) aG aO _ _ hu (Jv.put et fun U ad W=>⟨rfl,rfl⟩))) fun _ _ q=>by cases q.1
 rfl
structure DP (P:Program) (f:FuncId) (args:List ag) (eQ:jc):Prop where
 call:∀(U:Nat→Prop) (W:World) (vs:List Value),im U id W args vs →
  Calls P f vs.toArray W fun e W'=>∃c,e = .returned (.chan (some c))∧W.heap.size≤c∧W'.heap[c]?=some eQ.obj∧Below W.heap.size W W'
theorem abm{d:Nat}{o:Oper}{f:FuncId}{args:List ag}(hw:want ops o s=some true)(ac0:o.dst=some d)(ak:r0 P s.look o f args)(aj:DP P f args eQ)(ct:args.all ag.aY=true)(hd:Nat.blt d s.n=true)
  (h:∀c,ku P ops K (k+1) rest (some (c,eQ.obj)) R (s.put (some d) (aQ (.chan (some c))))):ku P ops K k (o::rest) none R s:=by
 intro al ok aG aO a w hu ey;obtain⟨aD,pw⟩:=u7 al;rw[hP,vL];have mm:=ey.want hw;obtain⟨Aa,z8,iT,an⟩:=ey;rw[show Aa=aG from iT.1,show z8=aO from iT.2] at an;have et:∀d',some d=some d'→d'<s.n:=fun d' e=>by cases e;simpa [lC] using hd
 obtain⟨A,ad,Bn⟩:=id an;obtain⟨us,Ra,fB⟩:=ak.run Bn.rel;refine Ct aD mm ?_ fun _ _ q=>by cases q.1
 unfold Oper.wp;rw[fB,Oper.upon_enter];have aep:im (s.free A ad) id w args us:=⟨Ra.1,fun i x v ab hv=>(Ra.2 i x v ab hv).map (fun b aa _=>⟨aa,rfl⟩) fun j af=>absurd af (ag.c9 (b6.1 ct x (cN ab)) j)⟩;refine(aj.call _ w us aep).mono ?_;rintro e w' ⟨c,rfl,iR,fE,JP⟩;rw[ac0];exact h c pw (ok.put fun j af=>absurd af (gP _ j)) aG aO _ _ hu ((fU.open an JP iR fE).put et fun U ad W=>⟨rfl,rfl⟩)
def ajR(P:Program)(fn:Func)(eQ:jc):Exit→lJ→aE→aB→Prop
 | .normal,g,R,s | .ret,g,R,s=>∃c,g=some (c,eQ.obj)∧fn.results.toList.map (gS P s)=[some (.one (.c (.chan (some c))))]
 | _,_,_,_=>False
theorem ajQ{f:FuncId}{fn:Func}{x:Code}{args:List ag}(au:P.funcs[f]?=some fn)(aa:fn.body=some x)(aA:args.length≤fn.ntmps)(ct:args.all ag.aY=true)
  (h:jd P x (ajR P fn eQ) none dW (start fn.ntmps args)):DP P f args eQ:=by
 refine⟨fun U W vs cM => ?_⟩;have al:=cM.1;have hl:∀x∈args,x.closed:=fun x ab=>ag.c9 (b6.1 ct x ab);refine Ow au aa ?_;have ok:(start fn.ntmps args).bQ:=⟨fun t av j aC af=>absurd af (hl av (cN aC) j),fun k cs x j ae=>by cases ae⟩;have cX:∀b,U b→b<W.heap.size→(start fn.ntmps args).free (fun b=>U b∨W.heap.size≤b) id b∧W.heap[b]?=W.heap[b]?:=fun b aa _=>⟨⟨.inl aa,fun k cs ae=>by cases ae⟩,rfl⟩
 have an:dv (cV.all W) (fun b=>U b∨W.heap.size≤b) dW (start fn.ntmps args) {tmps:=vs.toArray++Array.replicate (fn.ntmps-vs.toArray.size) undef,defers:=[]} W (fun b=>U b∨W.heap.size≤b) id:=by
  refine⟨fun b aa => .inr aa,fun _ h=>h,?_,fun k cs ae=>(by cases ae),eR.refl (cV.all W),fun i r hi=>(by cases hi),fun i j r q hi=>(by cases hi),fun i r g hi=>(by cases hi),fun k b ae=>(by cases ae)⟩;refine⟨rfl,by simp[start];omega,fun t av aC => ?_,fun k cs ae=>(by cases ae),fun k k' cs ay ae=>(by cases ae),⟨rfl,rfl,rfl,cF _,fun _ _=>rfl⟩,fun b aa => .inr aa,lR _ _ _⟩;have a7:t<vs.length:=by rw[←al];exact(bt.1 aC).1
  refine⟨vs[t],by simp[Array.getElem?_append,a7],?_⟩;exact(cM.2 t av _ aC (bE a7)).map cX fun _ _=>rfl
 refine xr (h ok (cV.all W) _ _ W (fun b aa => .inr (Nat.not_lt.1 aa)) ⟨cV.all W,_,⟨rfl,rfl⟩,_,id,an⟩) ?_;rintro e a' w' ⟨c3,ap,s',bV,ey,aj⟩
 have fin:(∃c,c3=some (c,eQ.obj)∧fn.results.toList.map (gS P s')=[some (.one (.c (.chan (some c))))])→a'.defers=[]∧∃v,(results fn a'.tmps).run P w' = .ok v w'∧∃c,Ending.returned v = .returned (.chan (some c))∧W.heap.size≤c∧w'.heap[c]?=some eQ.obj∧Below W.heap.size W w':=by
  rintro⟨c,rfl,h1⟩;have adI:=ey.look
  have vh:W.heap.size≤c:=by
   obtain⟨du,dC,aw,_⟩:=ey;exact Nat.not_lt.1 aw.2.2.1
  obtain⟨A,ad,Bn⟩:=ey.shut fun b aa => .inr (Nat.not_lt.1 aa);obtain⟨v,q1,q2⟩:=CT (xs:=[.one (.c (.chan (some c)))]) Bn.rel h1;have:v = .chan (some c):=q2.1;subst this;exact⟨Bn.rel.kD,_,q1,c,rfl,vh,adI,Bn.below.all⟩
 cases e with
 | normal=>exact fin aj
 | ret=>exact fin aj
 | _=>exact aj.elim
theorem kT(h:cJ P ops none (fun R s=>ku P ops K (k+1) rest g R s) [o] R s):ku P ops K k (o::rest) g R s:=abr h
theorem PI(h:Q .normal g R s):jd P .skip Q g R s:=Bc (Mg h)
theorem Jj(h:Q .ret g R s):jd P .ret Q g R s:=Bc (Me h)
theorem PH{id:Nat}(h:Q (.exit id) g R s):jd P (.exit id) Q g R s:=Bc (Md h)
variable{next:lJ→aE→aB→Prop}{id iB:Nat}
theorem me(h:next g R s):Be next Q .normal g R s:=h
theorem abX(h:Q .ret g R s):Be next Q .ret g R s:=h
theorem PR(h:Q (.exit id) g R s):Be next Q (.exit id) g R s:=h
theorem PJ(h:Q .normal g R s):Bd id Q .normal g R s:=h
theorem abC(h:Q .ret g R s):Bd id Q .ret g R s:=h
theorem PK(h:Q .normal g R s):Bd id Q (.exit id) g R s:=by show bif Nat.beq id id then _ else _;rw[qz];exact h
theorem abn{d:Nat}{f:FuncId}{E6:Operand}{az:Array TypeId}{lo:List Operand}{args:List ag} [E:Enters P f](hw:want ops ⟨some d,.call ⟨.value E6,lo.toArray,az⟩,ty,pos,after,guard⟩ s=some true)(aw:s.look E6=some (aQ (.func (.func f) #[] #[])))(aV:lo.map s.look=args.map some)(aj:DP P f args eQ)(ct:args.all ag.aY=true)(hd:Nat.blt d s.n=true)
  (h:∀c,ku P ops K (k+1) rest (some (c,eQ.obj)) R (s.put (some d) (aQ (.chan (some c))))):ku P ops K k (⟨some d,.call ⟨.value E6,lo.toArray,az⟩,ty,pos,after,guard⟩::rest) none R s :=
 abm hw rfl ⟨⟨_,E6,rfl,rfl,.inl ⟨[],aw,by simpa using aV,rfl⟩⟩,E.h⟩ aj ct hd h
theorem abA(i d:Nat)(r:bF)(hi:R i=some r)(hd:s.tmps d=some (aQ r.v))(h:jd P x Q g (fun j=>if j=i then none else R j) (s.put (some d) (cE r.sz r.n r.ys)))(bI:0<r.sz:=by first|decide|exact gE _):jd P x Q g R s:=by
 rintro ok aG aO a w hu ⟨du,dC,aw,A,ad,an⟩
 have et:d<s.n:=by
  obtain⟨v,h1,_⟩:=an.rel.dp d _ hd;rw[←an.rel.size];exact(iD.1 h1).1
 obtain⟨b3,tJ⟩:=an.uW i d r hi bI hd et;exact h (ok.put fun j af=>absurd af (lB _ j)) aG aO a w hu ⟨du,dC,aw,b3,ad,tJ⟩
theorem abB(k:Nat)(cs:List AC)(ae:s.mem k=some cs)(ct:cs.all AC.aY=true)(h:jd P x Q none R (mK s k cs)):jd P x Q none R s:=by
 rintro ok aG aO a w hu ⟨du,dC,aw,A,ad,an⟩;obtain⟨rfl,rfl⟩:=aw;have wV:dC (ad k):=hu _ (an.hN k cs ae);have KC:∀b,A b→A b∨b=ad k:=fun b q => .inl q;have h3:∀b,s.free A ad b→b<w.heap.size→s.free (fun b=>A b∨b=ad k) ad b∧w.heap[b]?=w.heap[b]?:=fun b q _=>⟨⟨.inl q.1,q.2⟩,rfl⟩
 have ao:Rel (h0 du s ad w) (fun b=>A b∨b=ad k) s ad a w:=by
  refine⟨an.rel.kD,an.rel.size,fun t av aC => ?_,fun k cs ae => ?_,an.rel.inj,an.rel.below,fun b q => .inl (an.rel.up b q),an.rel.fN⟩
  ·obtain⟨v,h1,h2⟩:=an.rel.dp t av aC;exact⟨v,h1,h2.map h3 fun _ _=>rfl⟩
  ·obtain⟨vs,ty,h1,h2,ar⟩:=an.rel.c4 k cs ae;exact⟨vs,ty,h1,h2.map h3 fun _ _ _ _=>rfl,ar⟩
 have w4:=PB ae ct (.inr rfl) ao
 have lx:∀j ds,(mK s k cs).mem j=some ds→j≠k∧s.mem j=some ds:=fun j ds af=>by
  simp only[mK] at af;cases aa:tC s k j with
  | false=>rw[aa] at af;simp at af
  | true=>rw[aa] at af;simp at af;exact⟨(EY aa).1,af⟩
 have ado:∀b,s.free A ad b→b<w.heap.size→(mK s k cs).free (fun b=>A b∨b=ad k) ad b∧w.heap[b]?=w.heap[b]?:=fun b q _=>⟨⟨.inl q.1,fun j ds af=>q.2 j ds (lx j ds af).2⟩,rfl⟩;refine h (PA ok) du dC a w hu ⟨du,dC,⟨rfl,rfl⟩,fun b=>A b∨b=ad k,ad,an.up,fun b q=>q.elim (an.sub b) fun e=>by rw[e];exact wV,?_,fun j ds af=>an.hN j ds (lx j ds af).2,an.below,fun i r hi => ?_,an.apart,an.hot,an.fN⟩
 ·refine⟨w4.kD,w4.size,w4.dp,fun j ds af => ?_,w4.inj,⟨rfl,rfl,rfl,cF _,fun _ _=>rfl⟩,w4.up,lR _ _ _⟩;obtain⟨vs,ty,h1,h2,_⟩:=w4.c4 j ds af;exact⟨vs,ty,h1,h2,fun q=>q.2 j ds af rfl⟩
 ·have aD:=an.rows i r hi;refine⟨aD.ok.kept aD.gX (fun _ _=>rfl) (cF _) ado,aD.gX,fun g q=>⟨fun z=>z.elim (aD.own g q).1 fun e=>(aD.own g q).2 k cs ae e.symm,fun j ds af=>(aD.own g q).2 j ds (lx j ds af).2⟩⟩
end
end Go.Proofs.YtklpfooafbjnpaaGreat
namespace Go.Proofs.YtklpfooafbjnpaaGreat
abbrev cj:=Int×Int
def lN(l:List cj):List (cj×cj):=l.zip (l.drop 1++l.take 1)
end Go.Proofs.YtklpfooafbjnpaaGreat
namespace Go.Proofs.YtklpfooafbjnpaaGreat
open Go.RowKit
def CL(p:Int×Int):List AC:=[.c (.int .i64 p.1),.c (.int .i64 p.2)]
def pI(l:List (Int×Int)):List AC:=l.flatMap CL
def lF(l:List (Int×Int)):AC := .p (b4 2 l.length (pI l))
def hc(L:List (List (Int×Int))):AC := .p (b4 1 L.length (L.map lF))
def iv(L:List (List (Int×Int))):List ((Int×Int)×(Int×Int)):=L.flatMap lN
def V6(e:(Int×Int)×(Int×Int)):List ag:=[.w (.agg (CL e.1)),.w (.agg (CL e.2))]
def rB(L:List (List (Int×Int)))(k:Nat):Nat:=(iv (L.take k)).length
theorem wP(l:List (Int×Int)):(lN l).length=l.length:=by
 simp only[lN,List.length_zip,cZ,iG,ea];omega
theorem AX{l:List (Int×Int)}{i:Nat}{p q:Int×Int}(hp:l[i]?=some p)(aj:(if i+1<l.length then l[i+1]? else l[0]?)=some q):(lN l)[i]?=some (p,q):=by
 have hi:=(bt.1 hp).1;simp only[lN,List.getElem?_zip_eq_some];refine⟨hp,?_⟩
 by_cases h:i+1<l.length
 ·rw[if_pos h] at aj;rw[fI (by simp;omega),gR,oC 1 i];exact aj
 ·rw[if_neg h] at aj;rw[gn (by simp;omega),iG,show i-(l.length-1)=0 by omega,gm (by omega)];exact aj
theorem ajI{L:List (List (Int×Int))}{k:Nat}{r:List (Int×Int)}(h:L[k]?=some r):rB L (k+1)=rB L k+r.length:=by
 have ae:=(bt.1 h).1;have:L.take (k+1)=L.take k++[r]:=by rw[kJ ae,(bt.1 h).2]
 simp only[rB,iv,this,sY,cZ,List.flatMap_cons,List.flatMap_nil,nb,wP]
theorem aaM{L:List (List (Int×Int))}{k i:Nat}{r:List (Int×Int)}(h:L[k]?=some r)(hi:i<r.length):(iv L)[rB L k+i]?=(lN r)[i]?:=by
 have ae:=(bt.1 h).1
 have e:iv L=iv (L.take k)++(lN r++iv (L.drop (k+1))):=by
  conv=>lhs;rw[←kh k L,jP ae,(bt.1 h).2]
  simp only[iv,sY,List.flatMap_cons]
 rw[e,gn (by unfold rB;omega),show rB L k+i-(iv (L.take k)).length=i by unfold rB;omega,fI (by rw[wP];exact hi)]
theorem rJ{l:List (Int×Int)}{i:Nat}{ii:Int}{x y:Int}(hi:ii=i)(h:l[i]?=some (x,y)):((pI l).drop (ii.toNat*2)).take 2=[.c (.int .i64 x),.c (.int .i64 y)]:=by
 subst hi;rw[kH]
 induction l generalizing i with
 | nil=>simp at h
 | cons p l bY =>
  cases i with
  | zero=>simp at h;subst h;rfl
  | succ i =>
   have:=bY (i:=i) (by simpa using h);rw[←this,Nat.succ_mul];show ((CL p++pI l).drop (i*2+2)).take 2=_;rw[show CL p++pI l=AC.c (.int .i64 p.1)::AC.c (.int .i64 p.2)::pI l from rfl];rfl
theorem zA{L:List (List (Int×Int))}{i:Nat}{ii:Int}{r:List (Int×Int)}(hi:ii=i)(h:L[i]?=some r):((L.map lF).drop (ii.toNat*1)).take 1=[lF r]:=by
 subst hi;rw[kH,Nat.mul_one];have ae:=(bt.1 h).1;rw[jP (by simpa using ae)];simp[(bt.1 h).2]
abbrev zR(k:Nat):ag := .w (.one (.own k 0))
def EJ(x:Int×((Int×Int)×(Int×Int))):List AC:=[.c (.int .i64 x.2.1.1),.c (.int .i64 x.2.1.2),.c (.int .i64 x.2.2.1),.c (.int .i64 x.2.2.2),.c (.int .i64 x.1)]
def n6(l:List (Int×((Int×Int)×(Int×Int)))):List AC:=l.flatMap EJ
theorem take_one{α:Type}{l:List α}{i:Nat}{x:α}(h:l[i]?=some x):l.take (i+1)=l.take i++[x]:=by
 rw[kJ (bt.1 h).1,(bt.1 h).2]
def h9(A B:List (List (Int×Int)))(op fill rung cap:Int):List AC:=[hc A,hc B,.c (.int .i64 op),.c (.int .i64 fill),.c (.int .i64 rung),.c (.int .i64 cap)]
theorem TX{i:Nat}{r:bF}(h:0<r.sz):An (br i r):=fun j q af=>by
 by_cases e:j=i
 ·subst e;rw[br,bX] at af;cases af;exact h
 ·rw[br,bN _ _ e] at af;cases af
theorem aiz(L:List (List (Int×Int))):aP ah 105 [.w (.one (hc L))] (.w (.one (.p (l4 (.func 164) [.p (pf [hc L])])))):=by
 refine LN (f:=105) Tryz.func105 rfl rfl rfl rfl ?_;refine Eh (wE ?_);(refine eI ?_);refine Eg 1 _ rfl rfl ?_;refine wE ?_;(repeat first|refine dd ?_|refine Ea (xs:=[_]) (cs:=[_]) rfl rfl rfl rfl ?_)
 ((refine bk rfl (aX rfl aM) ?_))
 exact ag.aU.refl _
abbrev Hq(l:Nat):ag:=aQ (.func (.yield l) #[] #[])
def X0(X:kq)(L:List (List (Int×Int)))(k:Nat)(g:Option Nat)(az:List (Nat×ag))(aS:List (Nat×List AC)):Prop :=
 ∃(i:Nat) (ii:Int),i≤L.length∧k=L.length-i∧ii=i∧g=some (rB L i)∧aS=[]∧az=[(0,Hq X.l),(7,.w (.one (hc L))),(8,aL L.length),(9,aL ii)]
def XZ(X:kq)(L:List (List (Int×Int)))(r:List (Int×Int))(b:Nat)(Lw:Int)(k:Nat)(g:Option Nat)(az:List (Nat×ag))(aS:List (Nat×List AC)):Prop :=
 ∃(i:Nat) (ii:Int),i≤r.length∧k=r.length-i∧ii=i∧g=some (b+i)∧aS=[]∧az=[(0,Hq X.l),(4,.w (.one (lF r))),(7,.w (.one (hc L))),(8,aL L.length),(9,aL Lw),(13,.w (.one (lF r))),(14,aL r.length),(15,aL ii)]
theorem ahf{r:List (Int×Int)}{j:Nat}{dB:Int}(hp:j<r.length)(k0:dB=j):∃x y,(0≤(dB+1) % (r.length:Int)∧(dB+1) % (r.length:Int)<r.length)∧(if j+1<r.length then r[j+1]? else r[0]?)=some (x,y)∧((pI r).drop (((dB+1) % (r.length:Int)).toNat*2)).take 2=[.c (.int .i64 x),.c (.int .i64 y)]:=by
 subst k0
 by_cases aA:j+1<r.length
 ·have e:((j:Int)+1) % (r.length:Int)=((j+1:Nat):Int):=by rw[Int.emod_eq_of_lt (by omega) (by omega)];omega
  obtain⟨x,y,g⟩:∃x y,r[j+1]?=some (x,y):=⟨_,_,bE aA⟩;refine⟨x,y,by rw[e];omega,by rw[if_pos aA];exact g,rJ e g⟩
 ·have e:((j:Int)+1) % (r.length:Int)=((0:Nat):Int):=by
   rw[show (j:Int)+1=(r.length:Int) by omega,Int.emod_self];rfl
  obtain⟨x,y,g⟩:∃x y,r[0]?=some (x,y):=⟨_,_,bE (by omega)⟩;refine⟨x,y,by rw[e];omega,by rw[if_neg aA];exact g,rJ e g⟩
theorem ae0{L:List (List (Int×Int))}(dm:L.length≤4611686018427387904)(ao:∀r∈L,r.length≤4611686018427387904):DJ ah (l4 (.func 164) [.p (pf [hc L])]) ((iv L).map V6):=by
 refine Rt (gf:=164) Tryz.func164 rfl (fun args w=>yy (by kernel_rfl)) (cm rfl) rfl rfl ?_;intro X ho hxs;refine⟨_,iK.cons (lI.refl _) iK.nil,?_⟩;(repeat first|(with_reducible apply fY);rfl|(with_reducible apply AE);(iterate 5 rfl)|(with_reducible apply sb);(iterate 3 rfl)|(with_reducible first|apply tf|apply pa|apply dR|apply zZ)|(with_reducible apply qF);assumption);refine Hz 34 (X0 X L) L.length _ [] ⟨0,0,dq _,rfl,rfl,rfl,rfl,rfl⟩ rfl ⟨rfl,rfl,rfl,rfl,trivial⟩ trivial rfl ?_;rintro n g az aS ⟨i,ii,hi,rfl,eu,rfl,rfl,rfl⟩ bC;clear bC
 by_cases aj:i<L.length
 ·have q2:ii<(L.length:Int):=by omega
  have q3:0≤ii:=by omega
  obtain⟨r,j8⟩:∃r,L[i]?=some r:=⟨_,bE aj⟩;have hh:=zA eu j8;have hJ:=ao r (cN j8);(repeat first|(with_reducible apply fY);rfl|(with_reducible apply AE);(iterate 5 rfl)|(with_reducible apply AD);(iterate 3 rfl);(omega);(omega);(assumption);rfl|(with_reducible apply sb);(iterate 3 rfl)|(with_reducible first|apply tf|apply pa|apply dR)|(with_reducible apply z7);assumption|with_reducible apply zZ|(with_reducible apply z6);rfl;(exact b5 (by omega))|(with_reducible apply qF);assumption);refine Hz 34 (XZ X L r (rB L i) ii) r.length _ [] ⟨0,0,dq _,rfl,rfl,rfl,rfl,rfl⟩ rfl ⟨rfl,rfl,rfl,rfl,rfl,rfl,rfl,rfl,trivial⟩ trivial rfl ?_;rintro n g az aS ⟨j,dB,af,rfl,k0,rfl,rfl,rfl⟩ bC;clear bC
  by_cases hp:j<r.length
  ·have p2:dB<(r.length:Int):=by omega
   have p3:0≤dB:=by omega
   obtain⟨x,y,g1⟩:∃x y,r[j]?=some (x,y):=⟨_,_,bE hp⟩;have kP:=rJ k0 g1;obtain⟨dj,mA,⟨gL,fG⟩,g2,pd⟩:=ahf hp k0
   have ab:X.xs[rB L i+j]?=some (V6 ((x,y),(dj,mA))):=by
    rw[hxs,dG,aaM j8 hp,AX g1 g2];rfl
   (repeat first|(with_reducible apply fY);rfl|(with_reducible apply Ii);(iterate 5 rfl)|(with_reducible apply AD);(iterate 3 rfl);(omega);(omega);(assumption);rfl|(with_reducible apply wA);(iterate 3 rfl);(exact jo (by omega));rfl|(with_reducible apply NY);(iterate 3 rfl);(omega);(omega);rfl|(with_reducible apply sb);(iterate 3 rfl)|(with_reducible first|apply tf|apply pa|apply dR)|(with_reducible apply z7);assumption|with_reducible apply zZ|(with_reducible apply z6);rfl;(exact b5 (by omega))|refine amC (ri:=6) (kc:=10) (by assumption) (by kernel_rfl) rfl (by kernel_rfl) rfl ?_|(with_reducible apply qF);assumption);refine⟨jM (Nat.lt_succ_self _) (cm rfl),rfl,_,[.w (.agg [.c (.int .i64 x),.c (.int .i64 y)]),.w (.agg [.c (.int .i64 dj),.c (.int .i64 mA)])],ab,rfl,pP.cons (tg.w rfl rfl) (pP.cons (tg.w rfl rfl) pP.nil),?_,?_⟩
   ·(repeat first|(with_reducible apply fY);rfl|(with_reducible apply wA);(iterate 3 rfl);(exact jo (by omega));rfl|(with_reducible first|apply pa|apply dR)|(with_reducible apply z7);assumption|with_reducible apply Ht|(with_reducible apply z1);rfl;(rfl)|(with_reducible apply qF);assumption);exact⟨r.length-(j+1),_,[],by omega,⟨j+1,dB+1,hp,rfl,by omega,rfl,rfl,rfl⟩,rfl,⟨rfl,rfl,rfl,rfl,rfl,rfl,rfl,rfl,trivial⟩,trivial,rfl⟩
   ·(repeat first|(with_reducible apply fY);rfl|(with_reducible first|apply pa|apply dR|apply Wz)|(with_reducible apply WB);assumption|with_reducible apply Wx|(with_reducible apply z6);rfl;(rfl));exact⟨.inr rfl,.inl rfl⟩
  ·have e:j=r.length:=by omega
   have vq:=ajI j8;subst e;(repeat first|(with_reducible apply fY);rfl|(with_reducible apply wA);(iterate 3 rfl);(exact jo (by omega));rfl|(with_reducible first|apply tf|apply pa|apply dR|apply Ht|apply Hu)|(with_reducible apply Hy);assumption|with_reducible apply Hv|(with_reducible apply z1);rfl;(exact b8 (by omega))|(with_reducible apply qF);assumption);exact⟨L.length-(i+1),_,[],by omega,⟨i+1,ii+1,aj,rfl,by omega,by rw[vq],rfl,rfl⟩,rfl,⟨rfl,rfl,rfl,rfl,trivial⟩,trivial,rfl⟩
 ·have e:i=L.length:=by omega
  subst e;(repeat first|(with_reducible apply fY);rfl|(with_reducible first|apply tf|apply pa|apply dR|apply Hu)|(with_reducible apply Hy);assumption|with_reducible apply Hv|(with_reducible apply z1);rfl;(exact b8 (by omega))|(with_reducible apply qF);assumption);exact⟨.inl rfl,.inr (by unfold rB;rw[List.take_length,jN])⟩
instance an9:HN ah 137 2 false 1:=⟨by kernel_rfl⟩
theorem Ts{n m:Nat}{xs ys:List AC}{op fill rung cap:Int}:aP ah 104 [.w (.agg [.p (b4 1 n xs),.p (b4 1 m ys),.c (.int .i64 op),.c (.int .i64 fill),.c (.int .i64 rung),.c (.int .i64 cap)])] (.w (.agg [.p (b4 1 n xs),.p (b4 1 m ys)])):=by
 refine bp (f:=104) Tryz.func104 rfl rfl rfl rfl ?_;(refine eI ?_)
 ((refine bk rfl (c7 rfl rfl rfl aM) ?_))
 exact ag.aU.refl _
theorem TE(A B:List (List (Int×Int)))(op fill rung cap:Int):aP ah 221 [.w (.agg (h9 A B op fill rung cap))] (.w (.one (.p (l4 (.func 265) [.p (pf (h9 A B op fill rung cap))])))):=by
 refine LN (f:=221) Tryz.func221 rfl rfl rfl rfl ?_;refine Eh (wE ?_);(refine eI ?_);refine Eg 1 _ rfl rfl ?_;refine wE ?_;(repeat first|refine dd ?_|refine Ea (xs:=[_]) (cs:=[_]) rfl rfl rfl rfl ?_)
 ((refine bk rfl (aX rfl aM) ?_))
 exact ag.aU.refl _
def yx(U:Nat→Prop)(W:World)(r:List (Int×Int)):AC := .p (I2 U W (b4 2 r.length (pI r)))
theorem Pb(U:Nat→Prop)(W:World)(L:List (List (Int×Int))):iK U W (L.map lF) (L.map (yx U W)):=⟨by simp,fun j x y ab ai=>by
 rw[dG] at ab ai;cases h:L[j]? with
 | none=>rw[h] at ab;cases ab
 | some r=>rw[h] at ab ai;cases ab;cases ai;exact lI.I1 _⟩
theorem agy{f:List (Int×Int)→AC}{L:List (List (Int×Int))}{i:Nat}{ii:Int}{r:List (Int×Int)}(hi:ii=i)(h:L[i]?=some r):((L.map f).drop (ii.toNat*1)).take 1=[f r]:=by
 subst hi;rw[kH,Nat.mul_one];have ae:=(bt.1 h).1;rw[jP (by simpa using ae)];simp[(bt.1 h).2]
def s7(A B:List (List (Int×Int))):List (List ag):=(A++B).map fun r=>[.w (.one (lF r))]
def sV(A B:List (List (Int×Int)))(i:Nat):Nat:=if i=0 then 0 else if i=1 then A.length else A.length+B.length
abbrev sn(X:kq)(L:List (List (Int×Int))):AC := .p (b4 1 L.length (L.map (yx X.U X.cw)))
def XX(X:kq)(A B:List (List (Int×Int)))(k:Nat)(g:Option Nat)(az:List (Nat×ag))(aS:List (Nat×List AC)):Prop :=
 ∃(i:Nat) (ii:Int),i≤2∧k=2-i∧ii=i∧g=some (sV A B i)∧aS=[]∧az=[(0,Hq X.l),(8,.w (.agg [sn X A,sn X B])),(9,aL ii)]
def XY(X:kq)(A B L:List (List (Int×Int)))(b:Nat)(Lw:Int)(k:Nat)(g:Option Nat)(az:List (Nat×ag))(aS:List (Nat×List AC)):Prop :=
 ∃(i:Nat) (ii:Int),i≤L.length∧k=L.length-i∧ii=i∧g=some (b+i)∧aS=[]∧az=[(0,Hq X.l),(8,.w (.agg [sn X A,sn X B])),(9,aL Lw),(12,.w (.one (sn X L))),(13,aL L.length),(14,aL ii)]
theorem Ru{A B:List (List (Int×Int))}{op fill rung cap:Int}(cr:A.length≤4611686018427387904)(cY:B.length≤4611686018427387904):DJ ah (l4 (.func 265) [.p (pf (h9 A B op fill rung cap))]) (s7 A B):=by
 refine Rt (gf:=265) Tryz.func265 rfl (fun args w=>yy (by kernel_rfl)) (cm rfl) rfl rfl ?_;intro X ho hxs;refine⟨[.p (pf [sn X A,sn X B,.c (.int .i64 op),.c (.int .i64 fill),.c (.int .i64 rung),.c (.int .i64 cap)])],iK.cons (lI.ptr (iK.cons (lI.sl (Pb _ _ A)) (iK.cons (lI.sl (Pb _ _ B)) (iK.cons (lI.refl _) (iK.cons (lI.refl _) (iK.cons (lI.refl _) (iK.cons (lI.refl _) iK.nil))))))) iK.nil,?_⟩;have eU:=Ts (n:=A.length) (m:=B.length) (xs:=A.map (yx X.U X.cw)) (ys:=B.map (yx X.U X.cw)) (op:=op) (fill:=fill) (rung:=rung) (cap:=cap);(repeat first|(with_reducible apply fY);rfl|(with_reducible apply Ii);(iterate 5 rfl)|refine Ic rfl rfl rfl (by(exact eU)) rfl ?_|(with_reducible first|apply tf|apply pa|apply dR|apply zZ)|(with_reducible apply qF);assumption);refine Hz 24 (XX X A B) 2 _ [] ⟨0,0,dq _,rfl,rfl,rfl,rfl,rfl⟩ rfl ⟨rfl,rfl,rfl,trivial⟩ trivial rfl ?_;rintro n g az aS ⟨i,ii,hi,rfl,eu,rfl,rfl,rfl⟩ bC;clear bC
 by_cases aj:i<2
 ·have q2:ii<2:=by omega
  have q3:0≤ii:=by omega
  obtain⟨L,pq,acm,aex,sD⟩:∃L:List (List (Int×Int)),[sn X A,sn X B][ii.toNat*1]?=some (sn X L)∧L.length≤4611686018427387904∧(∀j r,L[j]?=some r→X.xs[sV A B i+j]?=some [.w (.one (lF r))])∧sV A B (i+1)=sV A B i+L.length:=by
   have Jo:i=0∨i=1:=by omega
   rw[hxs];rcases Jo with rfl|rfl
   ·subst eu;refine⟨A,rfl,cr,fun j r af => ?_,by simp[sV]⟩;have a7:=(bt.1 af).1;rw[show sV A B 0+j=j from iF j,s7,dG,fI a7,af];rfl
   ·subst eu;refine⟨B,rfl,cY,fun j r af => ?_,by simp[sV]⟩;rw[show sV A B 1+j=A.length+j from rfl,s7,dG,gn (by omega),show A.length+j-A.length=j by omega,af];rfl
  (repeat first|(with_reducible apply fY);rfl|(with_reducible apply sb);(iterate 3 rfl)|(with_reducible apply NV);(iterate 3 rfl);(omega);(omega);(assumption);rfl|(with_reducible first|apply tf|apply pa|apply dR)|(with_reducible apply z7);assumption|with_reducible apply zZ|(with_reducible apply z6);rfl;(exact b5 (by omega))|(with_reducible apply qF);assumption);refine Hz 24 (XY X A B L (sV A B i) ii) L.length _ [] ⟨0,0,dq _,rfl,rfl,rfl,rfl,rfl⟩ rfl ⟨rfl,rfl,rfl,rfl,rfl,rfl,trivial⟩ trivial rfl ?_;rintro n g az aS ⟨j,dB,af,rfl,k0,rfl,rfl,rfl⟩ bC;clear bC
  by_cases hp:j<L.length
  ·have p2:dB<(L.length:Int):=by omega
   have p3:0≤dB:=by omega
   obtain⟨r,g1⟩:∃r,L[j]?=some r:=⟨_,bE hp⟩;have kP:=agy (f:=yx X.U X.cw) k0 g1;have ab:=aex j r g1;(repeat first|(with_reducible apply fY);rfl|(with_reducible apply AE);(iterate 5 rfl)|(with_reducible apply AD);(iterate 3 rfl);(omega);(omega);(assumption);rfl|(with_reducible first|apply tf|apply pa|apply dR)|(with_reducible apply z7);assumption|with_reducible apply zZ|(with_reducible apply z6);rfl;(exact b5 (by omega))|refine amB (ri:=6) (k:=2) (by assumption) rfl ?_|(with_reducible apply qF);assumption);refine⟨jM (Nat.lt_succ_self _) (cm rfl),rfl,_,[.w (.one (yx X.U X.cw r))],ab,rfl,pP.cons (tg.I1 _) pP.nil,?_,?_⟩
   ·(repeat first|(with_reducible apply fY);rfl|(with_reducible apply wA);(iterate 3 rfl);(exact jo (by omega));rfl|(with_reducible first|apply pa|apply dR)|(with_reducible apply z7);assumption|with_reducible apply Ht|(with_reducible apply z1);rfl;(rfl)|(with_reducible apply qF);assumption);exact⟨L.length-(j+1),_,[],by omega,⟨j+1,dB+1,hp,rfl,by omega,rfl,rfl,rfl⟩,rfl,⟨rfl,rfl,rfl,rfl,rfl,rfl,trivial⟩,trivial,rfl⟩
   ·(repeat first|(with_reducible apply fY);rfl|(with_reducible first|apply pa|apply dR|apply Wz)|(with_reducible apply WB);assumption|with_reducible apply Wx|(with_reducible apply z6);rfl;(rfl));exact⟨.inr rfl,.inl rfl⟩
  ·have e:j=L.length:=by omega
   subst e;(repeat first|(with_reducible apply fY);rfl|(with_reducible apply wA);(iterate 3 rfl);(exact jo (by omega));rfl|(with_reducible first|apply tf|apply pa|apply dR|apply Ht|apply Hu)|(with_reducible apply Hy);assumption|with_reducible apply Hv|(with_reducible apply z1);rfl;(exact b8 (by omega))|(with_reducible apply qF);assumption);exact⟨2-(i+1),_,[],by omega,⟨i+1,ii+1,aj,rfl,by omega,by rw[sD],rfl,rfl⟩,rfl,⟨rfl,rfl,rfl,trivial⟩,trivial,rfl⟩
 ·have e:i=2:=by omega
  subst e;(repeat first|(with_reducible apply fY);rfl|(with_reducible first|apply tf|apply pa|apply dR|apply Hu)|(with_reducible apply Hy);assumption|with_reducible apply Hv|(with_reducible apply z1);rfl;(exact b8 (by omega))|(with_reducible apply qF);assumption);exact⟨.inl rfl,.inr (by simp[sV,s7])⟩
instance aoa:nm ah 28 95 5 40:=⟨by kernel_rfl⟩
abbrev yw(v:Value)(l:List (Int×((Int×Int)×(Int×Int)))):bF:=⟨95,5,v,l.length,n6 l⟩
def cL(A B:List (List (Int×Int))):List (Int×((Int×Int)×(Int×Int))):=(iv A).map (fun e=>(0,e))++(iv B).map fun e=>(1,e)
theorem aaK(v:Value)(l:List (Int×((Int×Int)×(Int×Int))))(x:Int×((Int×Int)×(Int×Int))):yw v (l++[x])=⟨95,5,v,l.length+1,n6 l++EJ x⟩:=by
 simp[yw,n6,sY]
theorem Zf{A B:List (List (Int×Int))}{i:Nat}{e:(Int×Int)×(Int×Int)}(h:(iv A)[i]?=some e):(cL A B)[i]?=some (0,e):=by
 have hi:=(bt.1 h).1;unfold cL;rw[fI (by simpa using hi),dG,h];rfl
theorem Zg{A B:List (List (Int×Int))}{i:Nat}{e:(Int×Int)×(Int×Int)}(h:(iv B)[i]?=some e):(cL A B)[(iv A).length+i]?=some (1,e):=by
 unfold cL;rw[gn (by simp),jN,Nat.add_sub_cancel_left,dG,h];rfl
theorem N0(A B:List (List (Int×Int))):(cL A B).length=(iv A).length+(iv B).length:=by simp[cL]
def o3(A B:List (List (Int×Int)))(i:Nat):Nat:=if i=0 then 0 else if i=1 then(iv A).length else(iv A).length+(iv B).length
def Xa(A B:List (List (Int×Int)))(k:Nat)(R:aE)(az:List (Nat×ag))(aS:List (Nat×List AC)):Prop :=
 ∃(i:Nat) (ii:Int) (v:Value),i≤2∧k=2-i∧ii=i∧v.oneCell'=true∧R=br 0 (yw v ((cL A B).take (o3 A B i)))∧aS=[(1003,[.c v])]∧az=[(3,zR 1003),(9,.w (.agg [hc A,hc B])),(10,aL ii)]
def W9(M:List (Int×((Int×Int)×(Int×Int))))(ii:Int)(b:Nat)(i:Nat)(R:aE)(cW:List (List AC)):Prop:=∃v,v.oneCell'=true∧R=br 0 (yw v (M.take (b+i)))∧cW=[[.c v],[.c (.int .i64 ii)]]
theorem LA{A B:List (List (Int×Int))}{op fill rung cap:Int}(cr:A.length≤900000)(cY:B.length≤900000)(yF:∀r∈A,r.length≤900000)(yG:∀r∈B,r.length≤900000)(gd:(cL A B).length≤900000) :
  aP ah 57 [.w (.agg (h9 A B op fill rung cap))] (cE 5 (cL A B).length (n6 (cL A B))):=by
 have eU:aP ah 104 [.w (.agg (h9 A B op fill rung cap))] (.w (.agg [hc A,hc B])):=Ts;refine LM (f:=57) Tryz.func57 rfl rfl rfl rfl ?_;(repeat first|refine cc ?_|refine gz ?_|(with_reducible first|apply xP|apply vR|apply G6));refine C4 (swp 3 1003) (lZ _ _) ?_;refine ak4 0 95 5 rfl ?_;refine ak3 27 (Xa A B) 2 _ _ _ ⟨0,0,.slice none 0 0,dq _,rfl,rfl,rfl,rfl,rfl,rfl⟩ (k8 _ _ _) rfl ⟨rfl,rfl,rfl,trivial⟩ ⟨rfl,trivial⟩ rfl ?_;rintro n R az aS ⟨i,ii,v,hi,rfl,eu,hv,rfl,rfl,rfl⟩ bC;clear bC
 by_cases aj:i<2
 ·have q2:ii<2:=by omega
  have q3:0≤ii:=by omega
  obtain⟨L,pq,acm,acn,fA,sD⟩:∃L:List (List (Int×Int)),[hc A,hc B][ii.toNat*1]?=some (hc L)∧L.length≤900000∧(∀r∈L,r.length≤900000)∧(∀(j:Nat) e,(iv L)[j]?=some e→(cL A B)[o3 A B i+j]?=some (ii,e))∧o3 A B (i+1)=o3 A B i+(iv L).length:=by
   have Jo:i=0∨i=1:=by omega
   rcases Jo with rfl|rfl
   ·subst eu;refine⟨A,rfl,cr,yF,fun j e he => ?_,by simp[o3]⟩;rw[show o3 A B 0+j=j from iF j];exact Zf he
   ·subst eu;exact⟨B,rfl,cY,yG,fun j e he=>Zg he,by simp[o3]⟩
  have ko:=aiz L;have nl:=ae0 (L:=L) (by omega) (fun r ao=>by have:=acn r ao;omega);(repeat first|refine cc ?_|refine gz ?_|(with_reducible first|apply xP|apply vR|apply ak5|apply G6)|(with_reducible apply ak0);rfl;(exact b5 (by omega)));refine C4 (swp 4 1004) (lZ _ _) ?_;refine Mh 27 [(3,zR 1003),(4,zR 1004),(9,.w (.agg [hc A,hc B])),(10,aL ii)] [1003,1004] [[.c v],[.c (.int .i64 ii)]] (br 0 (yw v ((cL A B).take (o3 A B i)))) (W9 (cL A B) ii (o3 A B i)) (fun _ _ _=>False) rfl nl (by decide) ?hxs ?hp rfl ⟨rfl,rfl,rfl,rfl,trivial⟩ ⟨rfl,rfl,trivial⟩ (by decide) rfl rfl ⟨v,hv,rfl,rfl⟩ (bd.refl _) (TX (gE _)) ?round ?done (fun _ _ _ _ _ h=>h.elim)
  case hxs =>
   intro x ab;obtain⟨e,_,rfl⟩:=fS.1 ab;exact⟨rfl,rfl⟩
  case hp =>
   intro p hp;simp only[fi,sZ,or_false] at hp;rcases hp with rfl|rfl <;> exact⟨by decide,rfl⟩
  case round =>
   rintro j x R cW ab ⟨v,hv,rfl,rfl⟩ bC;rw[dG] at ab;obtain⟨⟨⟨de,jT⟩,dj,mA⟩,he,rfl⟩:=Option.map_eq_some_iff.1 ab;clear ab bC;have aC:=take_one (fA _ _ he);have y0:((cL A B).take (o3 A B i+j)).length≤900000:=by rw[ea];omega
   (refine aR ?_);refine mT 0 rfl rfl rfl rfl ?q1 ?q2 rfl rfl (fun ba bU => ?_)
   case q1=>exact eO (m:=1000000) (by show ((cL A B).take (o3 A B i+j)).length+1≤1000000;omega) (by decide)
   case q2=>show (((cL A B).take (o3 A B i+j)).length+1)*40≤140737488355328;omega
   (refine aR ?_);refine⟨_,_,⟨ba,bU,rfl,rfl⟩,?_,TX (gE _),rfl,⟨rfl,rfl,trivial⟩,rfl⟩;rw[←oB,aC,aaK];exact k8 _ _ _
  case done =>
   rintro R cW ⟨v,hv,rfl,rfl⟩ bC;clear bC;rw[jN];(repeat first|refine cc ?_|with_reducible apply vR);exact⟨2-(i+1),_,_,_,by omega,⟨i+1,ii+1,v,by omega,rfl,by omega,hv,rfl,rfl,rfl⟩,by rw[sD];exact bd.refl _,rfl,⟨rfl,rfl,rfl,trivial⟩,⟨rfl,trivial⟩,rfl⟩
 ·have e:i=2:=by omega
  subst e;have cz:(cL A B).take (o3 A B 2)=cL A B:=gp (by rw[N0];simp[o3]);rw[cz];have q4:¬ii<2:=by omega
  refine ak1 0 1003 0 (yw v (cL A B)) rfl rfl rfl ?_;(repeat first|refine cc ?_|(with_reducible first|apply xP|apply vR|apply Mi|apply ak2)|(with_reducible apply akZ);rfl;(exact b8 (by omega)))
  ((refine bk rfl (aX rfl aM) ?_))
  exact ag.aU.refl _
end Go.Proofs.YtklpfooafbjnpaaGreat
