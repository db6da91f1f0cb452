/-
  My own texts,without what this claim does not need. My own text.
-/
import Derived.Deep.SlicePairs
import Derived.ChangeSame
import Derived.Carry
import Derived.Test.YtklpfooafbjnpaaGreatRows
import Derived.Test.YtklpfooafbjnpaaGreatSLPartsK12
set_option maxRecDepth 100000
set_option maxHeartbeats 64000000
set_option linter.unusedVariables false
set_option linter.unusedSimpArgs false
set_option linter.unusedSectionVars false
namespace Go.Proofs.YtklpfooafbjnpaaGreat
open Go.ChangeShapes Go.WideShapes Go.ChangeAt Go.RowKit Go.Joins
theorem laidOut:laidOutB Tryz.prog=true:=by kernel_rfl
theorem Ol{W:World}{b:Addr}{v:Value}(h:W.cell? b=some v):b.block<W.heap.size:=by
 unfold World.cell? at h
 split at h
 ·rename_i aZ;exact(h9.1 aZ).1
 ·cases h
theorem zn(p:cj)(l:List cj):pG (p::l) = .c (.int .i64 p.1) :: .c (.int .i64 p.2)::pG l:=rfl
theorem Zu{H:Type}(d:DataW H):1≤Rows.uptoBulk d:=by
 cases d with
 | lit l=>cases l <;> simp[Rows.uptoBulk]
 | nil=>simp[Rows.uptoBulk]
 | ptr d=>simp[Rows.uptoBulk]
 | slice elems spare=>simp[Rows.uptoBulk]
 | agg parts=>simp[Rows.uptoBulk]
 | iface t d=>simp[Rows.uptoBulk]
 | map entries=>simp[Rows.uptoBulk]
 | held h=>simp[Rows.uptoBulk]
theorem Zt{H:Type}(l:List (DataW H)):l.length≤Rows.uptoBulkAll l:=by
 induction l with
 | nil=>simp[Rows.uptoBulkAll]
 | cons x r cf=>have:=Zu x;simp only[Rows.uptoBulkAll,hb];omega
theorem Oe{H:Type}(elems spare:List (DataW H)):Rows.uptoBulkAll elems+1≤Rows.uptoBulk (.slice elems spare):=by
 simp only[Rows.uptoBulk];omega
theorem Wa{H:Type}{P:Program}{e:TypeId}{d:DataW H}{w:Nat}:∀ {l:List (DataW H)},d∈l→w∈DataW.weights P e d→w∈DataW.weightsAll P e l
 | x::l,h,hw=>by
  rw[DataW.weightsAll];rcases fg.1 h with rfl|h
  ·exact sI _ hw
  ·exact xp _ (Wa h hw)
theorem aho{H:Type}{enc:TypeId×Value→H}{P:Program}{W:World}{t e:TypeId}{f0 f1:Field}(aC:P.underlying t=some (.slice e))(he:P.underlying e=some (.struct #[f0,f1]))(ce:P.cellsOf e=2)(xj:f0.offset=0)(o1:f1.offset=1)(c0:P.cellsOf f0.type=1)(c1:P.cellsOf f1.type=1)(eY:P.underlying f0.type=some (.int .i64))(bD:P.underlying f1.type=some (.int .i64))
  {v:Value} {d:DataW H} {p:List MemPlace} (hv:∃a len cap,v = .slice a len cap) (aE:DataW.Trod enc P W 0 (fun _=>true) true t v d p) :
  ∃l:List (Int×Int),(∀n,(∀w∈DataW.weights P t d,w≤n)→l.length*P.bytesOf e≤n)∧l.length+1≤Rows.uptoBulk d∧cS (fun _=>True) id W ((.w (.one (lC l)))) v:=by
 obtain⟨a0,gl,AA,rfl⟩:=hv;obtain⟨fS,aw⟩:=aE;rcases Go.Deep.open_slice_pairs aC he ce xj o1 c0 c1 aw with ⟨di,ab⟩|⟨a,len,cap,m,n,uG,XZ,D0,zU,qN,gz,di,aa,al,hm,oI,ab,hi⟩
 ·simp[Value.cells] at di;obtain⟨rfl,rfl,rfl⟩:=di;obtain⟨rfl,rfl⟩:=Prod.mk.inj ab;exact⟨[],(fun n _=>by simp),(by simp[Rows.uptoBulk]),⟨none,0,rfl,cE _,rfl,fun h=>absurd h (sJ _)⟩,fun _ _=>trivial⟩
 ·simp[Value.cells] at di;obtain⟨rfl,rfl,rfl⟩:=di;simp only[if_true] at oI;subst oI;simp only[Prod.mk.injEq] at ab;obtain⟨oG,rfl⟩:=ab
  have each:∀i,i<m→∃q:Int×Int,uG i = .int .i64 q.1∧XZ i = .int .i64 q.2:=fun i h=>by
   obtain⟨_,_,g0,g1⟩:=hi i h;obtain⟨x,ab,_,uu⟩:=DataW.trod_int eY g0;obtain⟨y,ai,_,aoE⟩:=DataW.trod_int bD g1;simp at ab ai;exact⟨(x,y),ab,ai⟩
  obtain⟨q,aj⟩:=Go.Deep.choose_lt each
  have sd:∀(l:List (Int×Int)) (k:Nat),(∀i (p:Int×Int),l[i]?=some p→W.cell? (a.add ((k+i)*2))=some (.int .i64 p.1)∧W.cell? (a.add ((k+i)*2+1))=some (.int .i64 p.2)) →
    ∃vs:List Value,bO (fun _=>True) id W (pG l) vs∧∀(j:Nat) v,vs[j]?=some v→W.cell? (a.add (k*2+j))=some v:=by
   intro l
   induction l with
   | nil=>intro k _;exact⟨[],⟨rfl,fun i x v h=>by simp[pG] at h⟩,fun j v h=>by simp at h⟩
   | cons p l cf =>
    intro k h
    obtain⟨vs,g1,g2⟩:=cf (k+1) (fun i fJ mT=>by
     have:=h (i+1) fJ (by simpa using mT);rw[show k+(i+1)=k+1+i by omega] at this;exact this)
    obtain⟨h1,h2⟩:=h 0 p rfl;refine⟨.int .i64 p.1 :: .int .i64 p.2::vs,⟨by simp[zn,g1.1],fun i x v ab hv => ?_⟩,fun j v hv => ?_⟩
    ·match i with
     | 0=>simp[zn] at ab hv;subst ab;subst hv;exact⟨rfl,rfl⟩
     | 1=>simp[zn] at ab hv;subst ab;subst hv;exact⟨rfl,rfl⟩
     | i+2=>exact g1.2 i x v (by simpa [zn] using ab) (by simpa using hv)
    ·match j with
     | 0=>simp at hv;subst hv;simpa using h1
     | 1=>simp at hv;subst hv;simpa using h2
     | j+2 =>
      have:=g2 j v (by simpa using hv);rw[show (k+1)*2+j=k*2+(j+2) by omega] at this;exact this
  obtain⟨vs,g1,g2⟩:=sd ((List.range gl).map q) 0 (fun i p hp=>by
   rw[dt] at hp;cases ao:(List.range gl)[i]? with
   | none=>rw[ao] at hp;cases hp
   | some j =>
    rw[ao] at hp;cases hp;obtain⟨ar,aK⟩:=bq.1 ao;simp at ar aK;subst aK;obtain⟨cr,aH,_⟩:=hi i (by omega);obtain⟨f0,f1⟩:=aj i (by omega);rw[f0] at cr;rw[f1] at aH;simpa using ⟨cr,aH⟩)
  have hlen:∀l:List (Int×Int),(pG l).length=l.length*2:=fun l=>by
   induction l with
   | nil=>rfl
   | cons p l cf=>simp[zn,cf];omega
  have acA:∀l:List (Int×Int),∀y∈pG l,y.aW=true:=fun l=>by
   induction l with
   | nil=>intro y ai;cases ai
   | cons p l cf =>
    intro y ai;simp only[zn,fg] at ai;rcases ai with rfl|rfl|ai
    ·rfl
    ·rfl
    ·exact cf y ai
  refine⟨(List.range gl).map q,fun n hw => ?_,?_,?_⟩
  ·rw[oG] at hw;unfold DataW.weights at hw;rw[aC] at hw;simp only at hw;have:=hw _ (hc ..);refine eO (ic _ ?_) this;simp
  ·rw[oG];have h1:=Oe (H:=H) (List.map (fun i=>DataW.agg [D0 i,zU i]) (List.range gl)) (List.map (fun j=>DataW.agg [D0 (gl+j),zU (gl+j)]) (List.range (m-gl)));have h2:=Zt (H:=H) (List.map (fun i=>DataW.agg [D0 i,zU i]) (List.range gl));simp only[iD,List.length_range] at h2 ⊢;omega
  refine⟨⟨some a,m,by simp,by simpa using al,hlen _,fun aA=>⟨a,vs,rfl,?_,g1,fun j v hv=>by have:=g2 j v hv;rwa [Nat.zero_mul,ib] at this,acA _⟩⟩,fun _ _=>trivial⟩;have yJ:0<gl:=by simpa using aA
  have:=Ol (hi 0 (by omega)).1;rwa [block_add] at this
theorem aja{P:Program}{f:FuncId}{args:List ag}(h:aO P f args (bl true))(kl:List Value)(W:World)(al:args.length=kl.length)(ao:∀(i:Nat) (x:ag) (v:Value),args[i]?=some x→kl[i]?=some v→cS (fun _=>True) id W x v) :
  Calls P f kl.toArray W fun e W'=>e = .returned (.bool true)∧Below W.heap.size W W' :=
 (h.call (fun _=>True) W kl ⟨al,ao⟩).mono fun e W' ⟨v,he,⟨hv,_⟩,aa⟩=>by subst hv;exact⟨he,aa⟩
theorem Of{H:Type}(D:Nat→DataW H)(q:Nat→List cj):∀(l:List Nat),(∀i∈l,(q i).length+1≤Rows.uptoBulk (D i))→l.length+bP (l.map q)≤Rows.uptoBulkAll (l.map D)
 | [],_=>by simp[bP,Rows.uptoBulkAll]
 | i::l,h=>by
  have h1:=h i (hc ..);have h2:=Of D q l fun j af=>h j (kH _ af);have e:bP ((i::l).map q)=(q i).length+bP (l.map q):=by simp[bP]
  rw[e,hO,Rows.uptoBulkAll,hb];omega
theorem S1{H:Type}{enc:TypeId×Value→H}{P:Program}{W:World}{tt t e:TypeId}{f0 f1:Field}(hu:P.underlying tt=some (.slice t))(wB:P.cellsOf t=1)(aC:P.underlying t=some (.slice e))(he:P.underlying e=some (.struct #[f0,f1]))(ce:P.cellsOf e=2)(xj:f0.offset=0)(o1:f1.offset=1)(c0:P.cellsOf f0.type=1)(c1:P.cellsOf f1.type=1)(eY:P.underlying f0.type=some (.int .i64))(bD:P.underlying f1.type=some (.int .i64))
  {v:Value} {d:DataW H} {p:List MemPlace} (hv:∃a len cap,v = .slice a len cap) (aE:DataW.Trod enc P W 0 (fun _=>true) true tt v d p) :
  ∃L:List (List cj),(∀n,(∀w∈DataW.weights P tt d,w≤n)→L.length*P.bytesOf t≤n∧∀r∈L,r.length*P.bytesOf e≤n)∧L.length+bP L+1≤Rows.uptoBulk d∧cS (fun _=>True) id W (.w (.one (hf L))) v:=by
 obtain⟨a0,gl,AA,rfl⟩:=hv;obtain⟨fS,aw⟩:=aE;rcases Go.Deep.open_slice1 hu wB aw with ⟨di,ab⟩|⟨a,len,cap,m,n,uG,D0,qN,di,aa,al,hm,oI,ab,hi⟩
 ·simp[Value.cells] at di;obtain⟨rfl,rfl,rfl⟩:=di;obtain⟨rfl,rfl⟩:=Prod.mk.inj ab;exact⟨[],(fun n _=>⟨by simp,fun r ao=>by cases ao⟩),(by simp[Rows.uptoBulk,bP]),⟨none,0,rfl,cE _,rfl,fun h=>absurd h (sJ _)⟩,fun _ _=>trivial⟩
 ·simp[Value.cells] at di;obtain⟨rfl,rfl,rfl⟩:=di;simp only[if_true] at oI;subst oI
  have each:∀i,i<m→∃q:List cj,(∀n,(∀w∈DataW.weights P t (D0 i),w≤n)→q.length*P.bytesOf e≤n)∧q.length+1≤Rows.uptoBulk (D0 i)∧cS (fun _=>True) id W (.w (.one (lC q))) (uG i):=fun i h=>by
   obtain⟨_,g0⟩:=hi i h;generalize uG i=x at g0
   have eA:∃a len cap,x = .slice a len cap:=by
    rcases Go.Deep.open_slice_pairs aC he ce xj o1 c0 c1 g0 with ⟨ak,_⟩|⟨a,len,cap,_,_,_,_,_,_,_,_,ak,_⟩
    ·exact⟨none,0,0,List.head_eq_of_cons_eq ak⟩
    ·exact⟨some a,len,cap,List.head_eq_of_cons_eq ak⟩
   exact aho aC he ce xj o1 c0 c1 eY bD eA ⟨n,by obtain⟨a,len,cap,rfl⟩:=eA;exact g0⟩
  obtain⟨q,aj⟩:=Go.Deep.choose_lt each;have oG:=congrArg Prod.fst ab;simp only at oG
  have fT:∀(j:Nat) u,((List.range gl).map uG)[j]?=some u→W.cell? (a.add j)=some u∧j<gl:=fun j u hu=>by
   rw[dt] at hu;cases ao:(List.range gl)[j]? with
   | none=>rw[ao] at hu;cases hu
   | some i =>
    rw[ao] at hu;cases hu;obtain⟨ar,aK⟩:=bq.1 ao;simp at ar aK;subst aK;exact⟨(hi j (by omega)).1,ar⟩
  refine⟨(List.range gl).map q,fun k hw => ?_,?_,?_⟩
  ·rw[oG] at hw;unfold DataW.weights at hw;rw[hu] at hw;simp only at hw;refine⟨?_,fun r ao => ?_⟩
   ·have:=hw _ (hc ..);refine eO (ic _ ?_) this;simp
   ·obtain⟨i,b7,rfl⟩:=fE.1 ao;have anr:i<gl:=by simpa using b7
    exact(aj i (by omega)).1 k fun w nD=>hw w (kH _ (sI _ (Wa (fE.2 ⟨i,b7,rfl⟩) nD)))
  ·rw[oG];have h1:=Oe (H:=H) ((List.range gl).map D0) ((List.range (m-gl)).map fun j=>D0 (gl+j));have h2:=Of D0 q (List.range gl) fun i b7=>(aj i (ke (nN.1 b7) al)).2.1;simp only[iD,List.length_range] at h2 ⊢;omega
  refine⟨⟨some a,m,by simp,by simpa using al,by simp,fun aA=>⟨a,(List.range gl).map uG,rfl,?_,⟨by simp,fun i x u ab hu => ?_⟩,fun j u hu=>(fT j u hu).1,fun y ai => ?_⟩⟩,fun _ _=>trivial⟩
  ·have yJ:0<gl:=by simpa using aA
   have:=Ol (hi 0 (by omega)).1;rwa [block_add] at this
  ·rw[dt] at hu;rw[List.map_map,dt] at ab;cases ao:(List.range gl)[i]? with
   | none=>rw[ao] at ab;cases ab
   | some j =>
    rw[ao] at ab hu;cases ab;cases hu;have Bs:j<gl:=by have:=cM ao;simpa using this
    exact(aj j (by omega)).2.2
  ·rw[List.map_map] at ai;obtain⟨j,_,rfl⟩:=fE.1 ai;rfl
theorem ahj{P:Program}{W:World}{base t:Nat}{br:Array Field}{v:Value}(aC:P.underlying t=some (.struct br))(h:Value.okWide P W .any base t v):∃cs,v = .agg cs:=by
 unfold Value.okWide at h;rw[aC] at h;obtain⟨cs,h1,_⟩:=h;exact⟨cs,h1⟩
theorem ahn{H:Type}{enc:TypeId×Value→H}{P:Program}{W:World}{zD tt t e:TypeId}{g0 g1 g2 g3 g4 g5 f0 f1:Field}(af:P.underlying zD=some (.struct #[g0,g1,g2,g3,g4,g5]))(ZM:P.cellsOf zD=6)(aby:g0.offset=0)(abz:g1.offset=1)(abA:g2.offset=2)(abB:g3.offset=3)(abC:g4.offset=4)(abD:g5.offset=5)(PB:g0.type=tt)(PC:g1.type=tt)(Px:P.cellsOf tt=1)
  (abu:P.underlying g2.type=some (.int .i64)) (abv:P.underlying g3.type=some (.int .i64)) (abw:P.underlying g4.type=some (.int .i64)) (abx:P.underlying g5.type=some (.int .i64)) (abn:P.cellsOf g2.type=1) (abo:P.cellsOf g3.type=1) (abp:P.cellsOf g4.type=1) (abq:P.cellsOf g5.type=1)
  (hu:P.underlying tt=some (.slice t)) (wB:P.cellsOf t=1) (aC:P.underlying t=some (.slice e)) (he:P.underlying e=some (.struct #[f0,f1])) (ce:P.cellsOf e=2) (xj:f0.offset=0) (o1:f1.offset=1) (c0:P.cellsOf f0.type=1) (c1:P.cellsOf f1.type=1) (eY:P.underlying f0.type=some (.int .i64)) (bD:P.underlying f1.type=some (.int .i64))
  {v:Value} {d:DataW H} {p:List MemPlace} (aci:∃cs,v = .agg cs) (aE:DataW.Trod enc P W 0 (fun _=>true) true zD v d p) :
  ∃(A B:List (List cj)) (op fill rung cap:Int),(∀n,(∀w∈DataW.weights P zD d,w≤n)→A.length*P.bytesOf t≤n∧B.length*P.bytesOf t≤n∧(∀r∈A,r.length*P.bytesOf e≤n)∧∀r∈B,r.length*P.bytesOf e≤n)∧A.length+B.length+bP A+bP B≤Rows.uptoBulk d∧cS (fun _=>True) id W (.w (.agg (hL A B op fill rung cap))) v:=by
 obtain⟨cs,rfl⟩:=aci;obtain⟨fS,aw⟩:=aE;obtain⟨xs,n,_,ab,hlen,hxs,vb⟩:=DataW.trod_struct af aw;rw[ZM] at hlen
 obtain⟨qB,dd,dj,k9,nU,vR,di⟩:∃qB dd dj k9 nU vR,cs = #[qB,dd,dj,k9,nU,vR]:=by
  have al:cs.toList.length=6:=hlen
  match aZ:cs.toList,al with
  | [a,b,c,d,e,f],_=>exact⟨a,b,c,d,e,f,by rw[←Array.toArray_toList (xs:=cs),aZ]⟩
 subst di
 obtain⟨lb,jP,mD,MN,MO,MP,rfl⟩:∃lb jP mD MN MO MP,xs=[lb,jP,mD,MN,MO,MP]:=by
  match xs,hxs with
  | [a,b,c,d,e,f],_=>exact⟨a,b,c,d,e,f,rfl⟩
 have aE:=vb 0 g0 rfl;have h1:=vb 1 g1 rfl;have h2:=vb 2 g2 rfl;have ar:=vb 3 g3 rfl;have aK:=vb 4 g4 rfl;have bX:=vb 5 g5 rfl;rw[aby,PB,Px] at aE;rw[abz,PC,Px] at h1;rw[abA,abn] at h2;rw[abB,abo] at ar;rw[abC,abp] at aK;rw[abD,abq] at bX;have aE:DataW.trod enc P W 0 (fun _=>true) true n tt [qB]=some lb:=aE;have h1:DataW.trod enc P W 0 (fun _=>true) true n tt [dd]=some jP:=h1;have h2:DataW.trod enc P W 0 (fun _=>true) true n g2.type [dj]=some mD:=h2;have ar:DataW.trod enc P W 0 (fun _=>true) true n g3.type [k9]=some MN:=ar;have aK:DataW.trod enc P W 0 (fun _=>true) true n g4.type [nU]=some MO:=aK;have bX:DataW.trod enc P W 0 (fun _=>true) true n g5.type [vR]=some MP:=bX
 have sl:∀x y,DataW.trod enc P W 0 (fun _=>true) true n tt [x]=some y→∃a len cap,x = .slice a len cap:=fun x y h=>by
  rcases Go.Deep.open_slice1 hu wB h with ⟨ak,_⟩|⟨a,len,cap,_,_,_,_,_,ak,_⟩
  ·exact⟨none,0,0,List.head_eq_of_cons_eq ak⟩
  ·exact⟨some a,len,cap,List.head_eq_of_cons_eq ak⟩
 have eA:=sl _ _ aE;have s1:=sl _ _ h1;have t0:DataW.Trod enc P W 0 (fun _=>true) true tt qB lb.1 lb.2:=⟨n,by obtain⟨a,len,cap,rfl⟩:=eA;exact aE⟩;have t1:DataW.Trod enc P W 0 (fun _=>true) true tt dd jP.1 jP.2:=⟨n,by obtain⟨a,len,cap,rfl⟩:=s1;exact h1⟩;obtain⟨A,w1,cP,cp⟩:=S1 hu wB aC he ce xj o1 c0 c1 eY bD eA t0;obtain⟨B,w2,cQ,dQ⟩:=S1 hu wB aC he ce xj o1 c0 c1 eY bD s1 t1;obtain⟨gD,aN,_,_⟩:=DataW.trod_int abu h2;obtain⟨rj,b6,_,_⟩:=DataW.trod_int abv ar;obtain⟨rk,eb,_,_⟩:=DataW.trod_int abw aK;obtain⟨Ci,jd,_,_⟩:=DataW.trod_int abx bX;simp at aN b6 eb jd;subst aN b6 eb jd;have oG:=congrArg Prod.fst ab;simp only[hO,pB] at oG;refine⟨A,B,gD,rj,rk,Ci,fun k hw => ?_,?_,[qB,dd,.int .i64 gD,.int .i64 rj,.int .i64 rk,.int .i64 Ci],rfl,rfl,fun i x u ab hu => ?_⟩
 ·rw[oG] at hw;unfold DataW.weights at hw;rw[af] at hw;simp only[hO,pB,DataW.weightsEach,PB,PC] at hw;obtain⟨a1,a2⟩:=w1 k fun w h=>hw w (sI _ h);obtain⟨a3,a4⟩:=w2 k fun w h=>hw w (xp _ (sI _ h));exact⟨a1,a3,a2,a4⟩
 ·rw[oG];simp only[Rows.uptoBulk,Rows.uptoBulkAll];omega
 ·match i with
  | 0=>cases ab;cases hu;exact cp
  | 1=>cases ab;cases hu;exact dQ
  | 2=>cases ab;cases hu;exact⟨rfl,rfl⟩
  | 3=>cases ab;cases hu;exact⟨rfl,rfl⟩
  | 4=>cases ab;cases hu;exact⟨rfl,rfl⟩
  | 5=>cases ab;cases hu;exact⟨rfl,rfl⟩
  | i+6=>simp[hL] at ab
theorem ZG{W:World}{b:Addr}{v:Value}(h:W.cell? b=some v):b.block<W.heap.size:=by
 unfold World.cell? at h
 split at h
 ·rename_i aZ;exact(h9.1 aZ).1
 ·cases h
theorem open_ints{H:Type}{enc:TypeId×Value→H}{P:Program}{W:World}{t e:TypeId}(aC:P.underlying t=some (.slice e))(c0:P.cellsOf e=1)(eY:P.underlying e=some (.int .i64))
  {v:Value} {d:DataW H} {p:List MemPlace} (hv:∃a len cap,v = .slice a len cap) (aE:DataW.Trod enc P W 0 (fun _=>true) true t v d p) :
  ∃l:List Int,(l.length:Int)≤9223372036854775807∧cS (fun _=>True) id W (iI l) v:=by
 obtain⟨a0,gl,AA,rfl⟩:=hv;obtain⟨fS,aw⟩:=aE;rcases Go.Deep.open_slice1 aC c0 aw with ⟨di,ab⟩|⟨a,len,cap,m,n,uG,D0,qN,di,aa,al,hm,oI,ab,hi⟩
 ·simp[Value.cells] at di;obtain⟨rfl,rfl,rfl⟩:=di;exact⟨[],by decide,⟨none,0,rfl,cE _,rfl,fun h=>absurd h (sJ _)⟩,fun _ _=>trivial⟩
 ·simp[Value.cells] at di;obtain⟨rfl,rfl,rfl⟩:=di;simp only[if_true] at oI;subst oI
  have each:∀i,i<m→∃q:Int,uG i = .int .i64 q:=fun i h=>by
   obtain⟨_,g0⟩:=hi i h;obtain⟨x,ab,_⟩:=DataW.trod_int eY g0;simp at ab;exact⟨x,ab⟩
  obtain⟨q,aj⟩:=Go.Deep.choose_lt each
  have fT:∀(j:Nat) u,(((List.range gl).map q).map fun x=>Value.int .i64 x)[j]?=some u→W.cell? (a.add j)=some u:=fun j u hu=>by
   rw[dt,dt] at hu;cases ao:(List.range gl)[j]? with
   | none=>rw[ao] at hu;cases hu
   | some i =>
    rw[ao] at hu;cases hu;obtain⟨ar,aK⟩:=bq.1 ao;simp at ar aK;subst aK;have cr:=(hi j (by omega)).1;rw[aj j (by omega)] at cr;exact cr
  refine⟨(List.range gl).map q,by simp;unfold maxLen at hm;omega,?_⟩;refine⟨⟨some a,m,by simp,by simpa using al,by simp[cw],fun aA=>⟨a,((List.range gl).map q).map fun x=>Value.int .i64 x,rfl,?_,⟨by simp[cw],fun i x u ab hu => ?_⟩,fT,fun y ai => ?_⟩⟩,fun _ _=>trivial⟩
  ·have yJ:0<gl:=by simpa using aA
   have:=ZG (hi 0 (by omega)).1;rwa [block_add] at this
  ·unfold cw at ab;rw[dt] at ab hu;cases ao:((List.range gl).map q)[i]? with
   | none=>rw[ao] at ab;cases ab
   | some y =>
    rw[ao] at ab hu;cases ab;cases hu;exact⟨rfl,rfl⟩
  ·unfold cw at ai;obtain⟨x,_,rfl⟩:=fE.1 ai;rfl
end Go.Proofs.YtklpfooafbjnpaaGreat
