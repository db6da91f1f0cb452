/-
  My own texts,without what this claim does not need. My own text.
-/
import Derived.Deep.SlicePairs
import Derived.ChangeSame
import Derived.Carry
import Derived.Test.YtklpfooafbjnpaaGreatRows
import Derived.Test.YtklpfooafbjnpaaGreatSLRoomsK12
set_option maxRecDepth 100000
set_option maxHeartbeats 64000000
set_option linter.unusedVariables false
set_option linter.unusedSimpArgs false
set_option linter.unusedSectionVars false
namespace Go.Proofs.YtklpfooafbjnpaaGreat
open Go.ChangeShapes Go.WideShapes Go.ChangeAt Go.RowKit Go.Joins
theorem laidOut:laidOutB Tryz.prog=true:=by kernel_rfl
theorem Oz{W:World}{b:Addr}{v:Value}(h:W.cell? b=some v):b.block<W.heap.size:=by
 unfold World.cell? at h
 split at h
 ·rename_i aZ;exact(iD.1 aZ).1
 ·cases h
theorem zz(p:cj)(l:List cj):pI (p::l) = .c (.int .i64 p.1) :: .c (.int .i64 p.2)::pI l:=rfl
theorem ZH{H:Type}(d:DataW H):1≤Rows.uptoBulk d:=by
 cases d with
 | lit l=>cases l <;> simp[Rows.uptoBulk]
 | nil=>simp[Rows.uptoBulk]
 | ptr d=>simp[Rows.uptoBulk]
 | slice elems spare=>simp[Rows.uptoBulk]
 | agg parts=>simp[Rows.uptoBulk]
 | iface t d=>simp[Rows.uptoBulk]
 | map entries=>simp[Rows.uptoBulk]
 | held h=>simp[Rows.uptoBulk]
theorem ZG{H:Type}(l:List (DataW H)):l.length≤Rows.uptoBulkAll l:=by
 induction l with
 | nil=>simp[Rows.uptoBulkAll]
 | cons x r bY=>have:=ZH x;simp only[Rows.uptoBulkAll,hP];omega
theorem Oo{H:Type}(elems spare:List (DataW H)):Rows.uptoBulkAll elems+1≤Rows.uptoBulk (.slice elems spare):=by
 simp only[Rows.uptoBulk];omega
theorem Wo{H:Type}{P:Program}{e:TypeId}{d:DataW H}{w:Nat}:∀ {l:List (DataW H)},d∈l→w∈DataW.weights P e d→w∈DataW.weightsAll P e l
 | x::l,h,hw=>by
  rw[DataW.weightsAll];rcases fi.1 h with rfl|h
  ·exact sW _ hw
  ·exact xD _ (Wo h hw)
theorem ahK{H:Type}{enc:TypeId×Value→H}{P:Program}{W:World}{t e:TypeId}{f0 f1:Field}(aC:P.underlying t=some (.slice e))(he:P.underlying e=some (.struct #[f0,f1]))(ce:P.cellsOf e=2)(xx:f0.offset=0)(o1:f1.offset=1)(c0:P.cellsOf f0.type=1)(c1:P.cellsOf f1.type=1)(dU:P.underlying f0.type=some (.int .i64))(bD:P.underlying f1.type=some (.int .i64))
  {v:Value} {d:DataW H} {p:List MemPlace} (hv:∃a len cap,v = .slice a len cap) (aF:DataW.Trod enc P W 0 (fun _=>true) true t v d p) :
  ∃l:List (Int×Int),(∀n,(∀w∈DataW.weights P t d,w≤n)→l.length*P.bytesOf e≤n)∧l.length+1≤Rows.uptoBulk d∧cR (fun _=>True) id W ((.w (.one (lF l)))) v:=by
 obtain⟨a0,ia,Et,rfl⟩:=hv;obtain⟨eW,au⟩:=aF;rcases Go.Deep.open_slice_pairs aC he ce xx o1 c0 c1 au with ⟨dE,ab⟩|⟨a,len,cap,m,n,yk,Yc,D0,uL,r4,fL,dE,aa,al,hm,rf,ab,hi⟩
 ·simp[Value.cells] at dE;obtain⟨rfl,rfl,rfl⟩:=dE;obtain⟨rfl,rfl⟩:=Prod.mk.inj ab;exact⟨[],(fun n _=>by simp),(by simp[Rows.uptoBulk]),⟨none,0,rfl,cF _,rfl,fun h=>absurd h (Nat.lt_irrefl _)⟩,fun _ _=>trivial⟩
 ·simp[Value.cells] at dE;obtain⟨rfl,rfl,rfl⟩:=dE;simp only[if_true] at rf;subst rf;simp only[Prod.mk.injEq] at ab;obtain⟨oK,rfl⟩:=ab
  have each:∀i,i<m→∃q:Int×Int,yk i = .int .i64 q.1∧Yc i = .int .i64 q.2:=fun i h=>by
   obtain⟨_,_,g0,g1⟩:=hi i h;obtain⟨x,ab,_,uF⟩:=DataW.trod_int dU g0;obtain⟨y,ai,_,aoX⟩:=DataW.trod_int bD g1;simp at ab ai;exact⟨(x,y),ab,ai⟩
  obtain⟨q,aj⟩:=Go.Deep.choose_lt each
  have sv:∀(l:List (Int×Int)) (k:Nat),(∀i (p:Int×Int),l[i]?=some p→W.cell? (a.add ((k+i)*2))=some (.int .i64 p.1)∧W.cell? (a.add ((k+i)*2+1))=some (.int .i64 p.2)) →
    ∃vs:List Value,bS (fun _=>True) id W (pI l) vs∧∀(j:Nat) v,vs[j]?=some v→W.cell? (a.add (k*2+j))=some v:=by
   intro l
   induction l with
   | nil=>intro k _;exact⟨[],⟨rfl,fun i x v h=>by simp[pI] at h⟩,fun j v h=>by simp at h⟩
   | cons p l bY =>
    intro k h
    obtain⟨vs,g1,g2⟩:=bY (k+1) (fun i fH mS=>by
     have:=h (i+1) fH (by simpa using mS);rw[show k+(i+1)=k+1+i by omega] at this;exact this)
    obtain⟨h1,h2⟩:=h 0 p rfl;refine⟨.int .i64 p.1 :: .int .i64 p.2::vs,⟨by simp[zz,g1.1],fun i x v ab hv => ?_⟩,fun j v hv => ?_⟩
    ·match i with
     | 0=>simp[zz] at ab hv;subst ab;subst hv;exact⟨rfl,rfl⟩
     | 1=>simp[zz] at ab hv;subst ab;subst hv;exact⟨rfl,rfl⟩
     | i+2=>exact g1.2 i x v (by simpa [zz] using ab) (by simpa using hv)
    ·match j with
     | 0=>simp at hv;subst hv;simpa using h1
     | 1=>simp at hv;subst hv;simpa using h2
     | j+2 =>
      have:=g2 j v (by simpa using hv);rw[show (k+1)*2+j=k*2+(j+2) by omega] at this;exact this
  obtain⟨vs,g1,g2⟩:=sv ((List.range ia).map q) 0 (fun i p hp=>by
   rw[dG] at hp;cases ao:(List.range ia)[i]? with
   | none=>rw[ao] at hp;cases hp
   | some j =>
    rw[ao] at hp;cases hp;obtain⟨ar,aJ⟩:=bt.1 ao;simp at ar aJ;subst aJ;obtain⟨cz,aH,_⟩:=hi i (by omega);obtain⟨f0,f1⟩:=aj i (by omega);rw[f0] at cz;rw[f1] at aH;simpa using ⟨cz,aH⟩)
  have hlen:∀l:List (Int×Int),(pI l).length=l.length*2:=fun l=>by
   induction l with
   | nil=>rfl
   | cons p l bY=>simp[zz,bY];omega
  have acQ:∀l:List (Int×Int),∀y∈pI l,y.aY=true:=fun l=>by
   induction l with
   | nil=>intro y ai;cases ai
   | cons p l bY =>
    intro y ai;simp only[zz,fi] at ai;rcases ai with rfl|rfl|ai
    ·rfl
    ·rfl
    ·exact bY y ai
  refine⟨(List.range ia).map q,fun n hw => ?_,?_,?_⟩
  ·rw[oK] at hw;unfold DataW.weights at hw;rw[aC] at hw;simp only at hw;have:=hw _ (hA ..);refine eO (ig _ ?_) this;simp
  ·rw[oK];have h1:=Oo (H:=H) (List.map (fun i=>DataW.agg [D0 i,uL i]) (List.range ia)) (List.map (fun j=>DataW.agg [D0 (ia+j),uL (ia+j)]) (List.range (m-ia)));have h2:=ZG (H:=H) (List.map (fun i=>DataW.agg [D0 i,uL i]) (List.range ia));simp only[jN,List.length_range] at h2 ⊢;omega
  refine⟨⟨some a,m,by simp,by simpa using al,hlen _,fun aA=>⟨a,vs,rfl,?_,g1,fun j v hv=>by have:=g2 j v hv;rwa [Nat.zero_mul,iF] at this,acQ _⟩⟩,fun _ _=>trivial⟩;have BH:0<ia:=by simpa using aA
  have:=Oz (hi 0 (by omega)).1;rwa [block_add] at this
theorem ajw{P:Program}{f:FuncId}{args:List ag}(h:aP P f args (bl true))(kl:List Value)(W:World)(al:args.length=kl.length)(ao:∀(i:Nat) (x:ag) (v:Value),args[i]?=some x→kl[i]?=some v→cR (fun _=>True) id W x v) :
  Calls P f kl.toArray W fun e W'=>e = .returned (.bool true)∧Below W.heap.size W W' :=
 (h.call (fun _=>True) W kl ⟨al,ao⟩).mono fun e W' ⟨v,he,⟨hv,_⟩,aa⟩=>by subst hv;exact⟨he,aa⟩
theorem Oq{H:Type}(D:Nat→DataW H)(q:Nat→List cj):∀(l:List Nat),(∀i∈l,(q i).length+1≤Rows.uptoBulk (D i))→l.length+bM (l.map q)≤Rows.uptoBulkAll (l.map D)
 | [],_=>by simp[bM,Rows.uptoBulkAll]
 | i::l,h=>by
  have h1:=h i (hA ..);have h2:=Oq D q l fun j af=>h j (k5 _ af);have e:bM ((i::l).map q)=(q i).length+bM (l.map q):=by simp[bM]
  rw[e,hQ,Rows.uptoBulkAll,hP];omega
theorem Tg{H:Type}{enc:TypeId×Value→H}{P:Program}{W:World}{tt t e:TypeId}{f0 f1:Field}(hu:P.underlying tt=some (.slice t))(wL:P.cellsOf t=1)(aC:P.underlying t=some (.slice e))(he:P.underlying e=some (.struct #[f0,f1]))(ce:P.cellsOf e=2)(xx:f0.offset=0)(o1:f1.offset=1)(c0:P.cellsOf f0.type=1)(c1:P.cellsOf f1.type=1)(dU:P.underlying f0.type=some (.int .i64))(bD:P.underlying f1.type=some (.int .i64))
  {v:Value} {d:DataW H} {p:List MemPlace} (hv:∃a len cap,v = .slice a len cap) (aF:DataW.Trod enc P W 0 (fun _=>true) true tt v d p) :
  ∃L:List (List cj),(∀n,(∀w∈DataW.weights P tt d,w≤n)→L.length*P.bytesOf t≤n∧∀r∈L,r.length*P.bytesOf e≤n)∧L.length+bM L+1≤Rows.uptoBulk d∧cR (fun _=>True) id W (.w (.one (hc L))) v:=by
 obtain⟨a0,ia,Et,rfl⟩:=hv;obtain⟨eW,au⟩:=aF;rcases Go.Deep.open_slice1 hu wL au with ⟨dE,ab⟩|⟨a,len,cap,m,n,yk,D0,r4,dE,aa,al,hm,rf,ab,hi⟩
 ·simp[Value.cells] at dE;obtain⟨rfl,rfl,rfl⟩:=dE;obtain⟨rfl,rfl⟩:=Prod.mk.inj ab;exact⟨[],(fun n _=>⟨by simp,fun r ao=>by cases ao⟩),(by simp[Rows.uptoBulk,bM]),⟨none,0,rfl,cF _,rfl,fun h=>absurd h (Nat.lt_irrefl _)⟩,fun _ _=>trivial⟩
 ·simp[Value.cells] at dE;obtain⟨rfl,rfl,rfl⟩:=dE;simp only[if_true] at rf;subst rf
  have each:∀i,i<m→∃q:List cj,(∀n,(∀w∈DataW.weights P t (D0 i),w≤n)→q.length*P.bytesOf e≤n)∧q.length+1≤Rows.uptoBulk (D0 i)∧cR (fun _=>True) id W (.w (.one (lF q))) (yk i):=fun i h=>by
   obtain⟨_,g0⟩:=hi i h;generalize yk i=x at g0
   have eH:∃a len cap,x = .slice a len cap:=by
    rcases Go.Deep.open_slice_pairs aC he ce xx o1 c0 c1 g0 with ⟨ak,_⟩|⟨a,len,cap,_,_,_,_,_,_,_,_,ak,_⟩
    ·exact⟨none,0,0,List.head_eq_of_cons_eq ak⟩
    ·exact⟨some a,len,cap,List.head_eq_of_cons_eq ak⟩
   exact ahK aC he ce xx o1 c0 c1 dU bD eH ⟨n,by obtain⟨a,len,cap,rfl⟩:=eH;exact g0⟩
  obtain⟨q,aj⟩:=Go.Deep.choose_lt each;have oK:=congrArg Prod.fst ab;simp only at oK
  have gv:∀(j:Nat) u,((List.range ia).map yk)[j]?=some u→W.cell? (a.add j)=some u∧j<ia:=fun j u hu=>by
   rw[dG] at hu;cases ao:(List.range ia)[j]? with
   | none=>rw[ao] at hu;cases hu
   | some i =>
    rw[ao] at hu;cases hu;obtain⟨ar,aJ⟩:=bt.1 ao;simp at ar aJ;subst aJ;exact⟨(hi j (by omega)).1,ar⟩
  refine⟨(List.range ia).map q,fun k hw => ?_,?_,?_⟩
  ·rw[oK] at hw;unfold DataW.weights at hw;rw[hu] at hw;simp only at hw;refine⟨?_,fun r ao => ?_⟩
   ·have:=hw _ (hA ..);refine eO (ig _ ?_) this;simp
   ·obtain⟨i,b7,rfl⟩:=fS.1 ao;have anM:i<ia:=by simpa using b7
    exact(aj i (by omega)).1 k fun w nE=>hw w (k5 _ (sW _ (Wo (fS.2 ⟨i,b7,rfl⟩) nE)))
  ·rw[oK];have h1:=Oo (H:=H) ((List.range ia).map D0) ((List.range (m-ia)).map fun j=>D0 (ia+j));have h2:=Oq D0 q (List.range ia) fun i b7=>(aj i (jM (nO.1 b7) al)).2.1;simp only[jN,List.length_range] at h2 ⊢;omega
  refine⟨⟨some a,m,by simp,by simpa using al,by simp,fun aA=>⟨a,(List.range ia).map yk,rfl,?_,⟨by simp,fun i x u ab hu => ?_⟩,fun j u hu=>(gv j u hu).1,fun y ai => ?_⟩⟩,fun _ _=>trivial⟩
  ·have BH:0<ia:=by simpa using aA
   have:=Oz (hi 0 (by omega)).1;rwa [block_add] at this
  ·rw[dG] at hu;rw[List.map_map,dG] at ab;cases ao:(List.range ia)[i]? with
   | none=>rw[ao] at ab;cases ab
   | some j =>
    rw[ao] at ab hu;cases ab;cases hu;have BC:j<ia:=by have:=cN ao;simpa using this
    exact(aj j (by omega)).2.2
  ·rw[List.map_map] at ai;obtain⟨j,_,rfl⟩:=fS.1 ai;rfl
theorem ahF{P:Program}{W:World}{base t:Nat}{bq:Array Field}{v:Value}(aC:P.underlying t=some (.struct bq))(h:Value.okWide P W .any base t v):∃cs,v = .agg cs:=by
 unfold Value.okWide at h;rw[aC] at h;obtain⟨cs,h1,_⟩:=h;exact⟨cs,h1⟩
theorem ahJ{H:Type}{enc:TypeId×Value→H}{P:Program}{W:World}{zP tt t e:TypeId}{g0 g1 g2 g3 g4 g5 f0 f1:Field}(af:P.underlying zP=some (.struct #[g0,g1,g2,g3,g4,g5]))(ZZ:P.cellsOf zP=6)(abN:g0.offset=0)(abO:g1.offset=1)(abP:g2.offset=2)(abQ:g3.offset=3)(abR:g4.offset=4)(abS:g5.offset=5)(PP:g0.type=tt)(PQ:g1.type=tt)(PL:P.cellsOf tt=1)
  (abJ:P.underlying g2.type=some (.int .i64)) (abK:P.underlying g3.type=some (.int .i64)) (abL:P.underlying g4.type=some (.int .i64)) (abM:P.underlying g5.type=some (.int .i64)) (abD:P.cellsOf g2.type=1) (abE:P.cellsOf g3.type=1) (abF:P.cellsOf g4.type=1) (abG:P.cellsOf g5.type=1)
  (hu:P.underlying tt=some (.slice t)) (wL:P.cellsOf t=1) (aC:P.underlying t=some (.slice e)) (he:P.underlying e=some (.struct #[f0,f1])) (ce:P.cellsOf e=2) (xx:f0.offset=0) (o1:f1.offset=1) (c0:P.cellsOf f0.type=1) (c1:P.cellsOf f1.type=1) (dU:P.underlying f0.type=some (.int .i64)) (bD:P.underlying f1.type=some (.int .i64))
  {v:Value} {d:DataW H} {p:List MemPlace} (acz:∃cs,v = .agg cs) (aF:DataW.Trod enc P W 0 (fun _=>true) true zP v d p) :
  ∃(A B:List (List cj)) (op fill rung cap:Int),(∀n,(∀w∈DataW.weights P zP d,w≤n)→A.length*P.bytesOf t≤n∧B.length*P.bytesOf t≤n∧(∀r∈A,r.length*P.bytesOf e≤n)∧∀r∈B,r.length*P.bytesOf e≤n)∧A.length+B.length+bM A+bM B≤Rows.uptoBulk d∧cR (fun _=>True) id W (.w (.agg (h9 A B op fill rung cap))) v:=by
 obtain⟨cs,rfl⟩:=acz;obtain⟨eW,au⟩:=aF;obtain⟨xs,n,_,ab,hlen,hxs,vk⟩:=DataW.trod_struct af au;rw[ZZ] at hlen
 obtain⟨qE,de,dj,ld,nV,vZ,dE⟩:∃qE de dj ld nV vZ,cs = #[qE,de,dj,ld,nV,vZ]:=by
  have al:cs.toList.length=6:=hlen
  match aZ:cs.toList,al with
  | [a,b,c,d,e,f],_=>exact⟨a,b,c,d,e,f,by rw[←Array.toArray_toList (xs:=cs),aZ]⟩
 subst dE
 obtain⟨lg,jT,mA,MX,MY,MZ,rfl⟩:∃lg jT mA MX MY MZ,xs=[lg,jT,mA,MX,MY,MZ]:=by
  match xs,hxs with
  | [a,b,c,d,e,f],_=>exact⟨a,b,c,d,e,f,rfl⟩
 have aF:=vk 0 g0 rfl;have h1:=vk 1 g1 rfl;have h2:=vk 2 g2 rfl;have ar:=vk 3 g3 rfl;have aJ:=vk 4 g4 rfl;have bR:=vk 5 g5 rfl;rw[abN,PP,PL] at aF;rw[abO,PQ,PL] at h1;rw[abP,abD] at h2;rw[abQ,abE] at ar;rw[abR,abF] at aJ;rw[abS,abG] at bR;have aF:DataW.trod enc P W 0 (fun _=>true) true n tt [qE]=some lg:=aF;have h1:DataW.trod enc P W 0 (fun _=>true) true n tt [de]=some jT:=h1;have h2:DataW.trod enc P W 0 (fun _=>true) true n g2.type [dj]=some mA:=h2;have ar:DataW.trod enc P W 0 (fun _=>true) true n g3.type [ld]=some MX:=ar;have aJ:DataW.trod enc P W 0 (fun _=>true) true n g4.type [nV]=some MY:=aJ;have bR:DataW.trod enc P W 0 (fun _=>true) true n g5.type [vZ]=some MZ:=bR
 have sl:∀x y,DataW.trod enc P W 0 (fun _=>true) true n tt [x]=some y→∃a len cap,x = .slice a len cap:=fun x y h=>by
  rcases Go.Deep.open_slice1 hu wL h with ⟨ak,_⟩|⟨a,len,cap,_,_,_,_,_,ak,_⟩
  ·exact⟨none,0,0,List.head_eq_of_cons_eq ak⟩
  ·exact⟨some a,len,cap,List.head_eq_of_cons_eq ak⟩
 have eH:=sl _ _ aF;have s1:=sl _ _ h1;have t0:DataW.Trod enc P W 0 (fun _=>true) true tt qE lg.1 lg.2:=⟨n,by obtain⟨a,len,cap,rfl⟩:=eH;exact aF⟩;have t1:DataW.Trod enc P W 0 (fun _=>true) true tt de jT.1 jT.2:=⟨n,by obtain⟨a,len,cap,rfl⟩:=s1;exact h1⟩;obtain⟨A,w1,cO,cf⟩:=Tg hu wL aC he ce xx o1 c0 c1 dU bD eH t0;obtain⟨B,w2,cP,dH⟩:=Tg hu wL aC he ce xx o1 c0 c1 dU bD s1 t1;obtain⟨gC,aN,_,_⟩:=DataW.trod_int abJ h2;obtain⟨ru,ck,_,_⟩:=DataW.trod_int abK ar;obtain⟨rv,eg,_,_⟩:=DataW.trod_int abL aJ;obtain⟨Cs,jh,_,_⟩:=DataW.trod_int abM bR;simp at aN ck eg jh;subst aN ck eg jh;have oK:=congrArg Prod.fst ab;simp only[hQ,pD] at oK;refine⟨A,B,gC,ru,rv,Cs,fun k hw => ?_,?_,[qE,de,.int .i64 gC,.int .i64 ru,.int .i64 rv,.int .i64 Cs],rfl,rfl,fun i x u ab hu => ?_⟩
 ·rw[oK] at hw;unfold DataW.weights at hw;rw[af] at hw;simp only[hQ,pD,DataW.weightsEach,PP,PQ] at hw;obtain⟨a1,a2⟩:=w1 k fun w h=>hw w (sW _ h);obtain⟨a3,a4⟩:=w2 k fun w h=>hw w (xD _ (sW _ h));exact⟨a1,a3,a2,a4⟩
 ·rw[oK];simp only[Rows.uptoBulk,Rows.uptoBulkAll];omega
 ·match i with
  | 0=>cases ab;cases hu;exact cf
  | 1=>cases ab;cases hu;exact dH
  | 2=>cases ab;cases hu;exact⟨rfl,rfl⟩
  | 3=>cases ab;cases hu;exact⟨rfl,rfl⟩
  | 4=>cases ab;cases hu;exact⟨rfl,rfl⟩
  | 5=>cases ab;cases hu;exact⟨rfl,rfl⟩
  | i+6=>simp[h9] at ab
end Go.Proofs.YtklpfooafbjnpaaGreat
