/-
  My own texts,without what this claim does not need. My own text.
-/
import Derived.Deep.SlicePairs
import Derived.ChangeSame
import Derived.Carry
import Derived.Test.YtklpfooafbjnpaaGreatRows
import Derived.Test.YtklpfooafbjnpaaGreatSLClimbsK12
set_option maxRecDepth 100000
set_option maxHeartbeats 64000000
set_option linter.unusedVariables false
set_option linter.unusedSimpArgs false
set_option linter.unusedSectionVars false
namespace Go.Proofs.YtklpfooafbjnpaaGreat
open Go.ChangeShapes Go.WideShapes Go.ChangeAt Go.RowKit Go.Joins
theorem laidOut:laidOutB Tryz.prog=true:=by kernel_rfl
theorem Oo{W:World}{b:Addr}{v:Value}(h:W.cell? b=some v):b.block<W.heap.size:=by
 unfold World.cell? at h
 split at h
 ·rename_i ba;exact(iN.1 ba).1
 ·cases h
theorem zp(p:cc)(l:List cc):pL (p::l) = .c (.int .i64 p.1) :: .c (.int .i64 p.2)::pL l:=rfl
theorem Zu{H:Type}(d:DataW H):1≤Rows.uptoBulk d:=by
 cases d with
 | lit l=>cases l <;> simp[Rows.uptoBulk]
 | nil=>simp[Rows.uptoBulk]
 | ptr d=>simp[Rows.uptoBulk]
 | slice elems spare=>simp[Rows.uptoBulk]
 | agg parts=>simp[Rows.uptoBulk]
 | iface t d=>simp[Rows.uptoBulk]
 | map entries=>simp[Rows.uptoBulk]
 | held h=>simp[Rows.uptoBulk]
theorem Zt{H:Type}(l:List (DataW H)):l.length≤Rows.uptoBulkAll l:=by
 induction l with
 | nil=>simp[Rows.uptoBulkAll]
 | cons x r cg=>have:=Zu x;simp only[Rows.uptoBulkAll,hX];omega
theorem Of{H:Type}(elems spare:List (DataW H)):Rows.uptoBulkAll elems+1≤Rows.uptoBulk (.slice elems spare):=by
 simp only[Rows.uptoBulk];omega
theorem Wg{H:Type}{P:Program}{e:TypeId}{d:DataW H}{w:Nat}:∀ {l:List (DataW H)},d∈l→w∈DataW.weights P e d→w∈DataW.weightsAll P e l
 | x::l,h,hw=>by
  rw[DataW.weightsAll];rcases fg.1 h with rfl|h
  ·exact rA _ hw
  ·exact vD _ (Wg h hw)
theorem ahq{H:Type}{enc:TypeId×Value→H}{P:Program}{W:World}{t e:TypeId}{f0 f1:Field}(aE:P.underlying t=some (.slice e))(he:P.underlying e=some (.struct #[f0,f1]))(ce:P.cellsOf e=2)(vu:f0.offset=0)(o1:f1.offset=1)(c0:P.cellsOf f0.type=1)(c1:P.cellsOf f1.type=1)(ee:P.underlying f0.type=some (.int .i64))(bx:P.underlying f1.type=some (.int .i64))
  {v:Value} {d:DataW H} {p:List MemPlace} (hv:∃a len cap,v = .slice a len cap) (aF:DataW.Trod enc P W 0 (fun _=>true) true t v d p) :
  ∃l:List (Int×Int),(∀n,(∀w∈DataW.weights P t d,w≤n)→l.length*P.bytesOf e≤n)∧l.length+1≤Rows.uptoBulk d∧cS (fun _=>True) id W ((.w (.one (lJ l)))) v:=by
 obtain⟨a0,iq,Em,rfl⟩:=hv;obtain⟨gh,ay⟩:=aF;rcases Go.Deep.open_slice_pairs aE he ce vu o1 c0 c1 ay with ⟨dp,ab⟩|⟨a,len,cap,m,n,ya,X0,D0,uA,rW,fw,dp,aa,al,hm,rc,ab,hi⟩
 ·simp[Value.cells] at dp;obtain⟨rfl,rfl,rfl⟩:=dp;obtain⟨rfl,rfl⟩:=Prod.mk.inj ab;exact⟨[],(fun n _=>by simp),(by simp[Rows.uptoBulk]),⟨none,0,rfl,cF _,rfl,fun h=>absurd h (Nat.lt_irrefl _)⟩,fun _ _=>trivial⟩
 ·simp[Value.cells] at dp;obtain⟨rfl,rfl,rfl⟩:=dp;simp only[if_true] at rc;subst rc;simp only[Prod.mk.injEq] at ab;obtain⟨pt,rfl⟩:=ab
  have each:∀i,i<m→∃q:Int×Int,ya i = .int .i64 q.1∧X0 i = .int .i64 q.2:=fun i h=>by
   obtain⟨_,_,g0,g1⟩:=hi i h;obtain⟨x,ab,_,uu⟩:=DataW.trod_int ee g0;obtain⟨y,ai,_,aox⟩:=DataW.trod_int bx g1;simp at ab ai;exact⟨(x,y),ab,ai⟩
  obtain⟨q,aj⟩:=Go.Deep.choose_lt each
  have sf:∀(l:List (Int×Int)) (k:Nat),(∀i (p:Int×Int),l[i]?=some p→W.cell? (a.add ((k+i)*2))=some (.int .i64 p.1)∧W.cell? (a.add ((k+i)*2+1))=some (.int .i64 p.2)) →
    ∃vs:List Value,bS (fun _=>True) id W (pL l) vs∧∀(j:Nat) v,vs[j]?=some v→W.cell? (a.add (k*2+j))=some v:=by
   intro l
   induction l with
   | nil=>intro k _;exact⟨[],⟨rfl,fun i x v h=>by simp[pL] at h⟩,fun j v h=>by simp at h⟩
   | cons p l cg =>
    intro k h
    obtain⟨vs,g1,g2⟩:=cg (k+1) (fun i fL mY=>by
     have:=h (i+1) fL (by simpa using mY);rw[show k+(i+1)=k+1+i by omega] at this;exact this)
    obtain⟨h1,h2⟩:=h 0 p rfl;refine⟨.int .i64 p.1 :: .int .i64 p.2::vs,⟨by simp[zp,g1.1],fun i x v ab hv => ?_⟩,fun j v hv => ?_⟩
    ·match i with
     | 0=>simp[zp] at ab hv;subst ab;subst hv;exact⟨rfl,rfl⟩
     | 1=>simp[zp] at ab hv;subst ab;subst hv;exact⟨rfl,rfl⟩
     | i+2=>exact g1.2 i x v (by simpa [zp] using ab) (by simpa using hv)
    ·match j with
     | 0=>simp at hv;subst hv;simpa using h1
     | 1=>simp at hv;subst hv;simpa using h2
     | j+2 =>
      have:=g2 j v (by simpa using hv);rw[show (k+1)*2+j=k*2+(j+2) by omega] at this;exact this
  obtain⟨vs,g1,g2⟩:=sf ((List.range iq).map q) 0 (fun i p hp=>by
   rw[dD] at hp;cases ap:(List.range iq)[i]? with
   | none=>rw[ap] at hp;cases hp
   | some j =>
    rw[ap] at hp;cases hp;obtain⟨ar,aJ⟩:=bt.1 ap;simp at ar aJ;subst aJ;obtain⟨cB,aI,_⟩:=hi i (by omega);obtain⟨f0,f1⟩:=aj i (by omega);rw[f0] at cB;rw[f1] at aI;simpa using ⟨cB,aI⟩)
  have hlen:∀l:List (Int×Int),(pL l).length=l.length*2:=fun l=>by
   induction l with
   | nil=>rfl
   | cons p l cg=>simp[zp,cg];omega
  have acw:∀l:List (Int×Int),∀y∈pL l,y.aV=true:=fun l=>by
   induction l with
   | nil=>intro y ai;cases ai
   | cons p l cg =>
    intro y ai;simp only[zp,fg] at ai;rcases ai with rfl|rfl|ai
    ·rfl
    ·rfl
    ·exact cg y ai
  refine⟨(List.range iq).map q,fun n hw => ?_,?_,?_⟩
  ·rw[pt] at hw;unfold DataW.weights at hw;rw[aE] at hw;simp only at hw;have:=hw _ (hE ..);refine eI (iw _ ?_) this;simp
  ·rw[pt];have h1:=Of (H:=H) (List.map (fun i=>DataW.agg [D0 i,uA i]) (List.range iq)) (List.map (fun j=>DataW.agg [D0 (iq+j),uA (iq+j)]) (List.range (m-iq)));have h2:=Zt (H:=H) (List.map (fun i=>DataW.agg [D0 i,uA i]) (List.range iq));simp only[jT,List.length_range] at h2 ⊢;omega
  refine⟨⟨some a,m,by simp,by simpa using al,hlen _,fun aA=>⟨a,vs,rfl,?_,g1,fun j v hv=>by have:=g2 j v hv;rwa [Nat.zero_mul,hZ] at this,acw _⟩⟩,fun _ _=>trivial⟩;have Bw:0<iq:=by simpa using aA
  have:=Oo (hi 0 (by omega)).1;rwa [block_add] at this
theorem ai7{P:Program}{f:FuncId}{args:List ag}(h:aP P f args (bl true))(km:List Value)(W:World)(al:args.length=km.length)(ap:∀(i:Nat) (x:ag) (v:Value),args[i]?=some x→km[i]?=some v→cS (fun _=>True) id W x v) :
  Calls P f km.toArray W fun e W'=>e = .returned (.bool true)∧Below W.heap.size W W' :=
 (h.call (fun _=>True) W km ⟨al,ap⟩).mono fun e W' ⟨v,he,⟨hv,_⟩,aa⟩=>by subst hv;exact⟨he,aa⟩
theorem Og{H:Type}(D:Nat→DataW H)(q:Nat→List cc):∀(l:List Nat),(∀i∈l,(q i).length+1≤Rows.uptoBulk (D i))→l.length+bN (l.map q)≤Rows.uptoBulkAll (l.map D)
 | [],_=>by simp[bN,Rows.uptoBulkAll]
 | i::l,h=>by
  have h1:=h i (hE ..);have h2:=Og D q l fun j af=>h j (k8 _ af);have e:bN ((i::l).map q)=(q i).length+bN (l.map q):=by simp[bN]
  rw[e,hY,Rows.uptoBulkAll,hX];omega
theorem S7{H:Type}{enc:TypeId×Value→H}{P:Program}{W:World}{tt t e:TypeId}{f0 f1:Field}(hu:P.underlying tt=some (.slice t))(wF:P.cellsOf t=1)(aE:P.underlying t=some (.slice e))(he:P.underlying e=some (.struct #[f0,f1]))(ce:P.cellsOf e=2)(vu:f0.offset=0)(o1:f1.offset=1)(c0:P.cellsOf f0.type=1)(c1:P.cellsOf f1.type=1)(ee:P.underlying f0.type=some (.int .i64))(bx:P.underlying f1.type=some (.int .i64))
  {v:Value} {d:DataW H} {p:List MemPlace} (hv:∃a len cap,v = .slice a len cap) (aF:DataW.Trod enc P W 0 (fun _=>true) true tt v d p) :
  ∃L:List (List cc),(∀n,(∀w∈DataW.weights P tt d,w≤n)→L.length*P.bytesOf t≤n∧∀r∈L,r.length*P.bytesOf e≤n)∧L.length+bN L+1≤Rows.uptoBulk d∧cS (fun _=>True) id W (.w (.one (hl L))) v:=by
 obtain⟨a0,iq,Em,rfl⟩:=hv;obtain⟨gh,ay⟩:=aF;rcases Go.Deep.open_slice1 hu wF ay with ⟨dp,ab⟩|⟨a,len,cap,m,n,ya,D0,rW,dp,aa,al,hm,rc,ab,hi⟩
 ·simp[Value.cells] at dp;obtain⟨rfl,rfl,rfl⟩:=dp;obtain⟨rfl,rfl⟩:=Prod.mk.inj ab;exact⟨[],(fun n _=>⟨by simp,fun r ap=>by cases ap⟩),(by simp[Rows.uptoBulk,bN]),⟨none,0,rfl,cF _,rfl,fun h=>absurd h (Nat.lt_irrefl _)⟩,fun _ _=>trivial⟩
 ·simp[Value.cells] at dp;obtain⟨rfl,rfl,rfl⟩:=dp;simp only[if_true] at rc;subst rc
  have each:∀i,i<m→∃q:List cc,(∀n,(∀w∈DataW.weights P t (D0 i),w≤n)→q.length*P.bytesOf e≤n)∧q.length+1≤Rows.uptoBulk (D0 i)∧cS (fun _=>True) id W (.w (.one (lJ q))) (ya i):=fun i h=>by
   obtain⟨_,g0⟩:=hi i h;generalize ya i=x at g0
   have eg:∃a len cap,x = .slice a len cap:=by
    rcases Go.Deep.open_slice_pairs aE he ce vu o1 c0 c1 g0 with ⟨ak,_⟩|⟨a,len,cap,_,_,_,_,_,_,_,_,ak,_⟩
    ·exact⟨none,0,0,List.head_eq_of_cons_eq ak⟩
    ·exact⟨some a,len,cap,List.head_eq_of_cons_eq ak⟩
   exact ahq aE he ce vu o1 c0 c1 ee bx eg ⟨n,by obtain⟨a,len,cap,rfl⟩:=eg;exact g0⟩
  obtain⟨q,aj⟩:=Go.Deep.choose_lt each;have pt:=congrArg Prod.fst ab;simp only at pt
  have fB:∀(j:Nat) u,((List.range iq).map ya)[j]?=some u→W.cell? (a.add j)=some u∧j<iq:=fun j u hu=>by
   rw[dD] at hu;cases ap:(List.range iq)[j]? with
   | none=>rw[ap] at hu;cases hu
   | some i =>
    rw[ap] at hu;cases hu;obtain⟨ar,aJ⟩:=bt.1 ap;simp at ar aJ;subst aJ;exact⟨(hi j (by omega)).1,ar⟩
  refine⟨(List.range iq).map q,fun k hw => ?_,?_,?_⟩
  ·rw[pt] at hw;unfold DataW.weights at hw;rw[hu] at hw;simp only at hw;refine⟨?_,fun r ap => ?_⟩
   ·have:=hw _ (hE ..);refine eI (iw _ ?_) this;simp
   ·obtain⟨i,b7,rfl⟩:=fV.1 ap;have ann:i<iq:=by simpa using b7
    exact(aj i (by omega)).1 k fun w nL=>hw w (k8 _ (rA _ (Wg (fV.2 ⟨i,b7,rfl⟩) nL)))
  ·rw[pt];have h1:=Of (H:=H) ((List.range iq).map D0) ((List.range (m-iq)).map fun j=>D0 (iq+j));have h2:=Og D0 q (List.range iq) fun i b7=>(aj i (kg (nW.1 b7) al)).2.1;simp only[jT,List.length_range] at h2 ⊢;omega
  refine⟨⟨some a,m,by simp,by simpa using al,by simp,fun aA=>⟨a,(List.range iq).map ya,rfl,?_,⟨by simp,fun i x u ab hu => ?_⟩,fun j u hu=>(fB j u hu).1,fun y ai => ?_⟩⟩,fun _ _=>trivial⟩
  ·have Bw:0<iq:=by simpa using aA
   have:=Oo (hi 0 (by omega)).1;rwa [block_add] at this
  ·rw[dD] at hu;rw[List.map_map,dD] at ab;cases ap:(List.range iq)[i]? with
   | none=>rw[ap] at ab;cases ab
   | some j =>
    rw[ap] at ab hu;cases ab;cases hu;have Br:j<iq:=by have:=cP ap;simpa using this
    exact(aj j (by omega)).2.2
  ·rw[List.map_map] at ai;obtain⟨j,_,rfl⟩:=fV.1 ai;rfl
theorem ahk{P:Program}{W:World}{base t:Nat}{bo:Array Field}{v:Value}(aE:P.underlying t=some (.struct bo))(h:Value.okWide P W .any base t v):∃cs,v = .agg cs:=by
 unfold Value.okWide at h;rw[aE] at h;obtain⟨cs,h1,_⟩:=h;exact⟨cs,h1⟩
theorem ahp{H:Type}{enc:TypeId×Value→H}{P:Program}{W:World}{zF tt t e:TypeId}{g0 g1 g2 g3 g4 g5 f0 f1:Field}(af:P.underlying zF=some (.struct #[g0,g1,g2,g3,g4,g5]))(ZK:P.cellsOf zF=6)(abt:g0.offset=0)(abu:g1.offset=1)(abv:g2.offset=2)(abw:g3.offset=3)(abx:g4.offset=4)(aby:g5.offset=5)(PG:g0.type=tt)(PH:g1.type=tt)(PC:P.cellsOf tt=1)
  (abo:P.underlying g2.type=some (.int .i64)) (abp:P.underlying g3.type=some (.int .i64)) (abq:P.underlying g4.type=some (.int .i64)) (abr:P.underlying g5.type=some (.int .i64)) (abi:P.cellsOf g2.type=1) (abj:P.cellsOf g3.type=1) (abk:P.cellsOf g4.type=1) (abl:P.cellsOf g5.type=1)
  (hu:P.underlying tt=some (.slice t)) (wF:P.cellsOf t=1) (aE:P.underlying t=some (.slice e)) (he:P.underlying e=some (.struct #[f0,f1])) (ce:P.cellsOf e=2) (vu:f0.offset=0) (o1:f1.offset=1) (c0:P.cellsOf f0.type=1) (c1:P.cellsOf f1.type=1) (ee:P.underlying f0.type=some (.int .i64)) (bx:P.underlying f1.type=some (.int .i64))
  {v:Value} {d:DataW H} {p:List MemPlace} (acd:∃cs,v = .agg cs) (aF:DataW.Trod enc P W 0 (fun _=>true) true zF v d p) :
  ∃(A B:List (List cc)) (op fill rung cap:Int),(∀n,(∀w∈DataW.weights P zF d,w≤n)→A.length*P.bytesOf t≤n∧B.length*P.bytesOf t≤n∧(∀r∈A,r.length*P.bytesOf e≤n)∧∀r∈B,r.length*P.bytesOf e≤n)∧A.length+B.length+bN A+bN B≤Rows.uptoBulk d∧cS (fun _=>True) id W (.w (.agg (im A B op fill rung cap))) v:=by
 obtain⟨cs,rfl⟩:=acd;obtain⟨gh,ay⟩:=aF;obtain⟨xs,n,_,ab,hlen,hxs,vf⟩:=DataW.trod_struct af ay;rw[ZK] at hlen
 obtain⟨li,db,di,lj,n3,vV,dp⟩:∃li db di lj n3 vV,cs = #[li,db,di,lj,n3,vV]:=by
  have al:cs.toList.length=6:=hlen
  match ba:cs.toList,al with
  | [a,b,c,d,e,f],_=>exact⟨a,b,c,d,e,f,by rw[←Array.toArray_toList (xs:=cs),ba]⟩
 subst dp
 obtain⟨hK,jY,mE,MJ,MK,ML,rfl⟩:∃hK jY mE MJ MK ML,xs=[hK,jY,mE,MJ,MK,ML]:=by
  match xs,hxs with
  | [a,b,c,d,e,f],_=>exact⟨a,b,c,d,e,f,rfl⟩
 have aF:=vf 0 g0 rfl;have h1:=vf 1 g1 rfl;have h2:=vf 2 g2 rfl;have ar:=vf 3 g3 rfl;have aJ:=vf 4 g4 rfl;have bO:=vf 5 g5 rfl;rw[abt,PG,PC] at aF;rw[abu,PH,PC] at h1;rw[abv,abi] at h2;rw[abw,abj] at ar;rw[abx,abk] at aJ;rw[aby,abl] at bO;have aF:DataW.trod enc P W 0 (fun _=>true) true n tt [li]=some hK:=aF;have h1:DataW.trod enc P W 0 (fun _=>true) true n tt [db]=some jY:=h1;have h2:DataW.trod enc P W 0 (fun _=>true) true n g2.type [di]=some mE:=h2;have ar:DataW.trod enc P W 0 (fun _=>true) true n g3.type [lj]=some MJ:=ar;have aJ:DataW.trod enc P W 0 (fun _=>true) true n g4.type [n3]=some MK:=aJ;have bO:DataW.trod enc P W 0 (fun _=>true) true n g5.type [vV]=some ML:=bO
 have sl:∀x y,DataW.trod enc P W 0 (fun _=>true) true n tt [x]=some y→∃a len cap,x = .slice a len cap:=fun x y h=>by
  rcases Go.Deep.open_slice1 hu wF h with ⟨ak,_⟩|⟨a,len,cap,_,_,_,_,_,ak,_⟩
  ·exact⟨none,0,0,List.head_eq_of_cons_eq ak⟩
  ·exact⟨some a,len,cap,List.head_eq_of_cons_eq ak⟩
 have eg:=sl _ _ aF;have s1:=sl _ _ h1;have t0:DataW.Trod enc P W 0 (fun _=>true) true tt li hK.1 hK.2:=⟨n,by obtain⟨a,len,cap,rfl⟩:=eg;exact aF⟩;have t1:DataW.Trod enc P W 0 (fun _=>true) true tt db jY.1 jY.2:=⟨n,by obtain⟨a,len,cap,rfl⟩:=s1;exact h1⟩;obtain⟨A,w1,cN,cn⟩:=S7 hu wF aE he ce vu o1 c0 c1 ee bx eg t0;obtain⟨B,w2,cO,dQ⟩:=S7 hu wF aE he ce vu o1 c0 c1 ee bx s1 t1;obtain⟨gI,aO,_,_⟩:=DataW.trod_int abo h2;obtain⟨rq,cf,_,_⟩:=DataW.trod_int abp ar;obtain⟨rs,ei,_,_⟩:=DataW.trod_int abq aJ;obtain⟨Ci,jo,_,_⟩:=DataW.trod_int abr bO;simp at aO cf ei jo;subst aO cf ei jo;have pt:=congrArg Prod.fst ab;simp only[hY,pG] at pt;refine⟨A,B,gI,rq,rs,Ci,fun k hw => ?_,?_,[li,db,.int .i64 gI,.int .i64 rq,.int .i64 rs,.int .i64 Ci],rfl,rfl,fun i x u ab hu => ?_⟩
 ·rw[pt] at hw;unfold DataW.weights at hw;rw[af] at hw;simp only[hY,pG,DataW.weightsEach,PG,PH] at hw;obtain⟨a1,a2⟩:=w1 k fun w h=>hw w (rA _ h);obtain⟨a3,a4⟩:=w2 k fun w h=>hw w (vD _ (rA _ h));exact⟨a1,a3,a2,a4⟩
 ·rw[pt];simp only[Rows.uptoBulk,Rows.uptoBulkAll];omega
 ·match i with
  | 0=>cases ab;cases hu;exact cn
  | 1=>cases ab;cases hu;exact dQ
  | 2=>cases ab;cases hu;exact⟨rfl,rfl⟩
  | 3=>cases ab;cases hu;exact⟨rfl,rfl⟩
  | 4=>cases ab;cases hu;exact⟨rfl,rfl⟩
  | 5=>cases ab;cases hu;exact⟨rfl,rfl⟩
  | i+6=>simp[im] at ab
end Go.Proofs.YtklpfooafbjnpaaGreat
