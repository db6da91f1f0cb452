/-
  My own texts,without what this claim does not need. My own text.
-/
import Derived.Deep.SlicePairs
import Derived.ChangeSame
import Derived.Carry
import Derived.Test.YtklpfooafbjnpaaGreatRows
import Derived.Test.YtklpfooafbjnpaaGreatSLEndsK12
set_option maxRecDepth 100000
set_option maxHeartbeats 64000000
set_option linter.unusedVariables false
set_option linter.unusedSimpArgs false
set_option linter.unusedSectionVars false
namespace Go.Proofs.YtklpfooafbjnpaaGreat
open Go.ChangeShapes Go.WideShapes Go.ChangeAt Go.RowKit Go.Joins
theorem laidOut:laidOutB Tryz.prog=true:=by kernel_rfl
theorem NT{W:World}{b:Addr}{v:Value}(h:W.cell? b=some v):b.block<W.heap.size:=by
 unfold World.cell? at h
 split at h
 ·rename_i aY;exact(iA.1 aY).1
 ·cases h
theorem y7(p:cf)(l:List cf):pt (p::l) = .c (.int .i64 p.1) :: .c (.int .i64 p.2)::pt l:=rfl
theorem YU{H:Type}(d:DataW H):1≤Rows.uptoBulk d:=by
 cases d with
 | lit l=>cases l <;> simp[Rows.uptoBulk]
 | nil=>simp[Rows.uptoBulk]
 | ptr d=>simp[Rows.uptoBulk]
 | slice elems spare=>simp[Rows.uptoBulk]
 | agg parts=>simp[Rows.uptoBulk]
 | iface t d=>simp[Rows.uptoBulk]
 | map entries=>simp[Rows.uptoBulk]
 | held h=>simp[Rows.uptoBulk]
theorem YT{H:Type}(l:List (DataW H)):l.length≤Rows.uptoBulkAll l:=by
 induction l with
 | nil=>simp[Rows.uptoBulkAll]
 | cons x r ck=>have:=YU x;simp only[Rows.uptoBulkAll,hJ];omega
theorem NL{H:Type}(elems spare:List (DataW H)):Rows.uptoBulkAll elems+1≤Rows.uptoBulk (.slice elems spare):=by
 simp only[Rows.uptoBulk];omega
theorem VH{H:Type}{P:Program}{e:TypeId}{d:DataW H}{w:Nat}:∀ {l:List (DataW H)},d∈l→w∈DataW.weights P e d→w∈DataW.weightsAll P e l
 | x::l,h,hw=>by
  rw[DataW.weightsAll];rcases fe.1 h with rfl|h
  ·exact sw _ hw
  ·exact xd _ (VH h hw)
theorem agN{H:Type}{enc:TypeId×Value→H}{P:Program}{W:World}{t e:TypeId}{f0 f1:Field}(aD:P.underlying t=some (.slice e))(he:P.underlying e=some (.struct #[f0,f1]))(ce:P.cellsOf e=2)(w8:f0.offset=0)(o1:f1.offset=1)(c0:P.cellsOf f0.type=1)(c1:P.cellsOf f1.type=1)(e0:P.underlying f0.type=some (.int .i64))(bB:P.underlying f1.type=some (.int .i64))
  {v:Value} {d:DataW H} {p:List MemPlace} (hv:∃a len cap,v = .slice a len cap) (aF:DataW.Trod enc P W 0 (fun _=>true) true t v d p) :
  ∃l:List (Int×Int),(∀n,(∀w∈DataW.weights P t d,w≤n)→l.length*P.bytesOf e≤n)∧l.length+1≤Rows.uptoBulk d∧cR (fun _=>True) id W ((.w (.one (lv l)))) v:=by
 obtain⟨a0,h4,D2,rfl⟩:=hv;obtain⟨fW,ay⟩:=aF;rcases Go.Deep.open_slice_pairs aD he ce w8 o1 c0 c1 ay with ⟨dv,ab⟩|⟨a,len,cap,m,n,xT,Xr,D0,um,rI,gv,dv,aa,al,hm,qT,ab,hi⟩
 ·simp[Value.cells] at dv;obtain⟨rfl,rfl,rfl⟩:=dv;obtain⟨rfl,rfl⟩:=Prod.mk.inj ab;exact⟨[],(fun n _=>by simp),(by simp[Rows.uptoBulk]),⟨none,0,rfl,cH _,rfl,fun h=>absurd h (Nat.lt_irrefl _)⟩,fun _ _=>trivial⟩
 ·simp[Value.cells] at dv;obtain⟨rfl,rfl,rfl⟩:=dv;simp only[if_true] at qT;subst qT;simp only[Prod.mk.injEq] at ab;obtain⟨o9,rfl⟩:=ab
  have each:∀i,i<m→∃q:Int×Int,xT i = .int .i64 q.1∧Xr i = .int .i64 q.2:=fun i h=>by
   obtain⟨_,_,g0,g1⟩:=hi i h;obtain⟨x,ab,_,ug⟩:=DataW.trod_int e0 g0;obtain⟨y,ai,_,anS⟩:=DataW.trod_int bB g1;simp at ab ai;exact⟨(x,y),ab,ai⟩
  obtain⟨q,aj⟩:=Go.Deep.choose_lt each
  have r2:∀(l:List (Int×Int)) (k:Nat),(∀i (p:Int×Int),l[i]?=some p→W.cell? (a.add ((k+i)*2))=some (.int .i64 p.1)∧W.cell? (a.add ((k+i)*2+1))=some (.int .i64 p.2)) →
    ∃vs:List Value,bQ (fun _=>True) id W (pt l) vs∧∀(j:Nat) v,vs[j]?=some v→W.cell? (a.add (k*2+j))=some v:=by
   intro l
   induction l with
   | nil=>intro k _;exact⟨[],⟨rfl,fun i x v h=>by simp[pt] at h⟩,fun j v h=>by simp at h⟩
   | cons p l ck =>
    intro k h
    obtain⟨vs,g1,g2⟩:=ck (k+1) (fun i fD mK=>by
     have:=h (i+1) fD (by simpa using mK);rw[show k+(i+1)=k+1+i by omega] at this;exact this)
    obtain⟨h1,h2⟩:=h 0 p rfl;refine⟨.int .i64 p.1 :: .int .i64 p.2::vs,⟨by simp[y7,g1.1],fun i x v ab hv => ?_⟩,fun j v hv => ?_⟩
    ·match i with
     | 0=>simp[y7] at ab hv;subst ab;subst hv;exact⟨rfl,rfl⟩
     | 1=>simp[y7] at ab hv;subst ab;subst hv;exact⟨rfl,rfl⟩
     | i+2=>exact g1.2 i x v (by simpa [y7] using ab) (by simpa using hv)
    ·match j with
     | 0=>simp at hv;subst hv;simpa using h1
     | 1=>simp at hv;subst hv;simpa using h2
     | j+2 =>
      have:=g2 j v (by simpa using hv);rw[show (k+1)*2+j=k*2+(j+2) by omega] at this;exact this
  obtain⟨vs,g1,g2⟩:=r2 ((List.range h4).map q) 0 (fun i p hp=>by
   rw[dx] at hp;cases ao:(List.range h4)[i]? with
   | none=>rw[ao] at hp;cases hp
   | some j =>
    rw[ao] at hp;cases hp;obtain⟨ar,aK⟩:=br.1 ao;simp at ar aK;subst aK;obtain⟨cy,aI,_⟩:=hi i (by omega);obtain⟨f0,f1⟩:=aj i (by omega);rw[f0] at cy;rw[f1] at aI;simpa using ⟨cy,aI⟩)
  have hlen:∀l:List (Int×Int),(pt l).length=l.length*2:=fun l=>by
   induction l with
   | nil=>rfl
   | cons p l ck=>simp[y7,ck];omega
  have abY:∀l:List (Int×Int),∀y∈pt l,y.aW=true:=fun l=>by
   induction l with
   | nil=>intro y ai;cases ai
   | cons p l ck =>
    intro y ai;simp only[y7,fe] at ai;rcases ai with rfl|rfl|ai
    ·rfl
    ·rfl
    ·exact ck y ai
  refine⟨(List.range h4).map q,fun n hw => ?_,?_,?_⟩
  ·rw[o9] at hw;unfold DataW.weights at hw;rw[aD] at hw;simp only at hw;have:=hw _ (hn ..);refine eL (h8 _ ?_) this;simp
  ·rw[o9];have h1:=NL (H:=H) (List.map (fun i=>DataW.agg [D0 i,um i]) (List.range h4)) (List.map (fun j=>DataW.agg [D0 (h4+j),um (h4+j)]) (List.range (m-h4)));have h2:=YT (H:=H) (List.map (fun i=>DataW.agg [D0 i,um i]) (List.range h4));simp only[jC,List.length_range] at h2 ⊢;omega
  refine⟨⟨some a,m,by simp,by simpa using al,hlen _,fun aA=>⟨a,vs,rfl,?_,g1,fun j v hv=>by have:=g2 j v hv;rwa [Nat.zero_mul,iR] at this,abY _⟩⟩,fun _ _=>trivial⟩;have Bg:0<h4:=by simpa using aA
  have:=NT (hi 0 (by omega)).1;rwa [block_add] at this
theorem ait{P:Program}{f:FuncId}{args:List ag}(h:aO P f args (bl true))(ke:List Value)(W:World)(al:args.length=ke.length)(ao:∀(i:Nat) (x:ag) (v:Value),args[i]?=some x→ke[i]?=some v→cR (fun _=>True) id W x v) :
  Calls P f ke.toArray W fun e W'=>e = .returned (.bool true)∧Below W.heap.size W W' :=
 (h.call (fun _=>True) W ke ⟨al,ao⟩).mono fun e W' ⟨v,he,⟨hv,_⟩,aa⟩=>by subst hv;exact⟨he,aa⟩
theorem NM{H:Type}(D:Nat→DataW H)(q:Nat→List cf):∀(l:List Nat),(∀i∈l,(q i).length+1≤Rows.uptoBulk (D i))→l.length+bL (l.map q)≤Rows.uptoBulkAll (l.map D)
 | [],_=>by simp[bL,Rows.uptoBulkAll]
 | i::l,h=>by
  have h1:=h i (hn ..);have h2:=NM D q l fun j af=>h j (kU _ af);have e:bL ((i::l).map q)=(q i).length+bL (l.map q):=by simp[bL]
  rw[e,hK,Rows.uptoBulkAll,hJ];omega
theorem Sz{H:Type}{enc:TypeId×Value→H}{P:Program}{W:World}{tt t e:TypeId}{f0 f1:Field}(hu:P.underlying tt=some (.slice t))(wg:P.cellsOf t=1)(aD:P.underlying t=some (.slice e))(he:P.underlying e=some (.struct #[f0,f1]))(ce:P.cellsOf e=2)(w8:f0.offset=0)(o1:f1.offset=1)(c0:P.cellsOf f0.type=1)(c1:P.cellsOf f1.type=1)(e0:P.underlying f0.type=some (.int .i64))(bB:P.underlying f1.type=some (.int .i64))
  {v:Value} {d:DataW H} {p:List MemPlace} (hv:∃a len cap,v = .slice a len cap) (aF:DataW.Trod enc P W 0 (fun _=>true) true tt v d p) :
  ∃L:List (List cf),(∀n,(∀w∈DataW.weights P tt d,w≤n)→L.length*P.bytesOf t≤n∧∀r∈L,r.length*P.bytesOf e≤n)∧L.length+bL L+1≤Rows.uptoBulk d∧cR (fun _=>True) id W (.w (.one (gW L))) v:=by
 obtain⟨a0,h4,D2,rfl⟩:=hv;obtain⟨fW,ay⟩:=aF;rcases Go.Deep.open_slice1 hu wg ay with ⟨dv,ab⟩|⟨a,len,cap,m,n,xT,D0,rI,dv,aa,al,hm,qT,ab,hi⟩
 ·simp[Value.cells] at dv;obtain⟨rfl,rfl,rfl⟩:=dv;obtain⟨rfl,rfl⟩:=Prod.mk.inj ab;exact⟨[],(fun n _=>⟨by simp,fun r ao=>by cases ao⟩),(by simp[Rows.uptoBulk,bL]),⟨none,0,rfl,cH _,rfl,fun h=>absurd h (Nat.lt_irrefl _)⟩,fun _ _=>trivial⟩
 ·simp[Value.cells] at dv;obtain⟨rfl,rfl,rfl⟩:=dv;simp only[if_true] at qT;subst qT
  have each:∀i,i<m→∃q:List cf,(∀n,(∀w∈DataW.weights P t (D0 i),w≤n)→q.length*P.bytesOf e≤n)∧q.length+1≤Rows.uptoBulk (D0 i)∧cR (fun _=>True) id W (.w (.one (lv q))) (xT i):=fun i h=>by
   obtain⟨_,g0⟩:=hi i h;generalize xT i=x at g0
   have eF:∃a len cap,x = .slice a len cap:=by
    rcases Go.Deep.open_slice_pairs aD he ce w8 o1 c0 c1 g0 with ⟨ak,_⟩|⟨a,len,cap,_,_,_,_,_,_,_,_,ak,_⟩
    ·exact⟨none,0,0,List.head_eq_of_cons_eq ak⟩
    ·exact⟨some a,len,cap,List.head_eq_of_cons_eq ak⟩
   exact agN aD he ce w8 o1 c0 c1 e0 bB eF ⟨n,by obtain⟨a,len,cap,rfl⟩:=eF;exact g0⟩
  obtain⟨q,aj⟩:=Go.Deep.choose_lt each;have o9:=congrArg Prod.fst ab;simp only at o9
  have gm:∀(j:Nat) u,((List.range h4).map xT)[j]?=some u→W.cell? (a.add j)=some u∧j<h4:=fun j u hu=>by
   rw[dx] at hu;cases ao:(List.range h4)[j]? with
   | none=>rw[ao] at hu;cases hu
   | some i =>
    rw[ao] at hu;cases hu;obtain⟨ar,aK⟩:=br.1 ao;simp at ar aK;subst aK;exact⟨(hi j (by omega)).1,ar⟩
  refine⟨(List.range h4).map q,fun k hw => ?_,?_,?_⟩
  ·rw[o9] at hw;unfold DataW.weights at hw;rw[hu] at hw;simp only at hw;refine⟨?_,fun r ao => ?_⟩
   ·have:=hw _ (hn ..);refine eL (h8 _ ?_) this;simp
   ·obtain⟨i,b4,rfl⟩:=fO.1 ao;have amE:i<h4:=by simpa using b4
    exact(aj i (by omega)).1 k fun w nu=>hw w (kU _ (sw _ (VH (fO.2 ⟨i,b4,rfl⟩) nu)))
  ·rw[o9];have h1:=NL (H:=H) ((List.range h4).map D0) ((List.range (m-h4)).map fun j=>D0 (h4+j));have h2:=NM D0 q (List.range h4) fun i b4=>(aj i (j6 (nF.1 b4) al)).2.1;simp only[jC,List.length_range] at h2 ⊢;omega
  refine⟨⟨some a,m,by simp,by simpa using al,by simp,fun aA=>⟨a,(List.range h4).map xT,rfl,?_,⟨by simp,fun i x u ab hu => ?_⟩,fun j u hu=>(gm j u hu).1,fun y ai => ?_⟩⟩,fun _ _=>trivial⟩
  ·have Bg:0<h4:=by simpa using aA
   have:=NT (hi 0 (by omega)).1;rwa [block_add] at this
  ·rw[dx] at hu;rw[List.map_map,dx] at ab;cases ao:(List.range h4)[i]? with
   | none=>rw[ao] at ab;cases ab
   | some j =>
    rw[ao] at ab hu;cases ab;cases hu;have Bb:j<h4:=by have:=cP ao;simpa using this
    exact(aj j (by omega)).2.2
  ·rw[List.map_map] at ai;obtain⟨j,_,rfl⟩:=fO.1 ai;rfl
theorem agI{P:Program}{W:World}{base t:Nat}{bp:Array Field}{v:Value}(aD:P.underlying t=some (.struct bp))(h:Value.okWide P W .any base t v):∃cs,v = .agg cs:=by
 unfold Value.okWide at h;rw[aD] at h;obtain⟨cs,h1,_⟩:=h;exact⟨cs,h1⟩
theorem agM{H:Type}{enc:TypeId×Value→H}{P:Program}{W:World}{zm tt t e:TypeId}{g0 g1 g2 g3 g4 g5 f0 f1:Field}(af:P.underlying zm=some (.struct #[g0,g1,g2,g3,g4,g5]))(Zb:P.cellsOf zm=6)(aaX:g0.offset=0)(aaY:g1.offset=1)(aaZ:g2.offset=2)(aa0:g3.offset=3)(aa1:g4.offset=4)(aa2:g5.offset=5)(Pb:g0.type=tt)(Pc:g1.type=tt)(O6:P.cellsOf tt=1)
  (aaT:P.underlying g2.type=some (.int .i64)) (aaU:P.underlying g3.type=some (.int .i64)) (aaV:P.underlying g4.type=some (.int .i64)) (aaW:P.underlying g5.type=some (.int .i64)) (aaN:P.cellsOf g2.type=1) (aaO:P.cellsOf g3.type=1) (aaP:P.cellsOf g4.type=1) (aaQ:P.cellsOf g5.type=1)
  (hu:P.underlying tt=some (.slice t)) (wg:P.cellsOf t=1) (aD:P.underlying t=some (.slice e)) (he:P.underlying e=some (.struct #[f0,f1])) (ce:P.cellsOf e=2) (w8:f0.offset=0) (o1:f1.offset=1) (c0:P.cellsOf f0.type=1) (c1:P.cellsOf f1.type=1) (e0:P.underlying f0.type=some (.int .i64)) (bB:P.underlying f1.type=some (.int .i64))
  {v:Value} {d:DataW H} {p:List MemPlace} (abH:∃cs,v = .agg cs) (aF:DataW.Trod enc P W 0 (fun _=>true) true zm v d p) :
  ∃(A B:List (List cf)) (op fill rung cap:Int),(∀n,(∀w∈DataW.weights P zm d,w≤n)→A.length*P.bytesOf t≤n∧B.length*P.bytesOf t≤n∧(∀r∈A,r.length*P.bytesOf e≤n)∧∀r∈B,r.length*P.bytesOf e≤n)∧A.length+B.length+bL A+bL B≤Rows.uptoBulk d∧cR (fun _=>True) id W (.w (.agg (h3 A B op fill rung cap))) v:=by
 obtain⟨cs,rfl⟩:=abH;obtain⟨fW,ay⟩:=aF;obtain⟨xs,n,_,ab,hlen,hxs,uX⟩:=DataW.trod_struct af ay;rw[Zb] at hlen
 obtain⟨qs,da,de,k2,nM,vC,dv⟩:∃qs da de k2 nM vC,cs = #[qs,da,de,k2,nM,vC]:=by
  have al:cs.toList.length=6:=hlen
  match aY:cs.toList,al with
  | [a,b,c,d,e,f],_=>exact⟨a,b,c,d,e,f,by rw[←Array.toArray_toList (xs:=cs),aY]⟩
 subst dv
 obtain⟨k4,jJ,mr,Ml,Mm,Mn,rfl⟩:∃k4 jJ mr Ml Mm Mn,xs=[k4,jJ,mr,Ml,Mm,Mn]:=by
  match xs,hxs with
  | [a,b,c,d,e,f],_=>exact⟨a,b,c,d,e,f,rfl⟩
 have aF:=uX 0 g0 rfl;have h1:=uX 1 g1 rfl;have h2:=uX 2 g2 rfl;have ar:=uX 3 g3 rfl;have aK:=uX 4 g4 rfl;have bX:=uX 5 g5 rfl;rw[aaX,Pb,O6] at aF;rw[aaY,Pc,O6] at h1;rw[aaZ,aaN] at h2;rw[aa0,aaO] at ar;rw[aa1,aaP] at aK;rw[aa2,aaQ] at bX;have aF:DataW.trod enc P W 0 (fun _=>true) true n tt [qs]=some k4:=aF;have h1:DataW.trod enc P W 0 (fun _=>true) true n tt [da]=some jJ:=h1;have h2:DataW.trod enc P W 0 (fun _=>true) true n g2.type [de]=some mr:=h2;have ar:DataW.trod enc P W 0 (fun _=>true) true n g3.type [k2]=some Ml:=ar;have aK:DataW.trod enc P W 0 (fun _=>true) true n g4.type [nM]=some Mm:=aK;have bX:DataW.trod enc P W 0 (fun _=>true) true n g5.type [vC]=some Mn:=bX
 have sl:∀x y,DataW.trod enc P W 0 (fun _=>true) true n tt [x]=some y→∃a len cap,x = .slice a len cap:=fun x y h=>by
  rcases Go.Deep.open_slice1 hu wg h with ⟨ak,_⟩|⟨a,len,cap,_,_,_,_,_,ak,_⟩
  ·exact⟨none,0,0,List.head_eq_of_cons_eq ak⟩
  ·exact⟨some a,len,cap,List.head_eq_of_cons_eq ak⟩
 have eF:=sl _ _ aF;have s1:=sl _ _ h1;have t0:DataW.Trod enc P W 0 (fun _=>true) true tt qs k4.1 k4.2:=⟨n,by obtain⟨a,len,cap,rfl⟩:=eF;exact aF⟩;have t1:DataW.Trod enc P W 0 (fun _=>true) true tt da jJ.1 jJ.2:=⟨n,by obtain⟨a,len,cap,rfl⟩:=s1;exact h1⟩;obtain⟨A,w1,cM,cr⟩:=Sz hu wg aD he ce w8 o1 c0 c1 e0 bB eF t0;obtain⟨B,w2,cN,dK⟩:=Sz hu wg aD he ce w8 o1 c0 c1 e0 bB s1 t1;obtain⟨gy,aN,_,_⟩:=DataW.trod_int aaT h2;obtain⟨q5,cc,_,_⟩:=DataW.trod_int aaU ar;obtain⟨q6,ed,_,_⟩:=DataW.trod_int aaV aK;obtain⟨B1,iY,_,_⟩:=DataW.trod_int aaW bX;simp at aN cc ed iY;subst aN cc ed iY;have o9:=congrArg Prod.fst ab;simp only[hK,pn] at o9;refine⟨A,B,gy,q5,q6,B1,fun k hw => ?_,?_,[qs,da,.int .i64 gy,.int .i64 q5,.int .i64 q6,.int .i64 B1],rfl,rfl,fun i x u ab hu => ?_⟩
 ·rw[o9] at hw;unfold DataW.weights at hw;rw[af] at hw;simp only[hK,pn,DataW.weightsEach,Pb,Pc] at hw;obtain⟨a1,a2⟩:=w1 k fun w h=>hw w (sw _ h);obtain⟨a3,a4⟩:=w2 k fun w h=>hw w (xd _ (sw _ h));exact⟨a1,a3,a2,a4⟩
 ·rw[o9];simp only[Rows.uptoBulk,Rows.uptoBulkAll];omega
 ·match i with
  | 0=>cases ab;cases hu;exact cr
  | 1=>cases ab;cases hu;exact dK
  | 2=>cases ab;cases hu;exact⟨rfl,rfl⟩
  | 3=>cases ab;cases hu;exact⟨rfl,rfl⟩
  | 4=>cases ab;cases hu;exact⟨rfl,rfl⟩
  | 5=>cases ab;cases hu;exact⟨rfl,rfl⟩
  | i+6=>simp[h3] at ab
end Go.Proofs.YtklpfooafbjnpaaGreat
