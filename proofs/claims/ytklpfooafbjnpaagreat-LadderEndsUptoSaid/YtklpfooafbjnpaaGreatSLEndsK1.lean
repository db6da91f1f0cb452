/-
  My own texts,without what this claim does not need. My own text.
-/
import Derived.Tactics
import Derived.IntWalk
import Derived.ProofKit
import Derived.Below
import Derived.Still
import Derived.OrdersIn
import Derived.Laws.CopyRow
import Derived.Laws.Cells
import Derived.Calls
set_option maxRecDepth 100000
set_option maxHeartbeats 64000000
set_option linter.unusedVariables false
set_option linter.unusedSimpArgs false
set_option linter.unusedSectionVars false
namespace Go.Proofs.YtklpfooafbjnpaaGreat
theorem br:type_of% @List.getElem?_eq_some_iff := @List.getElem?_eq_some_iff
theorem bG:type_of% @List.getElem?_eq_getElem := @List.getElem?_eq_getElem
theorem b5:type_of% @List.all_eq_true := @List.all_eq_true
theorem ca:type_of% @decide_eq_true := @decide_eq_true
theorem cg:type_of% @Nat.le_of_ble_eq_true := @Nat.le_of_ble_eq_true
theorem cm:type_of% @decide_eq_false := @decide_eq_false
theorem cH:type_of% @Nat.le_refl := @Nat.le_refl
theorem cP:type_of% @List.mem_of_getElem? := @List.mem_of_getElem?
theorem cS:type_of% @decide_eq_true_eq := @decide_eq_true_eq
theorem cY:type_of% @List.length_append := @List.length_append
theorem dx:type_of% @List.getElem?_map := @List.getElem?_map
theorem dy:type_of% @Nat.zero_le := @Nat.zero_le
theorem dV:type_of% @List.length_take := @List.length_take
theorem eb:type_of% @Bool.and_eq_true := @Bool.and_eq_true
theorem eL:type_of% @Nat.le_trans := @Nat.le_trans
theorem fe:type_of% @List.mem_cons := @List.mem_cons
theorem fE:type_of% @List.getElem?_append_left := @List.getElem?_append_left
theorem fO:type_of% @List.mem_map := @List.mem_map
theorem gd:type_of% @Nat.eq_of_beq_eq_true := @Nat.eq_of_beq_eq_true
theorem gg:type_of% @List.getElem?_take_of_lt := @List.getElem?_take_of_lt
theorem gh:type_of% @List.getElem?_append_right := @List.getElem?_append_right
theorem gz:type_of% @Nat.zero_lt_succ := @Nat.zero_lt_succ
theorem gI:type_of% @List.getElem?_drop := @List.getElem?_drop
theorem gU:type_of% @Option.map_some := @Option.map_some
theorem gV:type_of% @List.take_of_length_le := @List.take_of_length_le
theorem hl:type_of% @List.append_assoc := @List.append_assoc
theorem hn:type_of% @List.mem_cons_self := @List.mem_cons_self
theorem hJ:type_of% @List.length_cons := @List.length_cons
theorem hK:type_of% @List.map_cons := @List.map_cons
theorem hL:type_of% @Int.mul_nonneg := @Int.mul_nonneg
theorem h7:type_of% @Nat.lt_or_ge := @Nat.lt_or_ge
theorem h8:type_of% @Nat.mul_le_mul_right := @Nat.mul_le_mul_right
theorem iA:type_of% @Array.getElem?_eq_some_iff := @Array.getElem?_eq_some_iff
theorem iB:type_of% @List.length_drop := @List.length_drop
theorem iQ:type_of% @Option.some.injEq := @Option.some.injEq
theorem iR:type_of% @Nat.zero_add := @Nat.zero_add
theorem jj:type_of% @Int.pow_pos := @Int.pow_pos
theorem jC:type_of% @List.length_map := @List.length_map
theorem jD:type_of% @List.mem_singleton := @List.mem_singleton
theorem jE:type_of% @List.drop_eq_getElem_cons := @List.drop_eq_getElem_cons
theorem j6:type_of% @Nat.lt_of_lt_of_le := @Nat.lt_of_lt_of_le
theorem j7:type_of% @List.mem_append := @List.mem_append
theorem j8:type_of% @List.take_append_drop := @List.take_append_drop
theorem j9:type_of% @List.pairwise_cons := @List.pairwise_cons
theorem kx:type_of% @List.getElem?_of_mem := @List.getElem?_of_mem
theorem ky:type_of% @decide_eq_false_iff_not := @decide_eq_false_iff_not
theorem kz:type_of% @Int.toNat_natCast := @Int.toNat_natCast
theorem kA:type_of% @List.all_cons := @List.all_cons
theorem kU:type_of% @List.mem_cons_of_mem := @List.mem_cons_of_mem
theorem kV:type_of% @Int.mul_comm := @Int.mul_comm
theorem kW:type_of% @Int.mul_assoc := @Int.mul_assoc
theorem lr:type_of% @Nat.blt_eq := @Nat.blt_eq
theorem ls:type_of% @List.take_succ_eq_append_getElem := @List.take_succ_eq_append_getElem
theorem lu:type_of% @Rat.mul_nonneg := @Rat.mul_nonneg
theorem lN:type_of% @Option.bind_some := @Option.bind_some
theorem lO:type_of% @Option.some.inj := @Option.some.inj
theorem lP:type_of% @Nat.add_mul := @Nat.add_mul
theorem mR:type_of% @List.eq_nil_of_length_eq_zero := @List.eq_nil_of_length_eq_zero
theorem mS:type_of% @List.append_nil := @List.append_nil
theorem nE:type_of% @List.map_congr_left := @List.map_congr_left
theorem nF:type_of% @List.mem_range := @List.mem_range
theorem nG:type_of% @List.all_nil := @List.all_nil
theorem oi:type_of% @List.mem_of_mem_drop := @List.mem_of_mem_drop
theorem oj:type_of% @Nat.add_assoc := @Nat.add_assoc
theorem ol:type_of% @Nat.add_comm := @Nat.add_comm
theorem om:type_of% @Int.eq_ofNat_of_zero_le := @Int.eq_ofNat_of_zero_le
theorem oL:type_of% @List.mem_of_mem_take := @List.mem_of_mem_take
theorem oM:type_of% @Int.le_refl := @Int.le_refl
theorem oN:type_of% @Bool.eq_iff_iff := @Bool.eq_iff_iff
theorem oO:type_of% @Int.emod_lt_of_pos := @Int.emod_lt_of_pos
theorem oP:type_of% @Int.ediv_nonneg := @Int.ediv_nonneg
theorem pk:type_of% @Bool.or_eq_true := @Bool.or_eq_true
theorem pn:type_of% @List.map_nil := @List.map_nil
theorem po:type_of% @Int.emod_nonneg := @Int.emod_nonneg
theorem pp:type_of% @Int.le_of_lt := @Int.le_of_lt
theorem pq:type_of% @Int.le_ediv_iff_mul_le := @Int.le_ediv_iff_mul_le
theorem pr:type_of% @Bool.true_and := @Bool.true_and
theorem ql:type_of% @List.getElem?_eq_none := @List.getElem?_eq_none
theorem qm:type_of% @Nat.beq_refl := @Nat.beq_refl
theorem qn:type_of% @Nat.min_eq_left := @Nat.min_eq_left
theorem qo:type_of% @Int.mul_le_mul_of_nonneg_right := @Int.mul_le_mul_of_nonneg_right
theorem qp:type_of% @Int.lt_or_le := @Int.lt_or_le
theorem rb:type_of% @Option.map_none := @Option.map_none
theorem rc:type_of% @Int.mul_ediv_add_emod := @Int.mul_ediv_add_emod
theorem re:type_of% @List.drop_of_length_le := @List.drop_of_length_le
theorem sw:type_of% @List.mem_append_left := @List.mem_append_left
theorem sx:type_of% @List.map_append := @List.map_append
theorem sy:type_of% @List.flatMap_append := @List.flatMap_append
theorem sA:type_of% @List.not_mem_nil := @List.not_mem_nil
theorem sB:type_of% @Int.mul_le_mul_of_nonneg_left := @Int.mul_le_mul_of_nonneg_left
theorem tQ:type_of% @Bool.not_eq_true' := @Bool.not_eq_true'
theorem tR:type_of% @List.foldl_cons := @List.foldl_cons
theorem tS:type_of% @List.cons_append := @List.cons_append
theorem tT:type_of% @Classical.byContradiction := @Classical.byContradiction
theorem tU:type_of% @List.nil_append := @List.nil_append
theorem tV:type_of% @Int.mul_eq_zero := @Int.mul_eq_zero
theorem tW:type_of% @Int.mul_le_mul := @Int.mul_le_mul
theorem tX:type_of% @Rat.intCast_add := @Rat.intCast_add
theorem vm:type_of% @Array.getElem?_modify := @Array.getElem?_modify
theorem vn:type_of% @decide_eq_decide := @decide_eq_decide
theorem xd:type_of% @List.mem_append_right := @List.mem_append_right
theorem xe:type_of% @List.getElem?_range := @List.getElem?_range
theorem xf:type_of% @Nat.eq_zero_or_pos := @Nat.eq_zero_or_pos
theorem xg:type_of% @List.getElem?_cons_zero := @List.getElem?_cons_zero
theorem xh:type_of% @List.getD_eq_getElem?_getD := @List.getD_eq_getElem?_getD
theorem y3:type_of% @Array.getElem?_eq_none := @Array.getElem?_eq_none
theorem y4:type_of% @Int.ediv_ediv_of_nonneg := @Int.ediv_ediv_of_nonneg
theorem Cm:type_of% @Array.getElem?_setIfInBounds_ne := @Array.getElem?_setIfInBounds_ne
theorem Cn:type_of% @List.take_append_of_le_length := @List.take_append_of_le_length
end Go.Proofs.YtklpfooafbjnpaaGreat
namespace Go.Proofs.YtklpfooafbjnpaaGreat
theorem rP:(∀b:Bool,((!b)=true)=(b=false))∧(∀b:Bool,((!b)=false)=(b=true))∧(∀(p:Prop) [Decidable p],(decide p=true)=p)∧∀(p:Prop) [Decidable p],(decide p=false)=¬p:=⟨by simp,by simp,by simp,by simp⟩
end Go.Proofs.YtklpfooafbjnpaaGreat
namespace Go.Proofs.YtklpfooafbjnpaaGreat
structure qH (Q:Prop):Prop where
  h:Q
theorem hP{P Q:Prop}(k:Q)(h:qH Q→P:=by intro q;(first|((with_reducible apply fT);exact rfl)|((with_reducible apply Ae);(iterate 5 exact rfl))|((with_reducible apply HJ);(iterate 5 exact rfl))|((with_reducible apply alS);(iterate 3 exact rfl))|((with_reducible apply Ad);(iterate 3 exact rfl);(first|decide|omega);(first|decide|omega);(first|assumption|exact rfl);exact rfl)|((with_reducible apply Nf);(iterate 3 exact rfl);omega;omega;exact rfl)|((with_reducible apply Yf);(iterate 3 exact rfl))|((with_reducible apply XP);(iterate 4 exact rfl))|((with_reducible apply XO);(iterate 4 exact rfl))|((with_reducible apply Yd);(iterate 4 exact rfl))|((with_reducible apply vV);(iterate 3 exact rfl);(first|exact jd (by omega)|assumption|rfl);exact rfl)|((with_reducible apply Ys);(iterate 3 exact rfl);(first|exact jd (by omega)|assumption|rfl);exact rfl)|((with_reducible apply X9);(iterate 3 exact rfl);(first|exact jd (by omega)|assumption|rfl);exact rfl)|((with_reducible apply Ya);exact rfl;exact rfl;(first|exact jd (by omega)|assumption|rfl);exact rfl)|((with_reducible apply Nj);(iterate 3 exact rfl);(first|assumption|omega);(first|assumption|omega);exact rfl)|((with_reducible apply XN);exact rfl;exact rfl;(first|exact jd (by omega)|assumption|rfl);exact rfl)|((with_reducible apply X6);(iterate 4 exact rfl))|((with_reducible apply X5);(iterate 4 exact rfl))|((with_reducible apply rM);(iterate 3 exact rfl))|((with_reducible apply Yp);(iterate 3 exact rfl);(first|assumption|omega);(first|assumption|omega);(first|assumption|exact rfl);(first|assumption|exact rfl);exact rfl)|((with_reducible apply Yn);(iterate 3 exact rfl);(first|assumption|omega);(first|assumption|omega);(first|assumption|exact rfl);(first|assumption|exact rfl);exact rfl)|((with_reducible apply Yq);(iterate 4 exact rfl);(first|assumption|omega);(first|assumption|omega);(first|assumption|omega);(first|assumption|exact rfl);(first|assumption|exact rfl);exact rfl)|((with_reducible apply M9);(iterate 10 exact rfl))|((with_reducible apply alU);exact rfl;exact(fun W=>rfl);exact rfl)|((with_reducible apply X7);(iterate 4 exact rfl))|((with_reducible apply XV);(iterate 4 exact rfl))|((with_reducible apply alR);(iterate 4 exact rfl))|((with_reducible apply alT);(iterate 3 exact rfl);(first|decide|omega);(first|decide|omega);(first|assumption|exact rfl);exact rfl)|((with_reducible apply Ng);(iterate 3 exact rfl);(first|decide|omega);(first|decide|omega);(first|assumption|exact rfl);exact rfl)|((with_reducible apply alP);(iterate 4 exact rfl))|((with_reducible apply XS);(iterate 3 exact rfl))|((with_reducible apply XT);exact rfl;exact rfl;kernel_rfl;exact rfl)|((with_reducible apply Yb);exact rfl;exact rfl;kernel_rfl;exact rfl)|((with_reducible apply alQ);exact rfl;exact rfl;kernel_rfl;exact rfl)|((with_reducible apply alV);exact rfl;exact rfl;kernel_rfl;exact rfl)|((with_reducible apply Yg);(iterate 3 exact rfl))|((with_reducible apply XX);(iterate 3 exact rfl))|((with_reducible apply xV);(iterate 5 exact rfl);(intro W;go_simp;try rfl);(intro W;go_simp;try rfl);exact rfl;exact rfl)|((with_reducible apply Nk);exact rfl;exact rfl;(intro W;go_simp;try rfl);exact rfl;exact rfl)|((with_reducible apply Nd);exact rfl;exact rfl;(intro W;go_simp;try rfl);exact rfl;exact rfl));(with_reducible exact q.h)):P:=h ⟨k⟩
theorem db{P Q:Prop}(k:Q)(h:qH Q→P:=by intro q;(first|refine hP ?_|((with_reducible apply Nh);kernel_rfl)|((with_reducible apply NB);kernel_rfl;kernel_rfl;exact rfl)|(with_reducible first|apply NC|apply Nt|apply HQ|apply dA|apply HR|apply HS|apply YF|apply YH|apply Xx|apply Xy|apply Xz|apply Nz|apply YE|apply alX|apply ajj)|((with_reducible apply alN);exact rfl)|((with_reducible apply Ny);exact rfl)|((with_reducible apply Nx);exact rfl)|((with_reducible apply YI);exact rfl;(first|assumption|exact ca (by omega)|(simp only[rP];(first|done|omega))|exact rfl))|((with_reducible apply Nv);exact rfl;(first|assumption|exact cm (by omega)|(simp only[rP];(first|done|omega))|exact rfl)));(with_reducible exact q.h)):P:=h ⟨k⟩
theorem fs{P Q:Prop}(k:Q)(h:qH Q→P:=by intro q;(repeat refine db ?_);(with_reducible exact q.h)):P:=h ⟨k⟩
theorem uf{P Q A:Prop}(c:A)(k:Q)(h:A→qH Q→P:=by intro c q;(first|refine Na rfl rfl (by exact c) rfl ?_|refine HF rfl rfl rfl (by exact c) rfl ?_|refine HG rfl rfl rfl rfl (by exact c) rfl ?_|refine HH rfl rfl rfl rfl rfl (by exact c) rfl ?_|refine Nb rfl rfl rfl rfl rfl rfl (by exact c) rfl ?_|refine Nc rfl rfl rfl rfl rfl rfl rfl (by exact c) rfl ?_|refine ux (bs:=[_]) (args:=[]) rfl rfl rfl rfl (by exact c) rfl ?_|refine ux (bs:=[_]) (args:=[_]) rfl rfl rfl rfl (by exact c) rfl ?_|refine ux (bs:=[_]) (args:=[_,_]) rfl rfl rfl rfl (by exact c) rfl ?_|refine ux (bs:=[_]) (args:=[_,_,_]) rfl rfl rfl rfl (by exact c) rfl ?_|refine uw (args:=[]) rfl rfl rfl (by exact c) rfl ?_|refine uw (args:=[_]) rfl rfl rfl (by exact c) rfl ?_|refine uw (args:=[_,_]) rfl rfl rfl (by exact c) rfl ?_|refine uw (args:=[_,_,_]) rfl rfl rfl (by exact c) rfl ?_);(with_reducible exact q.h)):P:=h c ⟨k⟩
theorem fA{P Q:Prop}(k:Q)(h:qH Q→P:=by intro q;(first|refine Na rfl rfl (by first|with_reducible assumption|assumption) rfl ?_|refine HF rfl rfl rfl (by first|with_reducible assumption|assumption) rfl ?_|refine HG rfl rfl rfl rfl (by first|with_reducible assumption|assumption) rfl ?_|refine HH rfl rfl rfl rfl rfl (by first|with_reducible assumption|assumption) rfl ?_|refine Nb rfl rfl rfl rfl rfl rfl (by first|with_reducible assumption|assumption) rfl ?_|refine Nc rfl rfl rfl rfl rfl rfl rfl (by first|with_reducible assumption|assumption) rfl ?_|refine ux (bs:=[_]) (args:=[]) rfl rfl rfl rfl (by first|with_reducible assumption|assumption) rfl ?_|refine ux (bs:=[_]) (args:=[_]) rfl rfl rfl rfl (by first|with_reducible assumption|assumption) rfl ?_|refine ux (bs:=[_]) (args:=[_,_]) rfl rfl rfl rfl (by first|with_reducible assumption|assumption) rfl ?_|refine ux (bs:=[_]) (args:=[_,_,_]) rfl rfl rfl rfl (by first|with_reducible assumption|assumption) rfl ?_|refine uw (args:=[]) rfl rfl rfl (by first|with_reducible assumption|assumption) rfl ?_|refine uw (args:=[_]) rfl rfl rfl (by first|with_reducible assumption|assumption) rfl ?_|refine uw (args:=[_,_]) rfl rfl rfl (by first|with_reducible assumption|assumption) rfl ?_|refine uw (args:=[_,_,_]) rfl rfl rfl (by first|with_reducible assumption|assumption) rfl ?_);(with_reducible exact q.h)):P:=h ⟨k⟩
theorem cQ{P Q:Prop}(k:Q)(h:qH Q→P:=by intro q;(repeat (first|refine db ?_|refine fA ?_));(with_reducible exact q.h)):P:=h ⟨k⟩
theorem b3{P Q:Prop}(k:Q)(h:qH Q→P:=by intro q;(first|((with_reducible apply eU);exact rfl;(with_reducible apply fT);exact rfl;with_reducible apply dA)|((with_reducible apply Qk);kernel_rfl)|(with_reducible first|apply UD|apply Uo|apply UC|apply kt|apply LB|apply LD|apply ajE|apply ajP|apply aiT|apply aiU|apply aiV|apply LA|apply ajD|apply anM)|((with_reducible apply anK);exact rfl)|((with_reducible apply ajR);exact rfl;(first|assumption|exact ca (by omega)|(simp only[rP];(first|done|omega))|exact rfl))|((with_reducible apply ajQ);exact rfl;(first|assumption|exact cm (by omega)|(simp only[rP];(first|done|omega))|exact rfl))|((with_reducible apply eU);exact rfl;(repeat refine hP ?_);with_reducible apply dA));(with_reducible exact q.h)):P:=h ⟨k⟩
theorem aS{P Q:Prop}(k:Q)(h:qH Q→P:=by intro q;(repeat refine b3 ?_);(with_reducible exact q.h)):P:=h ⟨k⟩
theorem gu{P Q:Prop}(k:Q)(h:qH Q→P:=by intro q;((with_reducible apply eU);exact rfl;(repeat (first|refine hP ?_|refine fA ?_));with_reducible apply dA);(with_reducible exact q.h)):P:=h ⟨k⟩
theorem oR{P Q:Prop}(k:Q)(h:qH Q→P:=by intro q;(repeat (first|refine b3 ?_|refine gu ?_));(with_reducible exact q.h)):P:=h ⟨k⟩
theorem anR{P Q A:Prop}(c:A)(k:Q)(h:A→qH Q→P:=by intro c q;((with_reducible apply eU);exact rfl;(repeat (first|refine uf c ?_|refine hP ?_));with_reducible apply dA);(with_reducible exact q.h)):P:=h c ⟨k⟩
end Go.Proofs.YtklpfooafbjnpaaGreat
namespace Go.Proofs.YtklpfooafbjnpaaGreat
open Go.RowKit
structure dS where
  holds:World→Value→Prop
  lf:World→Value→Nat→Prop
  frame:∀w w' v,holds w v→(∀b,lf w v b→w'.heap[b]?=w.heap[b]?)→holds w' v∧∀b,lf w' v b→lf w v b
  iM:∀w v b,holds w v→lf w v b→b<w.heap.size
  cell:∀w v,holds w v→v.oneCell'=true
inductive AC where
  | c (v:Value)
  | own (k off:Nat)
  | p (R:dS)
inductive bD where
  | one (x:AC)
  | agg (xs:List AC)
inductive ag where
  | w (x:bD)
  | cd (xs:List bD)
def bD.cells:bD→List AC
  | .one x=>[x]
  | .agg xs=>xs
def fS(U:Nat→Prop)(ad:Nat→Nat)(W:World):AC→Value→Prop
  | .c v,x=>x=v∧v.oneCell'=true
  | .own k off,x=>x = .pointer (some ⟨ad k,off,none⟩)
  | .p R,x=>R.holds W x∧∀b,R.lf W x b→U b
def bQ(U:Nat→Prop)(ad:Nat→Nat)(W:World)(xs:List AC)(vs:List Value):Prop :=
  xs.length=vs.length∧∀(i:Nat) (x:AC) (v:Value),xs[i]?=some x→vs[i]?=some v→fS U ad W x v
def gM(U:Nat→Prop)(ad:Nat→Nat)(W:World):bD→Value→Prop
  | .one x,v=>fS U ad W x v
  | .agg xs,v=>∃vs:List Value,v = .agg vs.toArray∧bQ U ad W xs vs
def cR(U:Nat→Prop)(ad:Nat→Nat)(W:World):ag→Value→Prop
  | .w x,v=>gM U ad W x v
  | .cd xs,v=>∃vs:List Value,v = .tuple vs.toArray∧xs.length=vs.length∧∀(i:Nat) (x:bD) (v:Value),xs[i]?=some x→vs[i]?=some v→gM U ad W x v
def AC.owns:AC→Nat→Prop
  | .own k _,j=>j=k
  | _,_=>False
def bD.owns(x:bD)(j:Nat):Prop:=∃y∈x.cells,y.owns j
def ag.owns:ag→Nat→Prop
  | .w x,j=>x.owns j
  | .cd xs,j=>∃x∈xs,x.owns j
section
variable{U cj:Nat→Prop}{ad aT:Nat→Nat}{W W':World}
theorem fS.cell{x:AC}{v:Value}(h:fS U ad W x v):v.oneCell'=true:=by
  cases x with
  | c u=>obtain⟨rfl,h⟩:=h;exact h
  | own k off=>cases h;rfl
  | p R=>exact R.cell _ _ h.1
theorem fS.map{x:AC}{v:Value}(h:fS U ad W x v)(cV:∀b,U b→b<W.heap.size→cj b∧W'.heap[b]?=W.heap[b]?)(jc:∀j,x.owns j→aT j=ad j):fS cj aT W' x v:=by
  cases x with
  | c u=>exact h
  | own k off=>simp only[fS] at h ⊢;rw[h,jc k rfl]
  | p R =>
    obtain⟨h1,h2⟩:=h;have ar:=R.frame W W' v h1 (fun b aa=>(cV b (h2 b aa) (R.iM _ _ _ h1 aa)).2);exact⟨ar.1,fun b aa=>(cV b (h2 b (ar.2 b aa)) (R.iM _ _ _ h1 (ar.2 b aa))).1⟩
theorem bQ.map{xs:List AC}{vs:List Value}(h:bQ U ad W xs vs)(cV:∀b,U b→b<W.heap.size→cj b∧W'.heap[b]?=W.heap[b]?)(jc:∀j x,x∈xs→x.owns j→aT j=ad j):bQ cj aT W' xs vs :=
  ⟨h.1,fun i x v ab hv=>(h.2 i x v ab hv).map cV fun j af=>jc j x (cP ab) af⟩
theorem gM.map{x:bD}{v:Value}(h:gM U ad W x v)(cV:∀b,U b→b<W.heap.size→cj b∧W'.heap[b]?=W.heap[b]?)(jc:∀j,x.owns j→aT j=ad j):gM cj aT W' x v:=by
  cases x with
  | one x=>exact fS.map h cV fun j af=>jc j ⟨x,by simp[bD.cells],af⟩
  | agg xs =>
    obtain⟨vs,e,h⟩:=h;exact⟨vs,e,h.map cV fun j x ab af=>jc j ⟨x,ab,af⟩⟩
theorem cR.map{x:ag}{v:Value}(h:cR U ad W x v)(cV:∀b,U b→b<W.heap.size→cj b∧W'.heap[b]?=W.heap[b]?)(jc:∀j,x.owns j→aT j=ad j):cR cj aT W' x v:=by
  cases x with
  | w x=>exact gM.map h cV jc
  | cd xs =>
    obtain⟨vs,e,al,h⟩:=h;exact⟨vs,e,al,fun i x v ab hv=>(h i x v ab hv).map cV fun j af=>jc j ⟨x,cP ab,af⟩⟩
theorem gM.cells{x:bD}{v:Value}(h:gM U ad W x v):bQ U ad W x.cells v.cells.toList:=by
  cases x with
  | one x =>
    have ak:v.cells = #[v]:=by
      have:=fS.cell h;cases v <;> simp_all [Value.cells,Value.oneCell']
    rw[ak];refine⟨rfl,fun i y u ai hu => ?_⟩;simp only[bD.cells] at ai;cases i with
    | zero=>simp at ai hu;subst ai;subst hu;exact h
    | succ i=>simp at ai
  | agg xs =>
    obtain⟨vs,rfl,h⟩:=h;exact h
end
def upd{α:Type}(f:Nat→Option α)(k:Nat)(v:α):Nat→Option α:=fun j=>bif Nat.beq j k then some v else f j
theorem bW{α:Type}(f:Nat→Option α)(k:Nat)(v:α):upd f k v k=some v:=by simp[upd]
theorem bM{α:Type}(f:Nat→Option α){k j:Nat}(v:α)(h:j≠k):upd f k v j=f j:=by
  have:Nat.beq j k=false:=by
    cases aa:Nat.beq j k with
    | false=>rfl
    | true=>exact absurd (gd aa) h
  simp[upd,this]
theorem Vn{α:Type}(f:Nat→Option α){k j:Nat}(v u:α)(h:j≠k):upd (upd f k v) j u=upd (upd f j u) k v:=by
  funext i
  by_cases h1:i=j
  · subst h1;rw[bW,bM _ _ h,bW]
  · by_cases h2:i=k
    · subst h2;rw[bM _ _ h1,bW,bW]
    · rw[bM _ _ h1,bM _ _ h2,bM _ _ h2,bM _ _ h1]
structure aB where
  n:Nat
  tmps:Nat→Option ag
  mem:Nat→Option (List AC)
def aB.put(s:aB)(dst:Option Nat)(v:ag):aB :=
  match dst with
  | some d=>{s with tmps:=upd s.tmps d v}
  | none=>s
def aB.en(s:aB)(k:Nat)(cs:List AC):aB:={s with mem:=upd s.mem k cs}
def Sq:Value→bD
  | .agg cs => .agg (cs.toList.map .c)
  | v => .one (.c v)
def yU:Value→ag
  | .tuple vs => .cd (vs.toList.map Sq)
  | v => .w (Sq v)
def aB.look(s:aB):Operand→Option ag
  | .tmp t=>s.tmps t
  | .const v=>if v.oneCell' then some (.w (.one (.c v))) else none
  | .global g=>some (.w (.one (.c (.pointer (some ⟨g,0,none⟩)))))
  | .func f=>some (.w (.one (.c (.func (.func f) #[] #[]))))
def aB.free(s:aB)(A:Nat→Prop)(ad:Nat→Nat)(b:Nat):Prop:=A b∧∀k cs,s.mem k=some cs→ad k≠b
structure aB.bN (s:aB):Prop where
  dk:∀t av j,s.tmps t=some av→av.owns j→∃cs,s.mem j=some cs
  c3:∀k cs x j,s.mem k=some cs→x∈cs→x.owns j→∃aw,s.mem j=some aw
structure cT where
  W:World
  F:Nat→Prop
  lt:∀b,F b→b<W.heap.size
  N:Nat→Option Nat
  marks:List Deferred:=[]
def cT.all(W:World):cT:=⟨W,fun b=>b<W.heap.size,fun _ h=>h,fun _=>none,[]⟩
def uk(B:cT)(s:aB)(ad:Nat→Nat):Prop:=∀k b,B.N k=some b→s.n≤k∧ad k=b
structure eO (B:cT) (w:World):Prop where
  os:w.os=B.W.os
  tape:w.tape=B.W.tape
  output:w.output=B.W.output
  size:B.W.heap.size≤w.heap.size
  block:∀b,B.F b→w.heap[b]?=B.W.heap[b]?
theorem eO.then{B:cT}{w w':World}(h:eO B w)(aa:Below w.heap.size w w'):eO B w' :=
  ⟨aa.os.trans h.os,aa.tape.trans h.tape,aa.output.trans h.output,eL h.size aa.size,fun b ay=>(aa.block b (j6 (B.lt b ay) h.size)).trans (h.block b ay)⟩
theorem eO.refl(B:cT):eO B B.W:=⟨rfl,rfl,rfl,cH _,fun _ _=>rfl⟩
theorem eO.all{W w:World}(h:eO (cT.all W) w):Below W.heap.size W w:=⟨h.os,h.tape,h.output,h.size,fun k ae=>h.block k ae⟩
structure Rel (B:cT) (A:Nat→Prop) (s:aB) (ad:Nat→Nat) (a:Act) (w:World):Prop where
  kv:a.defers=B.marks
  size:a.tmps.size=s.n
  dk:∀t av,s.tmps t=some av→∃v,a.tmps[t]?=some v∧cR (s.free A ad) ad w av v
  c3:∀k cs,s.mem k=some cs→∃(vs:List Value) (ty:TypeId),w.heap[ad k]?=some (.cells vs.toArray ty (0,0))∧bQ (s.free A ad) ad w cs vs∧¬B.F (ad k)
  inj:∀k k' cs aw,s.mem k=some cs→s.mem k'=some aw→ad k=ad k'→k=k'
  below:eO B w
  up:∀b,B.W.heap.size≤b→A b
  fI:uk B s ad
section
variable{B:cT}{A:Nat→Prop}{s:aB}{ad:Nat→Nat}{a:Act}{w w':World}
theorem aB.aas(s:aB)(dst:Option Nat)(v:ag)(A:Nat→Prop)(ad:Nat→Nat):(s.put dst v).free A ad=s.free A ad:=by cases dst <;> rfl
theorem aB.yM(s:aB)(dst:Option Nat)(v:ag):(s.put dst v).mem=s.mem:=by cases dst <;> rfl
theorem aB.tJ(s:aB)(dst:Option Nat)(v:ag):(s.put dst v).n=s.n:=by cases dst <;> rfl
theorem Rel.put{dst:Option Nat}{av:ag}{v:Value}(h:Rel B A s ad a w)(hd:∀d,dst=some d→d<s.n)(hv:cR (s.free A ad) ad w av v):Rel B A (s.put dst av) ad (a.put dst v) w:=by
  cases dst with
  | none=>exact h
  | some d =>
    have bb:=hd d rfl;refine⟨h.kv,by simp[aB.put,Act.put,h.size],fun t bv aD => ?_,h.c3,h.inj,h.below,h.up,h.fI⟩;simp only[aB.put] at aD
    by_cases e:t=d
    · subst e
      rw[bW] at aD;cases aD;exact⟨v,by simp[Act.put,h.size,bb],hv⟩
    · rw[bM _ _ e] at aD
      obtain⟨u,h1,h2⟩:=h.dk t bv aD;exact⟨u,by simp only[Act.put];rw[Cm (Ne.symm e)];exact h1,h2⟩
theorem Rel.lt{k:Nat}{cs:List AC}(h:Rel B A s ad a w)(ae:s.mem k=some cs):ad k<w.heap.size:=by
  obtain⟨vs,ty,h1,_⟩:=h.c3 k cs ae;exact(iA.1 h1).1
theorem Rel.call(h:Rel B A s ad a w)(aa:Below w.heap.size w w'):Rel B A s ad a w':=by
  have cV:∀b,s.free A ad b→b<w.heap.size→s.free A ad b∧w'.heap[b]?=w.heap[b]?:=fun b cO al=>⟨cO,aa.block b al⟩;refine⟨h.kv,h.size,fun t av aD => ?_,fun k cs ae => ?_,h.inj,h.below.then aa,h.up,h.fI⟩
  · obtain⟨v,h1,h2⟩:=h.dk t av aD
    exact⟨v,h1,h2.map cV fun _ _=>rfl⟩
  · obtain⟨vs,ty,h1,h2,ar⟩:=h.c3 k cs ae
    exact⟨vs,ty,by rw[aa.block _ (h.lt ae)];exact h1,h2.map cV fun _ _ _ _=>rfl,ar⟩
theorem Rel.new{d:Nat}{cs:List AC}{vs:List Value}{ty:TypeId}(h:Rel B A s ad a w)(ok:s.bN)(ep:d<s.n)(hm:s.mem d=none)(hv:bQ (s.free A ad) ad w cs vs)(dv:∀x∈cs,∀j,x.owns j→∃aw,s.mem j=some aw) :
    Rel B A (s.en d cs) (fun k=>if k=d then w.heap.size else ad k) a (w.alloc (.cells vs.toArray ty)):=by
  have cz:∀k aw,s.mem k=some aw→k≠d:=fun k aw ae e=>by subst e;rw[hm] at ae;cases ae
  have cV:∀b,s.free A ad b→b<w.heap.size→(s.en d cs).free A (fun k=>if k=d then w.heap.size else ad k) b∧(w.alloc (.cells vs.toArray ty)).heap[b]?=w.heap[b]?:=by
    intro b aa al;refine⟨⟨aa.1,fun k aw ae => ?_⟩,Below.heap_alloc _ _ _ al⟩;simp only[aB.en] at ae
    by_cases e:k=d
    · subst e;simp;omega
    · rw[bM _ _ e] at ae
      simp only[e,if_false];exact aa.2 k aw ae
  have c7:∀j,(∃aw,s.mem j=some aw)→(if j=d then w.heap.size else ad j)=ad j:=fun j ⟨aw,af⟩=>by rw[if_neg (cz j aw af)]
  refine⟨h.kv,h.size,fun t av aD => ?_,fun k aw ae => ?_,fun k k' c1 c2 ae eB e => ?_,h.below.then ((Below.refl _ _).alloc (cH _) _),h.up,fun k b ae => ?_⟩
  · obtain⟨v,h1,h2⟩:=h.dk t av aD
    exact⟨v,h1,h2.map cV fun j af=>c7 j (ok.dk t av j aD af)⟩
  · simp only[aB.en] at ae
    by_cases e:k=d
    · subst e
      rw[bW] at ae;cases ae;refine⟨vs,ty,?_,hv.map cV fun j x ab af=>c7 j (dv x ab j af),?_⟩
      · show (w.heap.push _)[if k=k then w.heap.size else ad k]?=_;simp
      · simp only[if_true];exact fun ay=>by have:=B.lt _ ay;have:=h.below.size;omega
    · rw[bM _ _ e] at ae
      obtain⟨us,t,h1,h2,ar⟩:=h.c3 k aw ae;refine⟨us,t,?_,h2.map cV fun j x ab af=>c7 j (ok.c3 k aw x j ae ab af),?_⟩
      · simp only[e,if_false];rw[Below.heap_alloc _ _ _ (h.lt ae)];exact h1
      · simp only[e,if_false];exact ar
  · simp only[aB.en] at ae eB
    by_cases aI:k=d <;> by_cases aN:k'=d
    · rw[aI,aN]
    · rw[bM _ _ aN] at eB
      have:=h.lt eB;simp[aI,aN] at e;omega
    · rw[bM _ _ aI] at ae
      have:=h.lt ae;simp[aI,aN] at e;omega
    · rw[bM _ _ aI] at ae
      rw[bM _ _ aN] at eB;simp[aI,aN] at e;exact h.inj k k' _ _ ae eB e
  · obtain⟨h1,h2⟩:=h.fI k b ae
    refine⟨h1,?_⟩;rw[if_neg (fun e=>by subst e;exact absurd ep (Nat.not_lt.2 h1))];exact h2
theorem Rel.set{k:Nat}{cs ds:List AC}{us:List Value}(h:Rel B A s ad a w)(ae:s.mem k=some cs)(hv:bQ (s.free A ad) ad w ds us):Rel B A (s.en k ds) ad a (w.setRow (ad k) us.toArray):=by
  have hW:(s.en k ds).free A ad=s.free A ad:=by
    funext b;apply propext
    constructor
    · rintro⟨cp,aa⟩
      refine⟨cp,fun j aw af => ?_⟩
      by_cases e:j=k
      · subst e;exact aa j ds (by simp[aB.en,bW])
      · exact aa j aw (by simp only[aB.en];rw[bM _ _ e];exact af)
    · rintro⟨cp,aa⟩
      refine⟨cp,fun j aw af => ?_⟩;simp only[aB.en] at af
      by_cases e:j=k
      · subst e;exact aa j cs ae
      · rw[bM _ _ e] at af;exact aa j aw af
  obtain⟨vs,ty,g1,g2,g3⟩:=h.c3 k cs ae;have lm:(w.setRow (ad k) us.toArray).heap[ad k]?=some (.cells us.toArray ty (0,0)):=setRow_heap w (ad k) vs.toArray us.toArray ty (0,0) g1
  have wN:∀b,b≠ad k→(w.setRow (ad k) us.toArray).heap[b]?=w.heap[b]?:=fun b aa=>by
    simp only[World.setRow,vm];rw[if_neg (Ne.symm aa)]
  have cV:∀b,s.free A ad b→b<w.heap.size→s.free A ad b∧(w.setRow (ad k) us.toArray).heap[b]?=w.heap[b]?:=fun b aa _=>⟨aa,wN b (Ne.symm (aa.2 k cs ae))⟩;refine⟨h.kv,h.size,fun t av aD => ?_,fun j aw af => ?_,fun j e2 c1 c2 af lh e => ?_,?_,h.up,h.fI⟩
  · obtain⟨v,h1,h2⟩:=h.dk t av aD
    exact⟨v,h1,by rw[hW];exact h2.map cV fun _ _=>rfl⟩
  · simp only[aB.en] at af
    rw[hW]
    by_cases e:j=k
    · subst e
      rw[bW] at af;cases af;exact⟨us,ty,lm,hv.map cV fun _ _ _ _=>rfl,g3⟩
    · rw[bM _ _ e] at af
      obtain⟨xC,ak8,h1,h2,ar⟩:=h.c3 j aw af;exact⟨xC,ak8,by rw[wN _ (fun e'=>e (h.inj j k _ _ af ae e'))];exact h1,h2.map cV fun _ _ _ _=>rfl,ar⟩
  · have hold:∀i c,(s.en k ds).mem i=some c→∃c',s.mem i=some c':=fun i c hi=>by
      simp only[aB.en] at hi
      by_cases e:i=k
      · exact⟨cs,by rw[e];exact ae⟩
      · rw[bM _ _ e] at hi;exact⟨c,hi⟩
    obtain⟨d1,q1⟩:=hold j c1 af;obtain⟨d2,q2⟩:=hold e2 c2 lh;exact h.inj j e2 _ _ q1 q2 e
  · exact⟨h.below.os,h.below.tape,h.below.output,by have:=h.below.size;simpa [World.setRow] using this,fun b aa=>(wN b (fun e=>by subst e;exact g3 aa)).trans (h.below.block b aa)⟩
end
def ag.closed(x:ag):Prop:=∀j,¬x.owns j
def ig(U:Nat→Prop)(ad:Nat→Nat)(W:World)(xs:List ag)(vs:List Value):Prop :=
  xs.length=vs.length∧∀(i:Nat) (x:ag) (v:Value),xs[i]?=some x→vs[i]?=some v→cR U ad W x v
structure aO (P:Program) (f:FuncId) (args:List ag) (r:ag):Prop where
  ha:∀x∈args,x.closed
  cn:r.closed
  call:∀(U:Nat→Prop) (W:World) (vs:List Value),ig U id W args vs →
    Calls P f vs.toArray W fun e W'=>∃v,e = .returned v∧cR (fun b=>U b∨W.heap.size≤b) id W' r v∧Below W.heap.size W W'
structure xM (P:Program) (look:Operand→Option ag) (o:Oper) (av:ag):Prop where
  aj4:∀cs b,o.op ≠ .select cs b
  ops:∀x∈o.op.operands,∃a,look x=some a
  run:∀(U:Nat→Prop) (ad:Nat→Nat) (W:World) (env:Operand→Value),(∀x∈o.op.operands,∀a,look x=some a→cR U ad W a (env x)) →
    ∃v,(execOp env o).run P W = .ok (.value v) W∧cR U ad W av v
  own:∀j,av.owns j→∃x∈o.op.operands,∃a,look x=some a∧a.owns j
def pick(P:Program)(ty:TypeId)(cs:List AC)(off:Nat):Option bD :=
  match P.underlying ty with
  | some (.struct _)|some (.array _ _)=>(P.info? ty).bind fun i=>if off+i.size≤cs.length then some (.agg ((cs.drop off).take i.size)) else none
  | some _=>(cs[off]?).map .one
  | none=>none
def eM(cs:List AC)(off:Nat)(ds:List AC):List AC:=cs.take off++ds++cs.drop (off+ds.length)
inductive vQ (P:Program) (look:Operand→Option ag) (o:Oper):List AC→Prop
  | alloc (ty:TypeId) (i:TypeInfo) (z:Value) (cs:List AC) (aC:o.op = .alloc ty) (hi:P.info? ty=some i) (aR:i.zero=some z) (ak:cs=z.cells.toList.map .c) (h1:(z.cells.toList.all fun v=>v.oneCell')=true):vQ P look o cs
  | box (ty:TypeId) (x:Operand) (z:bD) (aC:o.op = .box ty x) (ab:look x=some (.w z)):vQ P look o z.cells
def enters(P:Program)(f:FuncId):Bool:=match P.funcs[f]? with
  | some fn => fn.body.isSome && fn.name != "runtime.NumGoroutine"
  | none=>false
def DU:Value→Bool
  | .agg cs=>cs.toList.all fun v=>v.oneCell'
  | .tuple _=>false
  | _=>true
def HZ(w:World):AC→Value→Nat→Prop
  | .p R,x,b=>R.lf w x b
  | _,_,_=>False
def lV(fn:Fn)(cs:List AC):dS where
  holds w v:=∃vs:List Value,v = .func fn #[] vs.toArray∧bQ (fun _=>True) id w cs vs∧∀x∈cs,∀j,¬x.owns j
  lf w v b:=∃vs:List Value,v = .func fn #[] vs.toArray∧∃(i:Nat) (x:AC) (u:Value),cs[i]?=some x∧vs[i]?=some u∧HZ w x u b
  frame w w' v:=by
    rintro⟨vs,rfl,al,ak⟩ ay
    have key:∀(i:Nat) (x:AC) (u:Value),cs[i]?=some x→vs[i]?=some u→fS (fun _=>True) id w' x u∧∀b,HZ w' x u b→HZ w x u b:=by
      intro i x u ab hu;have h:=al.2 i x u ab hu;cases x with
      | c y=>exact⟨h,fun b aa=>aa⟩
      | own k o=>exact⟨h,fun b aa=>aa⟩
      | p R =>
        have:=R.frame w w' u h.1 fun b aa=>ay b ⟨vs,rfl,i,_,u,ab,hu,aa⟩;exact⟨⟨this.1,fun _ _=>trivial⟩,this.2⟩
    refine⟨⟨vs,rfl,⟨al.1,fun i x u ab hu=>(key i x u ab hu).1⟩,ak⟩,?_⟩;rintro b ⟨xC,e,i,x,u,ab,hu,aa⟩;have e':vs=xC:=by simpa using e
    subst e';exact⟨vs,rfl,i,x,u,ab,hu,(key i x u ab hu).2 b aa⟩
  iM w v b:=by
    rintro⟨vs,rfl,al,ak⟩ ⟨xC,e,i,x,u,ab,hu,aa⟩;have e':vs=xC:=by simpa using e
    subst e';have h:=al.2 i x u ab hu;cases x with
    | p R=>exact R.iM _ _ _ h.1 aa
    | c y=>cases aa
    | own k o=>cases aa
  cell w v:=by rintro⟨vs,rfl,_⟩;rfl
theorem lV.Y4{U:Nat→Prop}{ad:Nat→Nat}{w:World}{v:Value}{fn:Fn}{cs:List AC}(h:fS U ad w (.p (lV fn cs)) v):∃vs:List Value,v = .func fn #[] vs.toArray∧bQ U id w cs vs:=by
  obtain⟨⟨vs,rfl,al,ak⟩,ay⟩:=h;refine⟨vs,rfl,al.1,fun i x u ab hu => ?_⟩;have h:=al.2 i x u ab hu;cases x with
  | c y=>exact h
  | own k o=>exact h
  | p R=>exact⟨h.1,fun b aa=>ay b ⟨vs,rfl,i,_,u,ab,hu,aa⟩⟩
structure rE (P:Program) (look:Operand→Option ag) (o:Oper) (f:FuncId) (args:List ag):Prop where
  ex:∃c g,o.op = .call c∧c.callee = .value g ∧
    ((∃bs:List Value,look g=some (.w (.one (.c (.func (.func f) bs.toArray #[]))))∧bs.map (fun b=>some (yU b))++c.args.toList.map look=args.map some∧bs.all DU=true) ∨
     ∃cs:List AC,look g=some (.w (.one (.p (lV (.func f) cs))))∧c.args.toList.map look++cs.map (fun x=>some (.w (.one x)))=args.map some)
  enters:enters P f=true
structure xG (P:Program) (look:Operand→Option ag) (o:Oper) (av:ag):Prop where
  ops:∀x∈o.op.operands,∃a,look x=some a
  gO:av.closed
  run:∀(U:Nat→Prop) (ad:Nat→Nat) (W:World) (env:Operand→Value),(∀x∈o.op.operands,∀a,look x=some a→cR U ad W a (env x)) →
    ∃v W',(execOp env o).run P W = .ok (.value v) W'∧cR (fun b=>U b∨W.heap.size≤b) ad W' av v∧Below W.heap.size W W'
inductive ms (P:Program) (s:aB) (o:Oper):aB→Prop
  | fresh (av:ag) (aj:xG P s.look o av) (hd:∀d,o.dst=some d→d<s.n):ms P s o (s.put o.dst av)
  | quiet (av:ag) (aj:xM P s.look o av) (hd:∀d,o.dst=some d→d<s.n):ms P s o (s.put o.dst av)
  | load (ty:TypeId) (x:Operand) (k off:Nat) (cs:List AC) (av:bD) (aC:o.op = .load ty x) (ab:s.look x=some (.w (.one (.own k off)))) (hm:s.mem k=some cs) (hv:pick P ty cs off=some av) (hd:∀d,o.dst=some d→d<s.n):ms P s o (s.put o.dst (.w av))
  | store (ty:TypeId) (x y:Operand) (k off:Nat) (cs:List AC) (z:bD) (i:TypeInfo) (aC:o.op = .store ty x y) (ab:s.look x=some (.w (.one (.own k off)))) (ai:s.look y=some (.w z)) (hm:s.mem k=some cs) (hi:P.info? ty=some i) (hs:i.size=z.cells.length) (aa:off+z.cells.length≤cs.length) (hd:∀d,o.dst=some d→d<s.n):ms P s o ((s.put o.dst (.cd [])).en k (eM cs off z.cells))
  | new (cs:List AC) (d:Nat) (dM:o.dst=some d) (hm:s.mem d=none) (aA:vQ P s.look o cs) (hd:d<s.n):ms P s o ((s.en d cs).put (some d) (.w (.one (.own d 0))))
  | call (f:FuncId) (args:List ag) (r:ag) (ak:rE P s.look o f args) (hp:aO P f args r) (hd:∀d,o.dst=some d→d<s.n):ms P s o (s.put o.dst r)
section
variable{P:Program}{B:cT}{A:Nat→Prop}{s s':aB}{ad:Nat→Nat}{a:Act}{w:World}{o:Oper}{Q:Exit→Act→World→Prop}
theorem cR.undef(U:Nat→Prop):cR U ad w (.cd []) undef:=⟨[],rfl,rfl,fun i x v h=>by simp at h⟩
theorem Rel.look{x:Operand}{av:ag}(h:Rel B A s ad a w)(ab:s.look x=some av):cR (s.free A ad) ad w av (a.eval x):=by
  cases x with
  | tmp t =>
    obtain⟨v,h1,h2⟩:=h.dk t av ab;have:a.eval (.tmp t)=v:=by simp[Act.eval,Array.getD_eq_getD_getElem?,h1]
    rw[this];exact h2
  | const v =>
    simp only[aB.look] at ab
    split at ab
    · rename_i h1;cases ab;exact⟨rfl,h1⟩
    · cases ab
  | global g=>cases ab;exact⟨rfl,rfl⟩
  | func f=>cases ab;exact⟨rfl,rfl⟩
theorem bQ.cellAt{U:Nat→Prop}{W:World}{xs:List AC}{vs:List Value}{g:Nat}{ty:TypeId}(h:bQ U ad W xs vs)(au:W.heap[g]?=some (.cells vs.toArray ty (0,0))){i:Nat}{x:AC}(hi:xs[i]?=some x) :
    ∃v,vs[i]?=some v∧W.cell? ⟨g,i,none⟩=some v∧fS U ad W x v:=by
  have bb:i<vs.length:=by
    rw[←h.1];rcases h7 i xs.length with q|q
    · exact q
    · rw[ql q] at hi;cases hi
  refine⟨vs[i],bG bb,?_,h.2 i x _ hi (bG bb)⟩;simp[World.cell?,au,bb]
theorem bQ.sub{U:Nat→Prop}{W:World}{xs:List AC}{vs:List Value}(h:bQ U ad W xs vs)(off n:Nat):bQ U ad W ((xs.drop off).take n) ((vs.drop off).take n):=by
  refine⟨by simp[h.1],fun i x v ab hv => ?_⟩;rw[List.getElem?_take] at ab hv
  split at ab
  · rename_i bb
    rw[if_pos bb] at hv;rw[gI] at ab hv;exact h.2 _ x v ab hv
  · cases ab
theorem bQ.eM{U:Nat→Prop}{W:World}{xs ds:List AC}{vs us:List Value}(h:bQ U ad W xs vs)(hd:bQ U ad W ds us)(off:Nat)(aa:off+ds.length≤xs.length):bQ U ad W (eM xs off ds) (vs.take off++us++vs.drop (off+us.length)):=by
  have aI:=h.1;have aN:=hd.1;refine⟨by simp[Proofs.YtklpfooafbjnpaaGreat.eM,aI,aN],fun i x v ab hv => ?_⟩;unfold Proofs.YtklpfooafbjnpaaGreat.eM at ab;have dI:(xs.take off).length=off:=by simp;omega
  have sg:(vs.take off).length=off:=by simp;omega
  by_cases h1:i<off
  · rw[hl,fE (by omega),gg h1] at ab
    rw[hl,fE (by omega),gg h1] at hv;exact h.2 i x v ab hv
  · by_cases h2:i<off+ds.length
    · rw[hl,gh (by omega),fE (by omega),dI] at ab
      rw[hl,gh (by omega),fE (by omega),sg] at hv;exact hd.2 _ x v ab hv
    · rw[gh (by simp;omega),gI] at ab hv
      simp only[cY,dI,sg] at ab hv;rw[←aN] at hv;have e:off+ds.length+(i-(off+ds.length))=i:=by omega
      rw[e] at ab hv;exact h.2 i x v ab hv
theorem Lx{ty:TypeId}{A:Addr}{v:Value}{d:TypeDesc}(hu:P.underlying ty=some d)(hs:∀bp,d ≠ .struct bp)(aX:∀n e,d ≠ .array n e)(ak:w.cell? A=some v):(loadVar ty A).run P w = .ok v w:=by
  have h1:(isAgg ty).run P w = .ok false w:=by
    unfold isAgg;simp only[Sem.run_bind,run_underlying hu,Result.andThen_ok];cases d <;> first|rfl|(exact absurd rfl (hs _))|(exact absurd rfl (aX _ _))
  unfold loadVar;simp only[Sem.run_bind,h1,Result.andThen_ok,Bool.false_eq_true,if_false];simp[load,Sem.run,ak]
theorem ia{ty:TypeId}{i:TypeInfo}(hi:P.info? ty=some i):(sizeOf ty).run P w = .ok i.size w:=by
  simp[sizeOf,typeInfo,program,Sem.run_bind,Sem.run,hi,Result.andThen]
theorem Lw{ty:TypeId}{A:Addr}{vs:List Value}{i:TypeInfo}{d:TypeDesc}(hu:P.underlying ty=some d)(hd:(∃bp,d = .struct bp)∨∃n e,d = .array n e)(hi:P.info? ty=some i)(al:vs.length=i.size)(ak:∀j v,vs[j]?=some v→w.cell? (A.add j)=some v) :
    (loadVar ty A).run P w = .ok (.agg vs.toArray) w:=by
  have h1:(isAgg ty).run P w = .ok true w:=by
    unfold isAgg;simp only[Sem.run_bind,run_underlying hu,Result.andThen_ok];rcases hd with ⟨bp,rfl⟩|⟨n,e,rfl⟩ <;> rfl
  unfold loadVar;simp only[Sem.run_bind,h1,Result.andThen_ok,if_true,ia hi,←al,run_loadCells_list w A vs ak];rfl
end
section
variable{P:Program}{B:cT}{A:Nat→Prop}{s s':aB}{ad:Nat→Nat}{a:Act}{w:World}{o:Oper}{Q:Exit→Act→World→Prop}
theorem Tf{U:Nat→Prop}{ty:TypeId}{cs:List AC}{off g:Nat}{av:bD}{vs:List Value}{t:TypeId}(hv:pick P ty cs off=some av)(au:w.heap[g]?=some (.cells vs.toArray t (0,0)))(al:bQ U ad w cs vs) :
    ∃v,(loadVar ty ⟨g,off,none⟩).run P w = .ok v w∧gM U ad w av v:=by
  unfold pick at hv
  have key:∀d,P.underlying ty=some d→((∃bp,d = .struct bp)∨∃n e,d = .array n e)→((P.info? ty).bind fun i=>if off+i.size≤cs.length then some (bD.agg ((cs.drop off).take i.size)) else none)=some av→∃v,(loadVar ty ⟨g,off,none⟩).run P w = .ok v w∧gM U ad w av v:=by
    intro d hu hd h;cases hi:P.info? ty with
    | none=>rw[hi] at h;cases h
    | some i =>
      rw[hi] at h;simp only[lN] at h
      split at h
      · rename_i hle
        cases h;have hs:=al.sub off i.size;have hlen:((vs.drop off).take i.size).length=i.size:=by have:=al.1;simp;omega
        refine⟨_,Lw hu hd hi hlen (fun j v af => ?_),_,rfl,hs⟩;have lh:j<i.size:=by rw[←hlen];exact(br.1 af).1
        rw[gg lh,gI] at af;have lH:(⟨g,off,none⟩:Addr).add j=⟨g,off+j,none⟩:=by unfold Addr.add;split <;> simp_all
        rw[lH];simp only[World.cell?,au];simpa using af
      · cases h
  have Kp:∀d,P.underlying ty=some d→(∀bp,d ≠ .struct bp)→(∀n e,d ≠ .array n e)→(cs[off]?).map bD.one=some av→∃v,(loadVar ty ⟨g,off,none⟩).run P w = .ok v w∧gM U ad w av v:=by
    intro d hu h1 h2 h;cases ab:cs[off]? with
    | none=>rw[ab] at h;cases h
    | some x =>
      rw[ab] at h;cases h;obtain⟨v,q1,q2,q3⟩:=al.cellAt au ab;exact⟨v,Lx hu h1 h2 q2,q3⟩
  cases hu:P.underlying ty with
  | none=>rw[hu] at hv;cases hv
  | some d =>
    rw[hu] at hv;cases d <;> first|exact key _ hu (.inl ⟨_,rfl⟩) hv|exact key _ hu (.inr ⟨_,_,rfl⟩) hv|exact Kp _ hu (fun _ h=>by cases h) (fun _ _ h=>by cases h) hv
theorem x7{f:FuncId}{args:Array Value}(h:enters P f=true):(callFunc f args).run P w = .ok (.enter f args) w:=by
  unfold enters at h;cases ay:P.funcs[f]? with
  | none=>rw[ay] at h;cases h
  | some fn =>
    rw[ay] at h;simp only[eb,bne_iff_ne,ne_eq] at h;obtain⟨h1,h2⟩:=h;simp[callFunc,program,Sem.run_bind,Sem.run,ay,Result.andThen,h2];intro ar;rw[ar] at h1;cases h1
def lY(ro:Option Nat):Fence:={Fence.wide with round:=ro}
theorem Y1{ro:Option Nat}{n:Nat}{P:Program}{f:FuncId}{args:Array Value}{w:World}{R:Ending→World→Prop}(h:Calls P f args w R):CallsIn (lY ro) n P f args w R:=callsIn_wide.2 h
theorem ajn{ro:Option Nat}{n:Nat}{P:Program}{row:String}{args:Array Value}{w:World}{R:Value→World→Prop}(h:Rows P row args w R):RowsIn (lY ro) n P row args w R:=fun c cs _=>by
  obtain⟨v,w',ao,hs⟩:=h c cs;exact⟨v,w',ao,stepsIn_wide.2 hs⟩
theorem yR{P:Program}{ad:Operand→Value}{o:Oper}{w w':World}{x:Next}(h:(execOp ad o).run P w = .ok x w')(ab:∀d,x ≠ .defer d):∀c,o.op ≠ .defer c:=fun c ak=>by
  simp only[execOp,ak,Sem.run_bind] at h;cases ao:(resolve ad c o.type).run P w with
  | ok d w2=>rw[ao] at h;simp only[Result.andThen_ok,Sem.run_pure,Result.ok.injEq] at h;exact ab d h.1.symm
  | halt r w2=>rw[ao] at h;simp[Result.andThen] at h
theorem Oper.VO{ro:Option Nat}{n:Nat}{P:Program}{o:Oper}{a:Act}{w:World}{K:Act→World→Prop}{Q:Exit→Act→World→Prop}(h:o.wp P a w K Q)(hd:∀c,o.op ≠ .defer c):o.wpIn (lY ro) n P a w K Q:=by
  refine⟨fun _ _=>trivial,?_⟩;rw[Oper.semAt_eq _ _ _ hd];unfold Oper.wp at h;generalize (execOp a.eval o).run P w=r at *;have aA:(lY ro).depth.isSome=true→1≤n:=fun h=>by simp[lY,Fence.wide] at h
  cases r with
  | ok x w'=>cases x <;> first|exact h|exact⟨aA,Y1 h⟩|exact⟨aA,ajn h⟩|exact h.elim
  | halt x w'=>cases x <;> exact h
def k1(P:Program)(c:Code)(Q:Exit→Act→World→Prop)(a:Act)(w:World):Prop:=∀ro,c.wpIn (lY ro) 0 P Q a w
section
variable{P:Program}{Q zS:Exit→Act→World→Prop}{a:Act}{w:World}{c x y:Code}
theorem k1.top(h:k1 P c Q a w):c.wp P Q a w:=wpIn_wide.1 (h none)
theorem rA(h:k1 P c Q a w)(aj:∀e a w,Q e a w→zS e a w):k1 P c zS a w:=fun ro=>wpIn_mono (h ro) aj
theorem VF(h:k1 P x (Exit.then (k1 P y Q) Q) a w):k1 P (.seq x y) Q a w:=fun ro=>wpIn_seq (wpIn_mono (h ro) fun e a w aj=>by cases e <;> first|exact aj ro|exact aj)
theorem VG(h:Q .normal a w):k1 P .skip Q a w:=fun ro=>wpIn_skip h
theorem VA{id:Nat}(h:Q (.exit id) a w):k1 P (.exit id) Q a w:=fun ro=>wpIn_exit h
theorem VE(h:Q .ret a w):k1 P .ret Q a w:=fun ro=>wpIn_ret h
theorem Vz{c:Operand}{t:Bool}(ak:a.eval c = .bool t)(h:k1 P (if t then x else y) Q a w):k1 P (.cond c x y) Q a w:=fun ro=>wpIn_cond ak (h ro)
theorem Vy{id:Nat}(h:k1 P c (Exit.inBlock id Q) a w):k1 P (.block id c) Q a w:=fun ro=>wpIn_block (h ro)
theorem VC{id:Nat}{ops:Array Oper}(h:∀ro,wpOpsIn (lY ro) 0 P ops Q (List.range ops.size) a w):k1 P (.region id ops false) Q a w:=fun ro=>wpIn_region (h ro)
theorem VD{id:Nat}{ops:Array Oper}(hm:P.follows .mixedOrders=true)(h:∀ro,wpAnyIn (lY ro) 0 P .any ops Q ops.size (Array.replicate ops.size false) a {w with drawn:=w.drawn+1}):k1 P (.region id ops true) Q a w:=fun ro=>wpIn_region_any hm (h ro)
end
theorem Oper.sO{v:Value}{w':World}{next:Act→World→Prop}(h:(execOp a.eval o).run P w = .ok (.value v) w')(aA:next (a.put o.dst v) w'):o.wp P a w next Q:=by
  unfold Oper.wp;rw[h];exact aA
theorem Rel.QE{U:Nat→Prop}{x:ag}{v:Value}(ak:x.closed)(h:cR U ad w x v):cR U id w x v:=h.map (fun b aa _=>⟨aa,rfl⟩) fun j af=>absurd af (ak j)
theorem Uf{U:Nat→Prop}{v:Value}(h:DU v=true):cR U ad w (yU v) v:=by
  cases v with
  | agg cs =>
    refine⟨cs.toList,by simp,by simp,fun i x u ab hu => ?_⟩;rw[dx,hu] at ab;cases ab;exact⟨rfl,b5.1 h u (cP hu)⟩
  | tuple vs=>cases h
  | _=>exact⟨rfl,rfl⟩
theorem ms.R8(h:ms P s o s')(an:Rel B A s ad a w):∀c,o.op ≠ .defer c:=by
  cases h with
  | quiet av aj hd =>
    obtain⟨v,h1,h2⟩:=aj.run (s.free A ad) ad w a.eval (fun x ab b aa=>an.look aa);exact yR h1 (fun d h=>by cases h)
  | fresh av aj hd =>
    obtain⟨v,W',h1,h2,aa⟩:=aj.run (s.free A ad) ad w a.eval (fun x ab b aa=>an.look aa);exact yR h1 (fun d h=>by cases h)
  | load ty x k off cs av aC=>intro c ak;rw[aC] at ak;cases ak
  | store ty x y k off cs z i aC=>intro c ak;rw[aC] at ak;cases ak
  | new cs d dM hm aA hd =>
    intro c ak;cases aA with
    | alloc ty i z cs aC=>rw[aC] at ak;cases ak
    | box ty x z aC=>rw[aC] at ak;cases ak
  | call f args r ak hp hd =>
    intro c o7;obtain⟨⟨c',g,aC,_⟩,_⟩:=ak;rw[aC] at o7;cases o7
theorem ms.sound(h:ms P s o s')(an:Rel B A s ad a w)(ok:s.bN):o.wp P a w (fun a' w'=>∃aT,Rel B A s' aT a' w') Q:=by
  cases h with
  | quiet av aj hd =>
    obtain⟨v,h1,h2⟩:=aj.run (s.free A ad) ad w a.eval (fun x ab b aa=>an.look aa);exact Oper.sO h1 ⟨ad,an.put hd h2⟩
  | fresh av aj hd =>
    obtain⟨v,W',h1,h2,aa⟩:=aj.run (s.free A ad) ad w a.eval (fun x ab b aa=>an.look aa);refine Oper.sO h1 ⟨ad,(an.call aa).put hd (h2.map (fun b cO al=>⟨?_,rfl⟩) fun j af=>rfl)⟩;rcases cO with h|h
    · exact h
    · refine⟨an.up b (eL an.below.size h),fun k cs ae e => ?_⟩
      have:=an.lt ae;omega
  | load ty x k off cs av aC ab hm hv hd =>
    obtain⟨vs,t,g1,g2,g3⟩:=an.c3 k cs hm;obtain⟨v,h1,h2⟩:=Tf hv g1 g2;have hp:a.eval x = .pointer (some ⟨ad k,off,none⟩):=an.look ab;refine Oper.sO (v:=v) (w':=w) ?_ ⟨ad,an.put hd h2⟩;simp only[execOp,aC,Instr.loadAt,hp,Instr.sureAddr,Sem.run_bind,Sem.run_pure,Result.andThen_ok,h1]
  | store ty x y k off cs z i aC ab ai hm hi hs aa hd =>
    obtain⟨vs,t,g1,g2,g3⟩:=an.c3 k cs hm;have hp:a.eval x = .pointer (some ⟨ad k,off,none⟩):=an.look ab;have aR:gM (s.free A ad) ad w z (a.eval y):=an.look ai;have p0:=aR.cells;have wP:(a.eval y).cells.size=z.cells.length:=by have:=p0.1;simp at this;exact this.symm
    have hf:(storeVar ty ⟨ad k,off,none⟩ (a.eval y)).run P w = .ok () (w.setRow (ad k) (vs.take off++(a.eval y).cells.toList++vs.drop (off+(a.eval y).cells.toList.length)).toArray):=by
      unfold storeVar;have cz:¬((a.eval y).cells.size≠i.size):=by rw[wP,hs];simp
      simp only[Sem.run_bind,ia hi,Result.andThen_ok,if_neg cz]
      have dH:∀v∈(a.eval y).cells.toList,v.oneCell'=true:=fun v hv=>by
        obtain⟨j,af⟩:=kx hv;have bb:j<z.cells.length:=by rw[p0.1];exact(br.1 af).1
        exact(p0.2 j _ v (bG bb) af).cell
      have:=run_storeCells_at (P:=P) (ad k) off t (a.eval y).cells.toList 0 vs.toArray w g1 (by have:=g2.1;simp;omega) dH;simpa using this
    have hrel:=(Rel.set (k:=k) (ds:=eM cs off z.cells) (an.put (dst:=o.dst) hd (cR.undef _)) (by rw[aB.yM];exact hm) (by rw[aB.aas];exact g2.eM p0 off aa));unfold Oper.wp
    have fw:(execOp a.eval o).run P w = .ok .skip (w.setRow (ad k) (vs.take off++(a.eval y).cells.toList++vs.drop (off+(a.eval y).cells.toList.length)).toArray):=by
      simp only[execOp,aC,Instr.storeAt,hp,Instr.sureAddr,Sem.run_bind,Sem.run_pure,Result.andThen_ok,hf]
    rw[fw];exact⟨ad,hrel⟩
  | new cs d dM hm aA hd =>
    have main:∀(vs:List Value) (ty:TypeId),bQ (s.free A ad) ad w cs vs→(∀x∈cs,∀j,x.owns j→∃aw,s.mem j=some aw)→(execOp a.eval o).run P w = .ok (.value (.pointer (some ⟨w.heap.size,0,none⟩))) (w.alloc (.cells vs.toArray ty)) →
        o.wp P a w (fun a' w'=>∃aT,Rel B A ((s.en d cs).put (some d) (.w (.one (.own d 0)))) aT a' w') Q:=by
      intro vs ty al c7 fw;refine Oper.sO fw ⟨fun k=>if k=d then w.heap.size else ad k,?_⟩;rw[dM];refine(an.new ok hd hm al c7).put (fun d' e=>by cases e;exact hd) ?_;show Value.pointer _=Value.pointer _;simp
    cases aA with
    | alloc ty i z cs aC hi aR ak h1 =>
      subst ak;refine main z.cells.toList ty ⟨by simp,fun j x v ab hv => ?_⟩ (fun x ab j af => ?_) ?_
      · rw[dx,hv] at ab
        cases ab;exact⟨rfl,b5.1 h1 v (cP hv)⟩
      · obtain⟨v,_,rfl⟩:=fO.1 ab
        cases af
      · have tB:(zeroValue ty).run P w = .ok z w:=by simp[zeroValue,typeInfo,program,Sem.run_bind,Sem.run,hi,Result.andThen,aR]
        simp only[execOp,aC,Instr.alloc,Sem.run_bind,tB,Result.andThen_ok,newVar,newRow,newObj,Sem.run];rfl
    | box ty x z aC ab =>
      have aR:gM (s.free A ad) ad w z (a.eval x):=an.look ab;refine main (a.eval x).cells.toList ty aR.cells (fun y ai j af => ?_) ?_
      · cases x with
        | tmp t=>exact ok.dk t _ j ab ⟨y,ai,af⟩
        | const v =>
          simp only[aB.look] at ab
          split at ab
          · cases ab;simp[bD.cells] at ai;subst ai;cases af
          · cases ab
        | global g=>cases ab;simp[bD.cells] at ai;subst ai;cases af
        | func g=>cases ab;simp[bD.cells] at ai;subst ai;cases af
      · simp only[execOp,aC,Instr.box,newVar,newRow,newObj,Sem.run_bind,Sem.run,Result.andThen_ok]
        rfl
  | call f args r ak hp hd =>
    obtain⟨⟨c,g,aC,A5,aY⟩,A7⟩:=ak;have dt:∀ {y:Operand} {x:ag},x∈args→s.look y=some x→cR (s.free A ad) id w x (a.eval y):=fun{y x} ab ai=>Rel.QE (ad:=ad) (hp.ha x ab) (an.look ai)
    obtain⟨us,cL,fw⟩:∃us:List Value,ig (s.free A ad) id w args us∧(execOp a.eval o).run P w = .ok (.enter f us.toArray) w:=by
      rcases aY with ⟨bs,au,pT,EZ⟩|⟨cs,au,pT⟩
      · have jq:a.eval g = .func (.func f) bs.toArray #[]:=(an.look au).1
        refine⟨bs++c.args.toList.map a.eval,?_,?_⟩
        · refine⟨by have:=congrArg List.length pT;simpa using this.symm,fun i x v ab hv => ?_⟩
          have h1:(bs.map (fun b=>some (yU b))++c.args.toList.map s.look)[i]?=some (some x):=by rw[pT,dx,ab];rfl
          rcases h7 i bs.length with bb|iK
          · rw[fE (by simpa using bb),dx] at h1
            rw[fE bb] at hv;rw[hv] at h1;simp only[gU,iQ] at h1;subst h1;exact Uf (b5.1 EZ v (cP hv))
          · rw[gh (by simpa using iK),dx] at h1
            rw[gh iK,dx] at hv;simp only[jC] at h1;cases ai:c.args.toList[i-bs.length]? with
            | none=>rw[ai] at hv;cases hv
            | some y =>
              rw[ai] at h1 hv;simp only[gU,iQ] at h1 hv;subst hv;exact dt (cP ab) h1
        · have e:bs.toArray++c.args.map a.eval ++ #[]=(bs++c.args.toList.map a.eval).toArray:=by
            rw[Array.append_empty];apply Array.ext';simp
          simp only[execOp,aC,resolve,A5,Deferred.ofValue,jq];simp only[Sem.run_bind,Sem.run_pure,Result.andThen_ok,invoke];rw[e];exact x7 A7
      · obtain⟨vs,jq,cq⟩:=lV.Y4 (ad:=ad) (an.look au)
        refine⟨c.args.toList.map a.eval++vs,?_,?_⟩
        · refine⟨by have:=congrArg List.length pT;have h2:=cq.1;simp at this ⊢;omega,fun i x v ab hv => ?_⟩
          have h1:(c.args.toList.map s.look++cs.map (fun x=>some (.w (.one x))))[i]?=some (some x):=by rw[pT,dx,ab];rfl
          rcases h7 i c.args.toList.length with bb|iK
          · rw[fE (by simpa using bb),dx] at h1
            rw[fE (by simpa using bb),dx] at hv;cases ai:c.args.toList[i]? with
            | none=>rw[ai] at hv;cases hv
            | some y =>
              rw[ai] at h1 hv;simp only[gU,iQ] at h1 hv;subst hv;exact dt (cP ab) h1
          · rw[gh (by simpa using iK),dx] at h1
            rw[gh (by simpa using iK)] at hv;simp only[jC] at h1 hv;cases ai:cs[i-c.args.toList.length]? with
            | none=>rw[ai] at h1;cases h1
            | some y =>
              rw[ai] at h1;simp only[gU,iQ] at h1;subst h1;exact cq.2 _ y v ai hv
        · have e:(#[]:Array Value)++c.args.map a.eval++vs.toArray=(c.args.toList.map a.eval++vs).toArray:=by
            apply Array.ext';simp
          simp only[execOp,aC,resolve,A5,Deferred.ofValue,jq];simp only[Sem.run_bind,Sem.run_pure,Result.andThen_ok,invoke];rw[e];exact x7 A7
    unfold Oper.wp;rw[fw];refine(hp.call (s.free A ad) w _ cL).mono ?_;rintro e w' ⟨v,rfl,hv,aa⟩;refine⟨ad,(an.call aa).put hd (hv.map (fun b cO al=>⟨?_,rfl⟩) fun j af=>absurd af (hp.cn j))⟩;rcases cO with h|h
    · exact h
    · refine⟨an.up b (eL an.below.size h),fun k cs ae e => ?_⟩
      have:=an.lt ae;omega
end
def ali:ag := .cd []
def want(ops:Array Oper)(o:Oper)(s:aB):Option Bool :=
  match o.guard with
  | none=>some true
  | some (g,b) =>
    match (ops[g]?).bind (·.dst) with
    | some d=>match s.tmps d with
      | some (.w (.one (.c (.bool x))))=>some (some x==some b)
      | some (.cd _)=>some false
      | _=>none
    | none=>none
def nz(o:Oper):Nat :=
  match o.op with
  | .load .. => 1
  | .store .. => 2
  | _=>0
def wX(x y:Oper):Bool := !(nz x==2&&nz y != 0) && !(nz x != 0&&nz y==2)
def addrOf(o:Oper):Option Operand :=
  match o.op with
  | .load _ x=>some x
  | .store _ x _=>some x
  | _=>none
def Ai:ag→ag→Bool
  | .w (.one (.own k _)),.w (.one (.own j _)) => !Nat.beq k j
  | .w (.one (.own _ _)),.w (.one (.p _))=>true
  | .w (.one (.p _)),.w (.one (.own _ _))=>true
  | _,_=>false
theorem HN{k j o p:Nat}(h:Ai (.w (.one (.own k o))) (.w (.one (.own j p)))=true):k≠j:=fun e=>by
  subst e;simp[Ai,qm] at h
def zP(s:aB)(x y:Oper):Prop:=wX x y=true∨∃a b u v,addrOf x=some a∧addrOf y=some b∧s.look a=some u∧s.look b=some v∧Ai u v=true
section
variable{P:Program}{B:cT}{A:Nat→Prop}{s s1 s2 s':aB}{ad:Nat→Nat}{a:Act}{w:World}{o bz bF:Oper}{ops:Array Oper}
theorem Rx{x:Operand}{dst:Option Nat}{v:ag}(h:∀d,dst=some d→x ≠ .tmp d):(s.put dst v).look x=s.look x:=by
  cases dst with
  | none=>rfl
  | some d =>
    cases x with
    | tmp t=>simp only[aB.look,aB.put];exact bM _ _ (fun e=>h d rfl (by rw[e]))
    | _=>rfl
theorem afx{x:Operand}{k:Nat}{cs:List AC}:(s.en k cs).look x=s.look x:=by cases x <;> rfl
theorem xM.congr{look gS:Operand→Option ag}{av:ag}(h:xM P look o av)(e:∀x∈o.op.operands,gS x=look x):xM P gS o av :=
  ⟨h.aj4,fun x ab=>by rw[e x ab];exact h.ops x ab,fun U ad W env he=>h.run U ad W env fun x ab a aX=>he x ab a (by rw[e x ab];exact aX),fun j af=>by
    obtain⟨x,ab,a,aX,abL⟩:=h.own j af;exact⟨x,ab,a,by rw[e x ab];exact aX,abL⟩⟩
theorem xG.congr{look gS:Operand→Option ag}{av:ag}(h:xG P look o av)(e:∀x∈o.op.operands,gS x=look x):xG P gS o av :=
  ⟨fun x ab=>by rw[e x ab];exact h.ops x ab,h.gO,fun U ad W env he=>h.run U ad W env fun x ab a aX=>he x ab a (by rw[e x ab];exact aX)⟩
theorem vQ.congr{look gS:Operand→Option ag}{cs:List AC}(h:vQ P look o cs)(e:∀x∈o.op.operands,gS x=look x):vQ P gS o cs:=by
  cases h with
  | alloc ty i z cs aC hi aR ak h1=>exact .alloc ty i z cs aC hi aR ak h1
  | box ty x z aC ab=>exact .box ty x z aC (by rw[e x (by simp[aC,Op.operands])];exact ab)
theorem rE.congr{look gS:Operand→Option ag}{f:FuncId}{args:List ag}(h:rE P look o f args)(e:∀x∈o.op.operands,gS x=look x):rE P gS o f args:=by
  obtain⟨⟨c,g,aC,ak,aY⟩,he⟩:=h;have Ei:gS g=look g:=e g (by simp[aC,Op.operands,Call.operands,ak]);have jo:c.args.toList.map gS=c.args.toList.map look:=nE fun x ab=>e x (by simp[aC,Op.operands,Call.operands,ak];exact .inr (by simpa using ab));refine⟨⟨c,g,aC,ak,?_⟩,he⟩;rcases aY with ⟨bs,au,aX,aa⟩|⟨cs,au,aX⟩
  · exact .inl ⟨bs,by rw[Ei];exact au,by rw[jo];exact aX,aa⟩
  · exact .inr ⟨cs,by rw[Ei];exact au,by rw[jo];exact aX⟩
theorem aB.put_comm(s:aB){x y:Option Nat}(v u:ag)(h:∀d,x=some d→y≠some d):(s.put x v).put y u=(s.put y u).put x v:=by
  cases x with
  | none=>rfl
  | some d =>
    cases y with
    | none=>rfl
    | some e =>
      have cz:e≠d:=fun he=>h d rfl (by rw[he]);simp only[aB.put];rw[Vn _ _ _ cz]
theorem aB.y1(s:aB)(x:Option Nat)(v:ag)(k:Nat)(cs:List AC):(s.put x v).en k cs=(s.en k cs).put x v:=by cases x <;> rfl
theorem aB.aj6(s:aB){k j:Nat}(cs ds:List AC)(h:j≠k):(s.en k cs).en j ds=(s.en j ds).en k cs:=by
  simp only[aB.en];rw[Vn _ _ _ h]
structure cB where
  v:ag
  m:Option (Nat×List AC)
def cB.on(e:cB)(dst:Option Nat)(s:aB):aB :=
  match e.m with
  | some (k,cs)=>(s.en k cs).put dst e.v
  | none=>s.put dst e.v
inductive e7 (P:Program) (n:Nat) (look:Operand→Option ag) (mem:Nat→Option (List AC)) (o:Oper):Bool→cB→Prop
  | skip:e7 P n look mem o false ⟨.cd [],none⟩
  | quiet (av:ag) (aj:xM P look o av):e7 P n look mem o true ⟨av,none⟩
  | fresh (av:ag) (aj:xG P look o av):e7 P n look mem o true ⟨av,none⟩
  | load (ty:TypeId) (x:Operand) (k off:Nat) (cs:List AC) (av:bD) (aC:o.op = .load ty x) (ab:look x=some (.w (.one (.own k off)))) (hm:mem k=some cs) (hv:pick P ty cs off=some av):e7 P n look mem o true ⟨.w av,none⟩
  | store (ty:TypeId) (x y:Operand) (k off:Nat) (cs:List AC) (z:bD) (i:TypeInfo) (aC:o.op = .store ty x y) (ab:look x=some (.w (.one (.own k off)))) (ai:look y=some (.w z)) (hm:mem k=some cs) (hi:P.info? ty=some i) (hs:i.size=z.cells.length) (aa:off+z.cells.length≤cs.length):e7 P n look mem o true ⟨.cd [],some (k,eM cs off z.cells)⟩
  | new (cs:List AC) (d:Nat) (dM:o.dst=some d) (hm:mem d=none) (aA:vQ P look o cs):e7 P n look mem o true ⟨.w (.one (.own d 0)),some (d,cs)⟩
  | call (f:FuncId) (args:List ag) (r:ag) (ak:rE P look o f args) (hp:aO P f args r):e7 P n look mem o true ⟨r,none⟩
theorem e7.step{e:cB}(h:e7 P s.n s.look s.mem o true e)(hd:∀d,o.dst=some d→d<s.n):ms P s o (e.on o.dst s):=by
  cases h with
  | quiet av aj=>exact .quiet av aj hd
  | fresh av aj=>exact .fresh av aj hd
  | load ty x k off cs av aC ab hm hv=>exact .load ty x k off cs av aC ab hm hv hd
  | store ty x y k off cs z i aC ab ai hm hi hs aa =>
    have:=ms.store (P:=P) (s:=s) ty x y k off cs z i aC ab ai hm hi hs aa hd;rw[aB.y1] at this;exact this
  | new cs d dM hm aA =>
    have:=ms.new (P:=P) (s:=s) cs d dM hm aA (hd d dM);rw[←dM] at this;exact this
  | call f args r ak hp=>exact .call f args r ak hp hd
theorem cB.sr(e:cB)(dst:Option Nat)(s:aB):(e.on dst s).mem=match e.m with|some (k,cs)=>upd s.mem k cs|none=>s.mem:=by
  unfold cB.on
  split
  · rename_i h;rw[aB.yM];simp[aB.en]
  · rename_i h;rw[aB.yM]
theorem cB.sq(e:cB)(dst:Option Nat)(s:aB){x:Operand}(h:∀d,dst=some d→x ≠ .tmp d):(e.on dst s).look x=s.look x:=by
  unfold cB.on
  split
  · rw[Rx h,afx]
  · rw[Rx h]
theorem cB.vg(e:cB)(dst:Option Nat)(s:aB):(e.on dst s).n=s.n:=by
  unfold cB.on
  split
  · rw[aB.tJ];rfl
  · rw[aB.tJ]
theorem cB.Cb(e f:cB)(x y:Option Nat)(s:aB)(h:∀d,x=some d→y≠some d)(ae:∀k cs j ds,e.m=some (k,cs)→f.m=some (j,ds)→j≠k):f.on y (e.on x s)=e.on x (f.on y s):=by
  unfold cB.on;cases he:e.m with
  | none =>
    cases ay:f.m with
    | none=>simp only[he,ay];exact aB.put_comm s _ _ h
    | some q=>obtain⟨j,ds⟩:=q;simp only[he,ay];rw[aB.y1];exact aB.put_comm _ _ _ h
  | some p =>
    obtain⟨k,cs⟩:=p;cases ay:f.m with
    | none=>simp only[he,ay];rw[aB.y1];exact aB.put_comm _ _ _ h
    | some q =>
      obtain⟨j,ds⟩:=q;simp only[he,ay];rw[aB.y1,aB.y1,aB.aj6 s _ _ (ae k cs j ds he ay)];exact aB.put_comm _ _ _ h
theorem u7{x:Operand}{d:Nat}{y:Oper}(h:d∉y.looksAt ops)(ab:x∈y.op.operands):x ≠ .tmp d:=fun e=>h (by
  subst e;exact sw _ (List.mem_filterMap.2 ⟨.tmp d,by simpa using ab,rfl⟩))
theorem e7.swap{b c:Bool}{e f:cB}(ok:s.bN)(he:e7 P s.n s.look s.mem bz b e)(ay:e7 P (e.on bz.dst s).n (e.on bz.dst s).look (e.on bz.dst s).mem bF c f)(tm:bz.apart ops bF=true)(n4:zP s bz bF) :
    e7 P s.n s.look s.mem bF c f∧e7 P (f.on bF.dst s).n (f.on bF.dst s).look (f.on bF.dst s).mem bz b e∧f.on bF.dst (e.on bz.dst s)=e.on bz.dst (f.on bF.dst s):=by
  obtain⟨a1,a2,a3⟩:=Oper.apart_spec tm;have oc:∀x∈bF.op.operands,(e.on bz.dst s).look x=s.look x:=fun x ab=>cB.sq _ _ _ fun d hd=>u7 (a1 d hd) ab;have cF:=cB.sr e bz.dst s
 
  have wH:∀k cs,e.m=some (k,cs)→(∃aw,s.mem k=some aw)∨s.mem k=none:=fun k cs _=>by
    cases h:s.mem k with
    | none=>exact .inr rfl
    | some c=>exact .inl ⟨c,rfl⟩
  have SC:∀x k off,s.look x=some (.w (.one (.own k off)))→∃cs,s.mem k=some cs:=fun x k off ab=>by
    cases x with
    | tmp t=>exact ok.dk t _ k ab ⟨.own k off,by simp[bD.cells],rfl⟩
    | const v=>simp only[aB.look] at ab;split at ab <;> cases ab
    | global g=>cases ab
    | func g=>cases ab
 
  have RM:∀x k off,addrOf bF=some x→nz bF≠0→s.look x=some (.w (.one (.own k off)))→(e.on bz.dst s).mem k=s.mem k:=by
    intro x k off Ja JA ab;rw[cF];cases he with
    | skip=>rfl
    | quiet av aj=>rfl
    | fresh av aj=>rfl
    | load=>rfl
    | call=>rfl
    | store ty x' y' k' Sr cs z i aC ku ai hm hi hs aa =>
      rcases n4 with n4|⟨a,b,q,p,aX,cO,jo,nc,cz⟩
      · exfalso
        have:nz bz=2:=by simp[nz,aC]
        simp[wX,this,JA] at n4
      · simp only[addrOf,aC,iQ] at aX
        subst aX;rw[ku] at jo;cases jo;rw[Ja] at cO;cases cO;rw[ab] at nc;cases nc;show upd s.mem k' _ k=s.mem k;exact bM _ _ (Ne.symm (HN cz))
    | new cs d dM hm aA =>
      obtain⟨c,ak⟩:=SC x k off ab;show upd s.mem d cs k=s.mem k;exact bM _ _ (fun e=>by subst e;rw[hm] at ak;cases ak)
  have uV:e7 P s.n s.look s.mem bF c f:=by
    cases ay with
    | skip=>exact .skip
    | quiet av aj=>exact .quiet av (aj.congr fun x ab=>(oc x ab).symm)
    | fresh av aj=>exact .fresh av (aj.congr fun x ab=>(oc x ab).symm)
    | load ty x k off cs av aC ab hm hv =>
      have ku:s.look x=some (.w (.one (.own k off))):=by rw[←oc x (by simp[aC,Op.operands])];exact ab
      exact .load ty x k off cs av aC ku (by rw[←RM x k off (by simp[addrOf,aC]) (by simp[nz,aC]) ku];exact hm) hv
    | store ty x y k off cs z i aC ab ai hm hi hs aa =>
      have ku:s.look x=some (.w (.one (.own k off))):=by rw[←oc x (by simp[aC,Op.operands])];exact ab
      exact .store ty x y k off cs z i aC ku (by rw[←oc y (by simp[aC,Op.operands])];exact ai) (by rw[←RM x k off (by simp[addrOf,aC]) (by simp[nz,aC]) ku];exact hm) hi hs aa
    | new cs d dM hm aA =>
      refine .new cs d dM ?_ (aA.congr fun x ab=>(oc x ab).symm);rw[cF] at hm;cases n0:e.m with
      | none=>rw[n0] at hm;exact hm
      | some p =>
        obtain⟨k,c⟩:=p;rw[n0] at hm
        by_cases hU:d=k
        · subst hU
          change upd s.mem d c d=none at hm
          rw[bW] at hm;cases hm
        · change upd s.mem k c d=none at hm
          rwa [bM _ _ hU] at hm
    | call g args r ak hp=>exact .call g args r (ak.congr fun x ab=>(oc x ab).symm) hp
  have mh:∀x∈bz.op.operands,(f.on bF.dst s).look x=s.look x:=fun x ab=>cB.sq _ _ _ fun d hd=>u7 (a3 d hd) ab;have RH:=cB.sr f bF.dst s
  have r4:e7 P (f.on bF.dst s).n (f.on bF.dst s).look (f.on bF.dst s).mem bz b e:=by
    have RK:∀x k off,addrOf bz=some x→nz bz≠0→s.look x=some (.w (.one (.own k off)))→(f.on bF.dst s).mem k=s.mem k:=by
      intro x k off Ja JA ab;rw[RH];cases uV with
      | skip=>rfl
      | quiet av aj=>rfl
      | fresh av aj=>rfl
      | load=>rfl
      | call=>rfl
      | store ty x' y' k' Sr cs z i aC ku ai hm hi hs aa =>
        rcases n4 with n4|⟨a,b,q,p,aX,cO,jo,nc,cz⟩
        · exfalso
          have:nz bF=2:=by simp[nz,aC]
          simp[wX,this,JA] at n4
        · simp only[addrOf,aC,iQ] at cO
          subst cO;rw[ku] at nc;cases nc;rw[Ja] at aX;cases aX;rw[ab] at jo;cases jo;show upd s.mem k' _ k=s.mem k;exact bM _ _ (HN cz)
      | new cs d dM hm aA =>
        obtain⟨c,ak⟩:=SC x k off ab;show upd s.mem d cs k=s.mem k;exact bM _ _ (fun e=>by subst e;rw[hm] at ak;cases ak)
    cases he with
    | skip=>exact .skip
    | quiet av aj=>exact .quiet av (aj.congr fun x ab=>mh x ab)
    | fresh av aj=>exact .fresh av (aj.congr fun x ab=>mh x ab)
    | load ty x k off cs av aC ab hm hv=>exact .load ty x k off cs av aC (by rw[mh x (by simp[aC,Op.operands])];exact ab) (by rw[RK x k off (by simp[addrOf,aC]) (by simp[nz,aC]) ab];exact hm) hv
    | store ty x y k off cs z i aC ab ai hm hi hs aa=>exact .store ty x y k off cs z i aC (by rw[mh x (by simp[aC,Op.operands])];exact ab) (by rw[mh y (by simp[aC,Op.operands])];exact ai) (by rw[RK x k off (by simp[addrOf,aC]) (by simp[nz,aC]) ab];exact hm) hi hs aa
    | new cs d dM hm aA =>
      refine .new cs d dM ?_ (aA.congr fun x ab=>mh x ab);rw[RH];cases uV with
      | skip=>exact hm
      | quiet av aj=>exact hm
      | fresh av aj=>exact hm
      | load=>exact hm
      | call=>exact hm
      | store ty x' y' k' Sr aw z i aC ku ai eJ hi hs aa =>
        show upd s.mem k' _ d=none;rw[bM _ _ (fun e=>by subst e;rw[hm] at eJ;cases eJ)];exact hm
      | new aw d' acb eJ Bg =>
        show upd s.mem d' _ d=none;rw[bM _ _ (fun e=>a2 d dM (by rw[acb,e]))];exact hm
    | call g args r ak hp=>exact .call g args r (ak.congr fun x ab=>mh x ab) hp
  refine⟨uV,r4,cB.Cb e f bz.dst bF.dst s a2 ?_⟩;intro k cs j ds h1 h2 Z3;subst Z3;cases he with
  | skip=>cases h1
  | quiet=>cases h1
  | fresh=>cases h1
  | load=>cases h1
  | call=>cases h1
  | store ty x y k' off aw z i aC ab ai hm hi hs aa =>
    cases h1;cases uV with
    | skip=>cases h2
    | quiet=>cases h2
    | fresh=>cases h2
    | load=>cases h2
    | call=>cases h2
    | store ak9 de mr cl agC fV z2 i2 yu J9 =>
      cases h2;rcases n4 with n4|⟨a,b,q,p,aX,cO,jo,nc,cz⟩
      · simp[wX,nz,aC,yu] at n4
      · simp only[addrOf,aC,yu,iQ] at aX cO
        subst aX;subst cO;rw[ab] at jo;rw[J9] at nc;cases jo;cases nc;exact HN cz rfl
    | new fV d2 PH n3 JG=>cases h2;rw[n3] at hm;cases hm
  | new aw d dM hm aA =>
    cases h1;cases uV with
    | skip=>cases h2
    | quiet=>cases h2
    | fresh=>cases h2
    | load=>cases h2
    | call=>cases h2
    | store ak9 de mr cl agC fV z2 i2 yu J9 Ka n3=>cases h2;rw[n3] at hm;cases hm
    | new fV d2 PH n3 JG=>cases h2;exact a2 _ dM PH
end
section
variable{P:Program}{B:cT}{A:Nat→Prop}{s s1 s2 s':aB}{ad:Nat→Nat}{a:Act}{w:World}{o bz bF:Oper}{ops:Array Oper}{md:Region.Mode}
theorem look_ok{x:Operand}{av:ag}{j:Nat}(ok:s.bN)(ab:s.look x=some av)(af:av.owns j):∃cs,s.mem j=some cs:=by
  have none:∀v,¬(ag.w (.one (.c v))).owns j:=fun v ⟨y,ai,h⟩=>by simp[bD.cells] at ai;subst ai;cases h
  cases x with
  | tmp t=>exact ok.dk t av j ab af
  | const v =>
    simp only[aB.look] at ab
    split at ab
    · cases ab;exact absurd af (none _)
    · cases ab
  | global g=>cases ab;exact absurd af (none _)
  | func g=>cases ab;exact absurd af (none _)
theorem aB.bN.put{dst:Option Nat}{av:ag}(ok:s.bN)(h:∀j,av.owns j→∃cs,s.mem j=some cs):(s.put dst av).bN:=by
  cases dst with
  | none=>exact ok
  | some d =>
    refine⟨fun t bv j aD af => ?_,ok.c3⟩;simp only[aB.put] at aD ⊢
    by_cases e:t=d
    · subst e;rw[bW] at aD;cases aD;exact h j af
    · rw[bM _ _ e] at aD;exact ok.dk t bv j aD af
theorem aB.bN.en{k:Nat}{cs:List AC}(ok:s.bN)(h:∀x∈cs,∀j,x.owns j→∃aw,s.mem j=some aw):(s.en k cs).bN:=by
  have up:∀j,(∃c,s.mem j=some c)→∃c,(s.en k cs).mem j=some c:=fun j ⟨c,ak⟩=>by
    by_cases e:j=k
    · exact⟨cs,by rw[e];exact bW _ _ _⟩
    · exact⟨c,by simp only[aB.en];rw[bM _ _ e];exact ak⟩
  refine⟨fun t bv j aD af=>up j (ok.dk t bv j aD af),fun k' c x j ae ab af=>up j ?_⟩;simp only[aB.en] at ae
  by_cases e:k'=k
  · subst e;rw[bW] at ae;cases ae;exact h x ab j af
  · rw[bM _ _ e] at ae;exact ok.c3 k' c x j ae ab af
theorem aiz{ty:TypeId}{cs:List AC}{off:Nat}{av:bD}(h:pick P ty cs off=some av):∀x∈av.cells,x∈cs:=by
  unfold pick at h
  split at h
  · cases hi:P.info? ty with
    | none=>rw[hi] at h;cases h
    | some i =>
      rw[hi] at h;simp only[lN] at h
      split at h
      · cases h;exact fun x ab=>oi (oL ab)
      · cases h
  · cases hi:P.info? ty with
    | none=>rw[hi] at h;cases h
    | some i =>
      rw[hi] at h;simp only[lN] at h
      split at h
      · cases h;exact fun x ab=>oi (oL ab)
      · cases h
  · cases ab:cs[off]? with
    | none=>rw[ab] at h;cases h
    | some y=>rw[ab] at h;cases h;intro x ku;simp[bD.cells] at ku;subst ku;exact cP ab
  · cases h
theorem ms.ok(h:ms P s o s')(ok:s.bN):s'.bN:=by
  cases h with
  | quiet av aj hd =>
    refine ok.put fun j af => ?_;obtain⟨x,ab,b,aa,abQ⟩:=aj.own j af;exact look_ok ok aa abQ
  | fresh av aj hd=>exact ok.put fun j af=>absurd af (aj.gO j)
  | load ty x k off cs av aC ab hm hv hd =>
    refine ok.put fun j af => ?_;obtain⟨y,ai,nv⟩:=af;exact ok.c3 k cs y j hm (aiz hv y ai) nv
  | store ty x y k off cs z i aC ab ai hm hi hs aa hd =>
    rw[aB.y1];refine aB.bN.put (ok.en fun x ab j af => ?_) fun j af=>(by obtain⟨y,ai,_⟩:=af;cases ai);unfold eM at ab;simp only[j7] at ab;rcases ab with (h1|h1)|h1
    · exact ok.c3 k cs x j hm (oL h1) af
    · exact look_ok ok ai ⟨x,h1,af⟩
    · exact ok.c3 k cs x j hm (oi h1) af
  | new cs d dM hm aA hd =>
    refine aB.bN.put (ok.en fun x ab j af => ?_) fun j af => ?_
    · cases aA with
      | alloc ty i z cs aC hi aR ak h1=>subst ak;obtain⟨v,_,rfl⟩:=fO.1 ab;cases af
      | box ty y z aC ai=>exact look_ok ok ai ⟨x,ab,af⟩
    · obtain⟨y,ai,nv⟩:=af
      simp[bD.cells] at ai;subst ai;cases nv;exact⟨cs,bW _ _ _⟩
  | call f args r ak hp hd=>exact ok.put fun j af=>absurd af (hp.cn j)
def sY(P:Program)(ops:Array Oper)(o:Oper)(K:aB→Prop)(s:aB):Prop :=
  ∃b,want ops o s=some b∧∃e,e7 P s.n s.look s.mem o b e∧(∀d,o.dst=some d→d<s.n)∧K (e.on o.dst s)
def vT(P:Program)(md:Region.Mode)(ops:Array Oper)(K:aB→Prop):Nat→Array Bool→aB→Prop
  | 0,listed,s=>Region.ready md ops listed=[]∧K s
  | fW+1,listed,s=>(Region.ready md ops listed=[]→K s) ∧
    ∀i∈Region.ready md ops listed,∀o,ops[i]?=some o→sY P ops o (vT P md ops K fW (listed.setIfInBounds i true)) s
theorem Mi{b:Bool}(h:want ops o s=some b)(an:Rel B A s ad a w):Region.wanted o (yielded ops a.tmps)=b:=by
  unfold want at h;unfold Region.wanted
  split at h
  · rename_i au;rw[au];cases h;rfl
  · rename_i g cE au
    rw[au]
    split at h
    · rename_i d hd
      split at h
      · rename_i x ab
        cases h;obtain⟨v,h1,h2⟩:=an.dk d _ ab;obtain⟨rfl,_⟩:=h2;simp[yielded,hd,h1]
      · rename_i xs ab
        cases h;obtain⟨v,h1,h2⟩:=an.dk d _ ab;obtain⟨vs,rfl,_⟩:=h2;simp[yielded,hd,h1]
      · cases h
    · cases h
theorem Aw{b:Bool}{e:cB}(ok:s.bN)(he:e7 P s.n s.look s.mem o b e)(hd:∀d,o.dst=some d→d<s.n):(e.on o.dst s).bN:=by
  cases b with
  | true=>exact(he.step hd).ok ok
  | false=>cases he;exact ok.put fun j af=>(by obtain⟨y,ai,_⟩:=af;cases ai)
theorem Dy{ro:Option Nat}{K:aB→Prop}{K':Act→World→Prop}{Q:Exit→Act→World→Prop}{i:Nat}(hi:ops[i]?=some o)(ok:s.bN)(an:Rel B A s ad a w)(h:sY P ops o K s)
    (e9:∀s' aT a' w',s'.bN→Rel B A s' aT a' w'→K s'→K' a' w'):wpOpIn (lY ro) 0 P ops Q i K' a w:=by
  obtain⟨b,hw,e,he,hd,ae⟩:=h;have nu:=Mi hw an;unfold wpOpIn;simp only[hi];cases b with
  | true =>
    rw[nu];simp only[if_true];have bU:=(he.step hd).ok ok;exact Oper.VO (Oper.wp_mono (fun a' w' ⟨aT,ao⟩=>e9 _ aT a' w' bU ao ae) (ms.sound (he.step hd) an ok)) ((he.step hd).R8 an)
  | false =>
    rw[nu];simp only[Bool.false_eq_true,if_false];cases he;exact⟨fun _ _=>trivial,e9 _ ad _ _ (ok.put fun j af=>(by obtain⟨y,ai,_⟩:=af;cases ai)) (an.put hd (cR.undef _)) ae⟩
theorem HA{ro:Option Nat}{K:aB→Prop}{Q:Exit→Act→World→Prop}(ni:∀s' aT a' w',s'.bN→Rel B A s' aT a' w'→K s'→Q .normal a' w'):∀(fW:Nat) (listed:Array Bool) (s:aB) (ad:Nat→Nat) (a:Act) (w:World),s.bN→Rel B A s ad a w →
    vT P md ops K fW listed s→wpAnyIn (lY ro) 0 P md ops Q fW listed a w
  | 0,_,_,_,_,_,ok,an,h=>⟨h.1,ni _ _ _ _ ok an h.2⟩
  | fW+1,listed,s,ad,a,w,ok,an,h=>⟨fun aF=>ni _ _ _ _ ok an (h.1 aF),fun i hi=>by
      obtain⟨aF,o,aC,_⟩:=mem_ready.1 hi;exact Dy aC ok an (h.2 i hi o aC) fun s' aT a' w' bU bu ae=>HA ni fW _ s' aT a' w' bU bu ae⟩
theorem zt{b:Option Bool}{e:cB}{dst:Option Nat}(al:∀d,dst=some d→d∉o.looksAt ops):want ops o (e.on dst s)=want ops o s:=by
  have aD:∀d,(∀d',dst=some d'→d≠d')→(e.on dst s).tmps d=s.tmps d:=fun d h=>by
    have:=cB.sq e dst s (x := .tmp d) (fun d' tn e'=>h d' tn (by cases e';rfl));exact this
  unfold want;cases au:o.guard with
  | none=>rfl
  | some p =>
    obtain⟨g,cE⟩:=p;simp only;cases hd:(ops[g]?).bind (·.dst) with
    | none=>rfl
    | some d =>
      simp only
      rw[aD d (fun d' tn e'=>al d' tn (by
        subst e';unfold Oper.looksAt;rw[au];exact xd _ (by simp[hd])))]
theorem Xt{b:Bool}{e:cB}{K:aB→Prop}(ok:s.bN)(hw:want ops bz s=some b)(he:e7 P s.n s.look s.mem bz b e)(uU:∀d,bz.dst=some d→d<s.n)(tm:bz.apart ops bF=true)(n4:zP s bz bF)(h:sY P ops bF K (e.on bz.dst s)) :
    sY P ops bF (fun t=>(want ops bz t=some b∧e7 P t.n t.look t.mem bz b e∧(∀d,bz.dst=some d→d<t.n)∧t.bN)∧K (e.on bz.dst t)) s:=by
  obtain⟨a1,a2,a3⟩:=Oper.apart_spec tm;obtain⟨c,tA,f,ay,r3,ae⟩:=h;obtain⟨h1,h2,ar⟩:=e7.swap ok he ay tm n4;rw[zt (b:=none) a1] at tA;have wB:∀d,bF.dst=some d→d<s.n:=fun d hd=>by have:=r3 d hd;rwa [cB.vg] at this
  refine⟨c,tA,f,h1,wB,⟨?_,h2,fun d hd=>by rw[cB.vg];exact uU d hd,Aw ok h1 wB⟩,by rw[←ar];exact ae⟩;rw[zt (b:=none) a3];exact hw
theorem M1{K K':aB→Prop}(h:∀s,K s→K' s)(aY:sY P ops o K s):sY P ops o K' s :=
  let ⟨b,h1,e,h2,ar,aK⟩:=aY
  ⟨b,h1,e,h2,ar,h _ aK⟩
def qG(ops:Array Oper)(listed:Array Bool)(x y:Oper)(s:aB):Prop :=
  wX x y=true∨∃t u o p,addrOf x=some (.tmp t)∧addrOf y=some (.tmp u)∧s.tmps t=some o∧s.tmps u=some p∧Ai o p=true ∧
    ∀i bz,ops[i]?=some bz→listed.getD i true=false→bz.dst≠some t∧bz.dst≠some u
theorem qG.sep{listed:Array Bool}(h:qG ops listed bz bF s):zP s bz bF:=by
  rcases h with h|⟨t,u,o,p,h1,h2,ar,aK,bX,_⟩
  · exact .inl h
  · exact .inr ⟨_,_,o,p,h1,h2,ar,aK,bX⟩
theorem cB.yW{e:cB}{dst:Option Nat}{t:Nat}(h:dst≠some t):(e.on dst s).tmps t=s.tmps t:=by
  have:=cB.sq e dst s (x := .tmp t) (fun d hd e'=>by cases e';exact h hd);exact this
theorem qG.on{listed:Array Bool}{f:cB}{o:Oper}{i:Nat}(h:qG ops listed bz bF s)(aC:ops[i]?=some o)(h0:listed.getD i true=false):qG ops (listed.setIfInBounds i true) bz bF (f.on o.dst s):=by
  rcases h with h|⟨t,u,q,p,h1,h2,ar,aK,bX,fh⟩
  · exact .inl h
  · obtain⟨fC,gy⟩:=fh i o aC h0
    refine .inr ⟨t,u,q,p,h1,h2,by rw[cB.yW fC];exact ar,by rw[cB.yW gy];exact aK,bX,fun fc fM hY u5=>fh fc fM hY ?_⟩
    by_cases e:i=fc
    · subst e;exact h0
    · rwa [getD_set_ne true e] at u5
theorem Xu{b:Bool}{e:cB}{K:aB→Prop}(ok:s.bN)(hw:want ops bz s=some b)(he:e7 P s.n s.look s.mem bz b e)(uU:∀d,bz.dst=some d→d<s.n)(tm:bz.apart ops bF=true)(n4:zP s bz bF)(h:sY P ops bF K (e.on bz.dst s)) :
    sY P ops bF (fun t=>(∃f:cB,t=f.on bF.dst s)∧(want ops bz t=some b∧e7 P t.n t.look t.mem bz b e∧(∀d,bz.dst=some d→d<t.n)∧t.bN)∧K (e.on bz.dst t)) s:=by
  obtain⟨c,h1,f,h2,ar,aK⟩:=Xt ok hw he uU tm n4 h;exact⟨c,h1,f,h2,ar,⟨f,rfl⟩,aK⟩
def waits(md:Region.Mode)(ops:Array Oper):Nat→Nat→Nat→Bool
  | 0,_,_=>false
  | f+1,j,i=>match ops[j]? with
    | some o=>o.after.any fun e=>Region.binds md e&&(e.on==i||waits md ops f e.on i)
    | none=>false
def Down(md:Region.Mode)(ops:Array Oper)(listed:Array Bool):Prop:=∀k o,listed.getD k false=true→ops[k]?=some o→∀e∈o.after,Region.binds md e=true→listed.getD e.on false=true
theorem zr{listed:Array Bool}(hd:Down md ops listed):∀(f j i:Nat) (o:Oper),ops[j]?=some o→(∀e∈o.after,Region.binds md e=true→listed.getD e.on false=true)→waits md ops f j i=true→listed.getD i false=true
  | 0,_,_,_,_,_,h=>by cases h
  | f+1,j,i,o,aC,dH,h=>by
    simp only[waits,aC] at h;obtain⟨e,he,aa⟩:=Array.any_eq_true'.1 h;simp only[eb,pk,beq_iff_eq] at aa;obtain⟨h1,h2⟩:=aa;have al:=dH e he h1;rcases h2 with h2|h2
    · rw[←h2];exact al
    · cases hY:ops[e.on]? with
      | none=>cases f <;> simp[waits,hY] at h2
      | some fM=>exact zr hd f e.on i fM hY (fun e' r4 cO=>hd e.on fM al hY e' r4 cO) h2
theorem Down.set{listed:Array Bool}(hd:Down md ops listed){j:Nat}(af:j∈Region.ready md ops listed):Down md ops (listed.setIfInBounds j true):=by
  intro k o ae aC e he aa;obtain⟨_,bF,ja,dH⟩:=mem_ready.1 af
  by_cases e':j=k
  · subst e'
    rw[ja] at aC;cases aC;exact getD_set_true (dH e he aa)
  · refine getD_set_true (hd k o ?_ aC e he aa)
    have:(listed.setIfInBounds j true).getD k false=listed.getD k false:=by simp[Cm e']
    rwa [this] at ae
theorem Xs{K:aB→Prop}{i:Nat}{b:Bool}{e:cB}(hi:ops[i]?=some bz):∀(fW:Nat) (listed:Array Bool) (s:aB),
      (∀j bF,ops[j]?=some bF→j≠i→listed.getD j true=false→(∀e∈bF.after,Region.binds md e=true→e.on≠i)→waits md ops 4 j i=false→bz.apart ops bF=true∧qG ops listed bz bF s) →
      Down md ops listed→i∈Region.ready md ops listed→s.bN→want ops bz s=some b→e7 P s.n s.look s.mem bz b e→(∀d,bz.dst=some d→d<s.n) →
      vT P md ops K fW (listed.setIfInBounds i true) (e.on bz.dst s)→vT P md ops K (fW+1) listed s:=by
  intro fW
  induction fW with
  | zero =>
    intro listed s _ ep ao ok hw he hd H;refine⟨fun h=>(by rw[h] at ao;cases ao),fun j af bF ja => ?_⟩
    by_cases gP:j=i
    · subst gP;rw[hi] at ja;cases ja;exact⟨b,hw,e,he,hd,H⟩
    · have:=ready_mono af gP
      rw[H.1] at this;cases this
  | succ fW ck =>
    intro listed s hW ep ao ok hw he hd H;refine⟨fun h=>(by rw[h] at ao;cases ao),fun j af bF ja => ?_⟩
    by_cases gP:j=i
    · subst gP;rw[hi] at ja;cases ja;exact⟨b,hw,e,he,hd,H⟩
    · have h1:=H.2 j (ready_mono af gP) bF ja
      obtain⟨wG,agD,Bl,dH⟩:=mem_ready.1 af;rw[ja] at Bl;cases Bl
      have ts:∀e∈bF.after,Region.binds md e=true→e.on≠i:=fun e he aa gn=>by
        have h1:=dH e he aa;have aF:=(mem_ready.1 ao).1;rw[gn] at h1;rcases h7 i listed.size with aJ|aJ
        · simp[aJ] at aF h1;rw[aF] at h1;cases h1
        · simp[y3 aJ] at h1
      have mc:waits md ops 4 j i=false:=by
        cases tA:waits md ops 4 j i with
        | false=>rfl
        | true =>
          have h1:=zr ep 4 j i bF ja dH tA;have aF:=(mem_ready.1 ao).1;rcases h7 i listed.size with aJ|aJ
          · simp[aJ] at aF h1;rw[aF] at h1;cases h1
          · simp[y3 aJ] at h1
      obtain⟨g1,g2⟩:=hW j bF ja gP wG ts mc;have h2:=Xu ok hw he hd g1 g2.sep h1;refine M1 (fun t ar => ?_) h2;obtain⟨⟨f,rfl⟩,ar⟩:=ar
      have Jo:∀k ok,ops[k]?=some ok→k≠i→(listed.setIfInBounds j true).getD k true=false →
          (∀e∈ok.after,Region.binds md e=true→e.on≠i)→waits md ops 4 k i=false→bz.apart ops ok=true∧qG ops (listed.setIfInBounds j true) bz ok (f.on bF.dst s):=fun k ok ae lJ h0 ll J8=>by
        have u5:listed.getD k true=false:=by
          by_cases kp:j=k
          · subst kp;exact wG
          · rwa [getD_set_ne true kp] at h0
        obtain⟨q1,q2⟩:=hW k ok ae lJ u5 ll J8;exact⟨q1,q2.on ja wG⟩
      refine ck (listed.setIfInBounds j true) _ Jo (ep.set af) (ready_mono ao (Ne.symm gP)) ar.1.2.2.2 ar.1.1 ar.1.2.1 ar.1.2.2.1 ?_;rw[Array.setIfInBounds_comm _ _ gP];exact ar.2
def bk(P:Program)(ops:Array Oper)(K:aB→Prop):List Oper→aB→Prop
  | [],s=>K s
  | o::rest,s=>sY P ops o (bk P ops K rest) s
def K9(x y:Oper):Option (Nat×Nat) :=
  match addrOf x,addrOf y with
  | some (.tmp t),some (.tmp u)=>some (t,u)
  | _,_=>none
def qd(ops:Array Oper)(listed:Array Bool)(t:Nat):Bool:=(List.range ops.size).all fun j=>listed.getD j true||match ops[j]? with
  | some o=>o.dst != some t
  | none=>true
def nH(s:aB)(p:Nat×Nat):Bool :=
  match s.tmps p.1,s.tmps p.2 with
  | some x,some y=>Ai x y
  | _,_=>false
def FK(md:Region.Mode)(ops:Array Oper)(prs:List (Nat×Nat))(listed:Array Bool)(i:Nat):Bool :=
  match ops[i]? with
  | none=>false
  | some bz=>(List.range ops.size).all fun j=>j==i||listed.getD j true||match ops[j]? with
      | some bF=>wX bz bF||waits md ops 4 j i||match K9 bz bF with
        | some (t,u)=>prs.contains (t,u)&&qd ops listed t&&qd ops listed u
        | none=>false
      | none=>true
theorem FV{listed:Array Bool}{t:Nat}(h:qd ops listed t=true)(j:Nat)(o:Oper)(aC:ops[j]?=some o)(h0:listed.getD j true=false):o.dst≠some t:=by
  unfold qd at h;simp only[b5,nF] at h;have:=h j (iA.1 aC).1;simp only[aC,h0,Bool.false_or,bne_iff_ne,ne_eq] at this;exact this
theorem RI{i:Nat}{prs:List (Nat×Nat)}{listed:Array Bool}(hi:ops[i]?=some bz)(h:FK md ops prs listed i=true)(hs:∀p∈prs,qd ops listed p.1=true→qd ops listed p.2=true→nH s p=true)(j:Nat)(bF:Oper)
    (af:ops[j]?=some bF) (cz:j≠i) (h0:listed.getD j true=false) (ll:waits md ops 4 j i=false):qG ops listed bz bF s:=by
  simp only[FK,hi,b5,nF] at h;have h1:=h j (iA.1 af).1;simp only[af,pk,beq_iff_eq,cz,false_or,h0,Bool.false_eq_true] at h1;rcases h1 with (h1|h1)|h1
  · exact .inl h1
  · rw[ll] at h1;cases h1
  · split at h1
    · rename_i t u hp
      simp only[eb] at h1;obtain⟨⟨c1,c2⟩,iX⟩:=h1;have nt:=hs (t,u) (by simpa using c1) c2 iX;unfold K9 at hp
      split at hp
      · rename_i lS ru aI aN
        cases hp;unfold nH at nt
        split at nt
        · rename_i o fD q1 q2
          exact .inr ⟨t,u,o,fD,aI,aN,q1,q2,nt,fun fc fM hY u5=>⟨FV c2 fc fM hY u5,FV iX fc fM hY u5⟩⟩
        · cases nt
      · cases hp
    · cases h1
def wV(md:Region.Mode)(ops:Array Oper)(prs:List (Nat×Nat)):List Nat→Array Bool→Bool
  | [],listed=>(Region.ready md ops listed).isEmpty
  | k::ord,listed=>(Region.ready md ops listed).contains k&&Region.free md ops listed k&&FK md ops prs listed k&&wV md ops prs ord (listed.setIfInBounds k true)
def getAll(l:List Oper):List Nat→Option (List Oper)
  | []=>some []
  | i::ord=>match l[i]?,getAll l ord with
    | some o,some r=>some (o::r)
    | _,_=>none
theorem Ez{l:List Oper}:∀(ord:List Nat) (r:List Oper),getAll l ord=some r→r.length=ord.length∧∀(j:Nat),r[j]?=(ord[j]?).bind (l[·]?)
  | [],r,h=>by cases h;exact⟨rfl,fun j=>by simp⟩
  | i::ord,r,h=>by
    simp only[getAll] at h
    split at h
    · rename_i o bd aC ao
      cases h;obtain⟨h1,h2⟩:=Ez ord bd ao;refine⟨by simp[h1],fun j => ?_⟩;cases j with
      | zero=>simp[aC]
      | succ j=>simpa using h2 j
    · cases h
theorem MZ{K:aB→Prop}:∀(l:List Oper) (s:aB),bk P ops K l s→∃s',K s'∧∀t,(∀o∈l,o.dst≠some t)→s'.tmps t=s.tmps t
  | [],s,h=>⟨s,h,fun _ _=>rfl⟩
  | o::l,s,⟨b,hw,e,he,hd,e9⟩=>by
    obtain⟨s',h1,h2⟩:=MZ l _ e9;exact⟨s',h1,fun t aD=>(h2 t fun fM hY=>aD fM (by simp[hY])).trans (cB.yW (aD o (by simp)))⟩
theorem Dw{K:aB→Prop}{prs:List (Nat×Nat)}:∀(ord:List Nat) (l:List Oper) (listed:Array Bool) (s:aB),l.length=ord.length→(∀(j:Nat),l[j]?=(ord[j]?).bind (ops[·]?))→(∀k∈ord,listed.getD k true=false)→(∀k,k<ops.size→listed.getD k true=false→k∈ord)→ord.Nodup→Down md ops listed→s.bN →
    wV md ops prs ord listed=true→bk P ops (fun s=>prs.all (nH s)=true∧K s) l s→vT P md ops K l.length listed s
  | [],[],_,_,_,_,_,_,_,_,_,cX,h=>⟨by simpa [wV] using cX,h.2⟩
  | [],_::_,_,_,hlen,_,_,_,_,_,_,_,_=>by cases hlen
  | _::_,[],_,_,hlen,_,_,_,_,_,_,_,_=>by cases hlen
  | k::ord,o::l,listed,s,hlen,al,h0,Jm,hX,ep,ok,cX,h=>by
    have aF:ops[k]?=some o:=by simpa using (al 0).symm
    have pa:=MZ _ _ h;simp only[wV,eb] at cX;obtain⟨⟨⟨ao,ay⟩,hm⟩,IY⟩:=cX;obtain⟨b,hw,e,he,hd,e9⟩:=h
    have hs:∀p∈prs,qd ops listed p.1=true→qd ops listed p.2=true→nH s p=true:=fun p hp fC gy=>by
      obtain⟨s',⟨h1,_⟩,h2⟩:=pa
      have gH:∀t,qd ops listed t=true→∀fM∈o::l,fM.dst≠some t:=fun t aD fM hY=>by
        obtain⟨j,af⟩:=kx hY;rw[al j] at af;cases aj:(k::ord)[j]? with
        | none=>rw[aj] at af;cases af
        | some q=>rw[aj] at af;exact FV aD q fM af (h0 _ (cP aj))
      have:=b5.1 h1 p hp;unfold nH at this ⊢;rw[h2 p.1 (gH _ fC),h2 p.2 (gH _ gy)] at this;exact this
    rw[List.nodup_cons] at hX;have cz:∀q∈ord,k≠q:=fun q aj e=>hX.1 (by rw[e];exact aj);refine Xs aF l.length listed s (fun j bF h1 h2 ar aK bX=>⟨Region.free_spec aF ay j bF h1 h2 ar aK,RI aF hm hs j bF h1 h2 ar bX⟩) ep (by simpa using ao) ok hw he hd ?_;refine Dw ord l _ _ (by simpa using hlen) (fun j=>by simpa using al (j+1)) (fun q aj=>by rw[getD_set_ne true (cz q aj)];exact h0 q (by simp[aj])) (fun q aj wJ => ?_) hX.2 (ep.set (by simpa using ao)) (Aw ok he hd) IY e9
    by_cases e':k=q
    · subst e'
      have:k<listed.size:=by
        have:=h0 k (by simp);rcases h7 k listed.size with aJ|aJ
        · exact aJ
        · simp[y3 aJ] at this
      simp[this] at wJ
    · rw[getD_set_ne true e'] at wJ
      rcases fe.1 (Jm q aj wJ) with aJ|aJ
      · exact absurd aJ.symm e'
      · exact aJ
def w4(ops:Array Oper)(ord:List Nat):List (Nat×Nat) :=
  match ord with
  | []=>[]
  | i::rest=>(match ops[i]? with
    | some bz=>bif nz bz != 0 then rest.filterMap fun j=>match ops[j]? with
        | some bF=>bif wX bz bF||waits .any ops 4 j i then none else K9 bz bF
        | none=>none
      else []
    | none=>[])++w4 ops rest
def early(o:Oper):Bool:=(match o.op with | .alloc _=>true|_=>false)&&o.after.isEmpty&&o.guard.isNone
def mj(l:List Oper):List Nat:=((List.range l.length).filter fun i=>match l[i]? with|some o=>early o|none=>false)++(List.range l.length).filter fun i=>match l[i]? with|some o => !early o|none=>false
def ft(P:Program)(c:Code)(Q:Exit→aB→Prop)(s:aB):Prop :=
  s.bN→∀B A ad a w,Rel B A s ad a w→k1 P c (fun e a' w'=>∃s' aT,s'.bN∧Rel B A s' aT a' w'∧Q e s') a w
def yO:List Nat→Bool
  | []=>true
  | x::xs => !xs.contains x&&yO xs
theorem FQ:∀(l:List Nat),yO l=true→l.Nodup
  | [],_=>List.nodup_nil
  | x::xs,h=>by
    simp only[yO,eb,tQ,List.contains_eq_mem,ky] at h;exact List.nodup_cons.2 ⟨h.1,FQ xs h.2⟩
def Oj(l:List Oper):Bool:=Nat.beq (mj l).length l.length&&yO (mj l)&&(List.range l.length).all (fun i=>(mj l).contains i)&&(mj l).all (fun i=>Nat.blt i l.length)&&wV .any l.toArray (w4 l.toArray (mj l)) (mj l) (Array.replicate l.length false)
theorem NB{id:Nat}{l hg:List Oper}{Q:Exit→aB→Prop}(hm:P.follows .mixedOrders=true)(cX:Oj l=true)(al:getAll l (mj l)=some hg)
    (h:bk P l.toArray (fun s=>(w4 l.toArray (mj l)).all (nH s)=true∧Q .normal s) hg s):ft P (.region id l.toArray true) Q s:=by
  intro ok B A ad a w an;refine VD hm fun ro => ?_;unfold Oj at cX;simp only[eb,b5,nF,List.contains_eq_mem,cS] at cX;obtain⟨⟨⟨⟨iI,b1⟩,b2⟩,dF⟩,dc⟩:=cX;obtain⟨g1,g2⟩:=Ez _ _ al;have hd:Rel B A s ad a {w with drawn:=w.drawn+1}:=an.call ((Below.refl _ w).drew);refine HA (K:=Q .normal) (fun s' aT a' w' bU bu ae=>⟨s',aT,bU,bu,ae⟩) _ _ s ad a _ ok hd ?_;have nd:=FQ _ b1;have hlen:(mj l).length=l.length:=gd iI;have:=Dw (md := .any) (ops:=l.toArray) (mj l) hg (Array.replicate l.length false) s g1 (by simpa using g2) (fun q aj=>by have:=dF q aj;simp[lr] at this;simp[this]) (fun q aj _=>b2 q (by simpa using aj)) nd (fun k o ae=>by exfalso;rcases h7 k l.length with q|q <;> simp[Array.getElem?_replicate,q] at ae) ok dc h;rw[g1,hlen] at this;simpa using this
theorem M0{ro:Option Nat}{K:aB→Prop}{Q:Exit→Act→World→Prop}(ni:∀s' aT a' w',s'.bN→Rel B A s' aT a' w'→K s'→Q .normal a' w'):∀(l:List Oper) (k:Nat) (s:aB) (ad:Nat→Nat) (a:Act) (w:World),(∀(j:Nat),l[j]?=ops[k+j]?)→s.bN→Rel B A s ad a w →
    bk P ops K l s→wpOpsIn (lY ro) 0 P ops Q ((List.range l.length).map (k + ·)) a w
  | [],_,_,_,_,_,_,ok,an,h=>ni _ _ _ _ ok an h
  | o::l,k,s,ad,a,w,al,ok,an,h=>by
    have aF:ops[k]?=some o:=by simpa using (al 0).symm
    have e:(List.range (o::l).length).map (k + ·)=k::(List.range l.length).map (k+1 + ·):=by
      rw[hJ,List.range_succ_eq_map,hK,List.map_map];congr 1;apply nE;intro j _;simp[oj,ol 1 j]
    rw[e,wpOpsIn_cons];refine Dy aF ok an h fun s' aT a' w' bU bu ae=>M0 ni l (k+1) s' aT a' w' (fun j=>by have:=al (j+1);simpa [oj,ol 1 j] using this) bU bu ae
theorem HQ{id:Nat}{l:List Oper}{Q:Exit→aB→Prop}(h:bk P l.toArray (Q .normal) l s):ft P (.region id l.toArray false) Q s:=by
  intro ok B A ad a w an;refine VC fun ro => ?_;have:=M0 (ro:=ro) (ops:=l.toArray) (K:=Q .normal) (Q:=fun e a' w'=>∃s' aT,s'.bN∧Rel B A s' aT a' w'∧Q e s') (fun s' aT a' w' bU bu ae=>⟨s',aT,bU,bu,ae⟩) l 0 s ad a w (by simp) ok an h;simpa using this
end
section
variable{P:Program}{B:cT}{A:Nat→Prop}{s s1 s2 s':aB}{ad:Nat→Nat}{a:Act}{w:World}{Q:Exit→aB→Prop}{x y:Code}
def s0(next:aB→Prop)(Q:Exit→aB→Prop):Exit→aB→Prop
  | .normal,s=>next s
  | e,s=>Q e s
theorem NC(h:ft P x (s0 (fun s'=>ft P y Q s') Q) s):ft P (.seq x y) Q s:=by
  intro ok B A ad a w an;refine VF (rA (h ok B A ad a w an) ?_);rintro e a' w' ⟨s',aT,bU,bu,aj⟩;cases e <;> first|exact aj bU B A aT a' w' bu|exact⟨s',aT,bU,bu,aj⟩
theorem HS(h:Q .normal s):ft P .skip Q s:=fun ok B A ad a w an=>VG ⟨s,ad,ok,an,h⟩
theorem Nz{id:Nat}(h:Q (.exit id) s):ft P (.exit id) Q s:=fun ok B A ad a w an=>VA ⟨s,ad,ok,an,h⟩
theorem HR(h:Q .ret s):ft P .ret Q s:=fun ok B A ad a w an=>VE ⟨s,ad,ok,an,h⟩
theorem Nu{c:Operand}{t:Bool}(ak:s.look c=some (.w (.one (.c (.bool t)))))(h1:t=true→ft P x Q s)(aF:t=false→ft P y Q s):ft P (.cond c x y) Q s:=by
  intro ok B A ad a w an;have hv:a.eval c = .bool t:=(an.look ak).1;refine Vz hv ?_;cases t with
  | true=>exact h1 rfl ok B A ad a w an
  | false=>exact aF rfl ok B A ad a w an
theorem Ny{c:Operand}(ak:s.look c=some (.w (.one (.c (.bool true)))))(h1:ft P x Q s):ft P (.cond c x y) Q s:=Nu ak (fun _=>h1) (fun e=>by cases e)
theorem Nx{c:Operand}(ak:s.look c=some (.w (.one (.c (.bool false)))))(aF:ft P y Q s):ft P (.cond c x y) Q s:=Nu ak (fun e=>by cases e) (fun _=>aF)
def xU(id:Nat)(Q:Exit→aB→Prop):Exit→aB→Prop
  | .exit iw,s=>bif Nat.beq iw id then Q .normal s else Q (.exit iw) s
  | e,s=>Q e s
theorem YH{id:Nat}(h:ft P x (xU id Q) s):ft P (.block id x) Q s:=by
  intro ok B A ad a w an;refine Vy (rA (h ok B A ad a w an) ?_);rintro e a' w' ⟨s',aT,bU,bu,aj⟩;cases e with
  | exit iw =>
    simp only[Exit.inBlock];simp only[xU] at aj;cases aa:Nat.beq iw id with
    | true=>rw[aa] at aj;rw[if_pos (gd aa)];exact⟨s',aT,bU,bu,aj⟩
    | false =>
      rw[aa] at aj;have:iw≠id:=fun e=>by subst e;rw[qm] at aa;cases aa
      rw[if_neg this];exact⟨s',aT,bU,bu,aj⟩
  | _=>exact⟨s',aT,bU,bu,aj⟩
structure aB.aV (s s':aB):Prop where
  n:s'.n=s.n
  dk:∀t av,s'.tmps t=some av→s.tmps t=some av
  c3:∀k cs,s'.mem k=some cs→s.mem k=some cs
theorem Rel.le(h:Rel B A s ad a w)(l:s.aV s'):Rel B A s' ad a w:=by
  have ay:∀b,s.free A ad b→b<w.heap.size→s'.free A ad b∧w.heap[b]?=w.heap[b]?:=fun b aa _=>⟨⟨aa.1,fun k cs ae=>aa.2 k cs (l.c3 k cs ae)⟩,rfl⟩;refine⟨h.kv,by rw[l.n];exact h.size,fun t av aD => ?_,fun k cs ae => ?_,fun k k' c c' ae eB e=>h.inj k k' c c' (l.c3 _ _ ae) (l.c3 _ _ eB) e,h.below,h.up,fun k b ae=>by rw[l.n];exact h.fI k b ae⟩
  · obtain⟨v,h1,h2⟩:=h.dk t av (l.dk t av aD)
    exact⟨v,h1,h2.map ay fun _ _=>rfl⟩
  · obtain⟨vs,ty,h1,h2,ar⟩:=h.c3 k cs (l.c3 k cs ae)
    exact⟨vs,ty,h1,h2.map ay fun _ _ _ _=>rfl,ar⟩
theorem VB{c:Code}{Q:Exit→Act→World→Prop}(I:Nat→Act→World→Prop){n:Nat}(h₀:I n a w)
    (round:∀n a w,I n a w→k1 P c (Exit.then (fun a' w'=>∃m,m<n∧I m a' w') Q) a w):k1 P (Code.loop c) Q a w:=by
  intro ro b k cs gR aa j1
  have key:∀n a w,I n a w →
      ∃e a' w',Q e a' w'∧ArrivesIn (Machine.fenced P (lY ro)) P (lone (b.atR a (.code c :: .inLoop c::k)) cs w) b k cs e a' w':=by
    intro n
    induction n using Nat.strongRecOn with
    | _ n ck =>
      intro a w bg;obtain⟨e,oY,pz,aj,mG⟩:=round n a w bg ro b (.inLoop c::k) cs gR aa j1;cases e with
      | normal =>
        obtain⟨m,bb,I2⟩:=aj;obtain⟨Iy,HT,Mk,JV,Jc⟩:=ck m bb oY pz I2;exact⟨Iy,HT,Mk,JV,.of_steps (StepsIn.trans mG (.one (fenced_calm aa j1 rfl) stepR_inLoop)) Jc⟩
      | exit id=>exact⟨_,oY,pz,aj,.pass (x := .inLoop c) rfl (fun _ _ => .inl (by simp)) mG⟩
      | goto l=>exact⟨_,oY,pz,aj,.pass (x := .inLoop c) rfl (fun _ _ => .inl (by simp)) mG⟩
      | ret=>exact⟨_,oY,pz,aj,.pass (x := .inLoop c) rfl (fun _ _ => .inl (by simp)) mG⟩
      | panic ch=>exact⟨_,oY,pz,aj,.pass (x := .inLoop c) rfl (fun _ _ => .inl (by simp)) mG⟩
      | outgrown=>exact⟨_,oY,pz,aj,.pass (x := .inLoop c) rfl (fun _ _ => .inl (by simp)) mG⟩
  obtain⟨e,a',w',aj,mG⟩:=key _ a w h₀;exact⟨e,a',w',aj,.of_steps (.one (fenced_calm aa j1 rfl) stepR_loop) mG⟩
theorem NA(I:Nat→aB→Prop)(n:Nat)(eF:aB)(mf:s.aV eF)(agE:eF.bN)(aF:I n eF)
    (round:∀n s,I n s→ft P x (s0 (fun s'=>∃m,m<n∧∃CD,s'.aV CD∧CD.bN∧I m CD) Q) s):ft P (.loop x) Q s:=by
  intro ok B A ad a w an;refine VB (fun n a w=>∃s ad,s.bN∧Rel B A s ad a w∧I n s) ⟨eF,ad,agE,an.le mf,aF⟩ ?_;rintro n a w ⟨s,ad,ok,an,bg⟩;refine rA (round n s bg ok B A ad a w an) ?_;rintro e a' w' ⟨s',aT,bU,bu,aj⟩;cases e with
  | normal =>
    obtain⟨m,hm,CD,al,w9,b9⟩:=aj;exact⟨m,hm,CD,aT,w9,bu.le al,b9⟩
  | _=>exact⟨s',aT,bU,bu,aj⟩
def ag.aV(x y:ag):Prop:=∀U ad W v,cR U ad W x v→cR U ad W y v
theorem ag.aV.refl(x:ag):x.aV x:=fun _ _ _ _ h=>h
theorem ag.aV.of_eq{x y:ag}(h:x=y):x.aV y:=by subst h;exact .refl x
def gJ(P:Program)(s:aB):ResultVar→Option bD
  | .tmp t=>match s.tmps t with
    | some (.w x)=>some x
    | _=>none
  | .cell a ty=>match s.tmps a with
    | some (.w (.one (.own k off)))=>(s.mem k).bind (pick P ty · off)
    | _=>none
def packed:List bD→ag
  | [x] => .w x
  | xs => .cd xs
def vW(P:Program)(fn:Func)(r:ag):Exit→aB→Prop
  | .normal,s | .ret,s=>∃xs,fn.results.toList.map (gJ P s)=xs.map some∧(packed xs).aV r
  | _,_=>False
theorem Uu{α:Type}{f:α→Sem Value}:∀(l:List α) (vs:List Value),l.length=vs.length→(∀(i:Nat) x v,l[i]?=some x→vs[i]?=some v→(f x).run P w = .ok v w)→(l.mapM f).run P w = .ok vs w
  | [],[],_,_=>rfl
  | [],_::_,h,_=>by cases h
  | _::_,[],h,_=>by cases h
  | x::l,v::vs,al,h=>by
    have aF:=h 0 x v rfl rfl;have ck:=Uu l vs (by simpa using al) (fun i x v ab hv=>h (i+1) x v (by simpa using ab) (by simpa using hv));rw[List.mapM_cons];simp only[Sem.run_bind,aF,Result.andThen_ok,ck];rfl
def Cp(a:Act):ResultVar→Sem Value
  | .tmp t=>pure (a.tmps.getD t undef)
  | .cell b t=>do loadVar t (←asAddr (a.tmps.getD b undef))
theorem ai1(fn:Func)(a:Act):results fn a.tmps=(do let vs ←fn.results.mapM (Cp a);pure (if h:vs.size=1 then vs[0] else .tuple vs)):=rfl
theorem ai0{v:ResultVar}{z:bD}(an:Rel B A s ad a w)(h:gJ P s v=some z):∃u,(Cp a v).run P w = .ok u w∧gM (s.free A ad) ad w z u:=by
  cases v with
  | tmp t =>
    simp only[gJ] at h
    split at h
    · rename_i x ab
      cases h;obtain⟨v,h1,h2⟩:=an.dk t _ ab;refine⟨v,?_,h2⟩;simp[Cp,Array.getD_eq_getD_getElem?,h1]
    · cases h
  | cell b ty =>
    simp only[gJ] at h
    split at h
    · rename_i k off ab
      cases hm:s.mem k with
      | none=>rw[hm] at h;cases h
      | some cs =>
        rw[hm] at h;obtain⟨vs,t,g1,g2,g3⟩:=an.c3 k cs hm;obtain⟨u,h1,h2⟩:=Tf h g1 g2;obtain⟨p,q1,q2⟩:=an.dk b _ ab;cases q2;refine⟨u,?_,h2⟩;simp only[Cp,Array.getD_eq_getD_getElem?,q1,Option.getD_some,asAddr,Sem.run_bind,Sem.run_pure,Result.andThen_ok,h1]
    · cases h
theorem Cr{fn:Func}{xs:List bD}(an:Rel B A s ad a w)(h:fn.results.toList.map (gJ P s)=xs.map some):∃v,(results fn a.tmps).run P w = .ok v w∧cR (s.free A ad) ad w (packed xs) v:=by
  have key:∀(l:List ResultVar) (xs:List bD),l.map (gJ P s)=xs.map some→∃vs:List Value,vs.length=xs.length∧l.length=vs.length∧(∀(i:Nat) r u,l[i]?=some r→vs[i]?=some u→(Cp a r).run P w = .ok u w)∧∀(i:Nat) x u,xs[i]?=some x→vs[i]?=some u→gM (s.free A ad) ad w x u:=by
    intro l
    induction l with
    | nil=>intro xs h;cases xs with
      | nil=>exact⟨[],rfl,rfl,fun i r u h=>by simp at h,fun i x u h=>by simp at h⟩
      | cons=>cases h
    | cons r l ck =>
      intro xs h;cases xs with
      | nil=>cases h
      | cons x xs =>
        simp only[hK,List.cons.injEq] at h;obtain⟨vs,aI,aN,cc,ed⟩:=ck xs h.2;obtain⟨u,q1,q2⟩:=ai0 an h.1;refine⟨u::vs,by simp[aI],by simp[aN],fun i bd ru h1 h2 => ?_,fun i x' ru h1 h2 => ?_⟩
        · cases i with
          | zero=>simp at h1 h2;subst h1;subst h2;exact q1
          | succ i=>exact cc i bd ru (by simpa using h1) (by simpa using h2)
        · cases i with
          | zero=>simp at h1 h2;subst h1;subst h2;exact q2
          | succ i=>exact ed i x' ru (by simpa using h1) (by simpa using h2)
  obtain⟨vs,aI,aN,cc,ed⟩:=key _ _ h;have hm:=Uu (P:=P) (w:=w) _ vs aN cc
  have fw:(results fn a.tmps).run P w = .ok (if h:vs.toArray.size=1 then vs.toArray[0] else .tuple vs.toArray) w:=by
    rw[ai1,Array.mapM_eq_mapM_toList];simp only[map_eq_pure_bind,bind_assoc,Sem.run_bind];rw[hm];simp only[Result.andThen_ok,Sem.run_bind,Sem.run_pure]
  refine⟨_,fw,?_⟩
  match vs,xs,aI,ed with
  | [],[],_,_=>exact⟨[],rfl,rfl,fun i x v h=>by simp at h⟩
  | [v],[x],_,ed=>exact ed 0 x v rfl rfl
  | v1::v2::vs,da::de::xs,aI,ed =>
    rw[dif_neg (by simp)];exact⟨v1::v2::vs,rfl,aI.symm,ed⟩
def start(n:Nat)(args:List ag):aB:=⟨n,fun t=>args[t]?,fun _=>none⟩
def uj(P:Program)(c:Code)(Q:Exit→aB→Prop)(s:aB):Prop :=
  s.bN→∀W A ad a w,Rel (cT.all W) A s ad a w→c.wp P (fun e a' w'=>∃s' aT,s'.bN∧Rel (cT.all W) A s' aT a' w'∧Q e s') a w
theorem Te{f:FuncId}{fn:Func}{c:Code}{args:List ag}{r:ag}(ay:P.funcs[f]?=some fn)(aa:fn.body=some c)(aA:args.length≤fn.ntmps)(ha:∀x∈args,x.closed)(cn:r.closed)
    (h:uj P c (vW P fn r) (start fn.ntmps args)):aO P f args r:=by
  refine⟨ha,cn,fun U W vs cL => ?_⟩;have al:=cL.1
 
  refine calls_of_wp ay aa ?_;have ok:(start fn.ntmps args).bN:=⟨fun t av j aD af=>absurd af (ha av (cP aD) j),fun k cs x j ae=>by cases ae⟩
  have an:Rel (cT.all W) (fun b=>U b∨W.heap.size≤b) (start fn.ntmps args) id {tmps:=vs.toArray++Array.replicate (fn.ntmps-vs.toArray.size) undef,defers:=[]} W:=by
    refine⟨rfl,by simp[start];omega,fun t av aD => ?_,(fun k cs ae=>by cases ae),(fun k k' cs aw ae=>by cases ae),eO.refl (cT.all W),fun b aa => .inr aa,fun k b ae=>(by cases ae)⟩;have bb:t<vs.length:=by rw[←al];exact(br.1 aD).1
    refine⟨vs[t],by simp[Array.getElem?_append,bb],?_⟩;exact(cL.2 t av _ aD (bG bb)).map (fun b aa _=>⟨⟨.inl aa,fun k cs ae=>by cases ae⟩,rfl⟩) fun _ _=>rfl
  refine wp_mono (h ok W _ id _ W an) ?_;rintro e a' w' ⟨s',aT,bU,bu,aj⟩
  have fin:(∃xs,fn.results.toList.map (gJ P s')=xs.map some∧(packed xs).aV r)→a'.defers=[]∧∃v,(results fn a'.tmps).run P w' = .ok v w'∧∃u,Ending.returned v = .returned u∧cR (fun b=>U b∨W.heap.size≤b) id w' r u∧Below W.heap.size W w':=by
    rintro⟨xs,h1,h2⟩;obtain⟨v,q1,q2⟩:=Cr bu h1;exact⟨bu.kv,v,q1,v,rfl,(h2 _ _ _ _ q2).map (fun b aa _=>⟨aa.1,rfl⟩) fun j af=>absurd af (cn j),bu.below.all⟩
  cases e with
  | normal=>exact fin aj
  | ret=>exact fin aj
  | _=>exact aj.elim
theorem air{f:FuncId}{fn:Func}{c:Code}{args:List ag}{r:ag}(ay:P.funcs[f]?=some fn)(aa:fn.body=some c)(aA:args.length≤fn.ntmps)(ha:∀x∈args,x.closed)(cn:r.closed)
    (h:ft P c (vW P fn r) (start fn.ntmps args)):aO P f args r :=
  Te ay aa aA ha cn fun ok W A ad a w an=>(h ok (cT.all W) A ad a w an).top
end
def nA(P:Program)(c:Code)(Q:Exit→Act→World→Prop)(a:Act)(w:World):Prop :=
 ∀(b:Frame) (k:List Item) (cs:List Frame),b.kind = .normal→∃e a' w',Q e a' w'∧Arrives P (lone (b.at a (.code c::k)) cs w) b k cs e a' w'
section
variable{P:Program}{Q zS:Exit→Act→World→Prop}{a:Act}{w:World}{c x y:Code}
theorem RV(h:c.wp P Q a w):nA P c Q a w:=fun b k cs _=>h b k cs
theorem w0(h:nA P c Q a w)(aj:∀e a w,Q e a w→zS e a w):nA P c zS a w:=fun b k cs aa=>by
 obtain⟨e,a1,w1,g,r⟩:=h b k cs aa;exact⟨e,a1,w1,aj e a1 w1 g,r⟩
theorem Vh{next:Act→World→Prop}{e:Exit}(he:e ≠ .normal):Exit.then next Q e a w=Q e a w:=by
 cases e <;> first|rfl|exact absurd rfl he
theorem af9(h:nA P x (Exit.then (nA P y Q) Q) a w):nA P (.seq x y) Q a w:=fun b k cs aa=>by
 obtain⟨e,a1,w1,g,r⟩:=h b (.code y::k) cs aa
 by_cases he:e = .normal
 ·subst he;obtain⟨aN,a2,w2,g2,dK⟩:=g b k cs aa;exact⟨aN,a2,w2,g2,dK.of_steps (Steps.head step_seq r)⟩
 ·rw[Vh he] at g;exact⟨e,a1,w1,g,(r.pass (x := .code y) rfl fun _ _ => .inl he).of_steps (.one step_seq)⟩
theorem af6{o:Operand}{t:Bool}(ak:a.eval o = .bool t)(h:nA P (if t then x else y) Q a w):nA P (.cond o x y) Q a w:=fun b k cs aa=>by
 obtain⟨e,a1,w1,g,r⟩:=h b k cs aa;exact⟨e,a1,w1,g,r.of_steps (.one (step_cond ak))⟩
theorem af5{id:Nat}(h:nA P c (Exit.inBlock id Q) a w):nA P (.block id c) Q a w:=fun b k cs aa=>by
 obtain⟨e,a1,w1,g,r⟩:=h b (.inBlock id::k) cs aa;have cr:=r.of_steps (.one (step_block (P:=P) (b:=b) (a:=a) (k:=k) (cs:=cs) (w:=w) (id:=id) (c:=c)));cases e with
 | normal=>exact⟨.normal,a1,w1,g,Steps.trans cr (.one step_inBlock)⟩
 | exit j =>
  by_cases q:j=id
  ·subst q;have cZ:Q .normal a1 w1:=by simpa [Exit.inBlock] using g
   exact⟨.normal,a1,w1,cZ,cr k (by simp[exitTo])⟩
  ·have cZ:Q (.exit j) a1 w1:=by simpa [Exit.inBlock,q] using g
   refine⟨.exit j,a1,w1,cZ,fun k' ae=>cr k' ?_⟩;have:(id==j)=false:=by simpa using fun e=>q e.symm
   simp[exitTo,this,ae]
 | goto l=>exact⟨_,a1,w1,g,fun k' ae=>cr k' (by simp[gotoIn,ae])⟩
 | ret=>exact⟨_,a1,w1,g,cr⟩
 | panic ch=>exact⟨_,a1,w1,g,cr⟩
 | outgrown=>exact⟨.outgrown,a1,w1,g,cr⟩
theorem af7(I:Nat→Act→World→Prop){n:Nat}(aF:I n a w)(round:∀n a w,I n a w→nA P c (Exit.then (fun a' w'=>∃m,m<n∧I m a' w') Q) a w):nA P (.loop c) Q a w:=fun b k cs aa=>by
 have key:∀n a w,I n a w→∃e a' w',Q e a' w'∧Arrives P (lone (b.at a (.code c :: .inLoop c::k)) cs w) b k cs e a' w':=by
  intro n
  induction n using Nat.strongRecOn with
  | _ n ck =>
   intro a w bg;obtain⟨e,a1,w1,g,r⟩:=round n a w bg b (.inLoop c::k) cs aa
   by_cases he:e = .normal
   ·subst he;obtain⟨m,hm,abn⟩:=g;obtain⟨aN,a2,w2,g2,dK⟩:=ck m hm a1 w1 abn;exact⟨aN,a2,w2,g2,dK.of_steps (Steps.trans r (.one step_inLoop))⟩
   ·rw[Vh he] at g;exact⟨e,a1,w1,g,r.pass (x := .inLoop c) rfl fun _ _ => .inl he⟩
 obtain⟨e,a1,w1,g,r⟩:=key n a w aF;exact⟨e,a1,w1,g,r.of_steps (.one step_loop)⟩
theorem NQ{f:FuncId}{fn:Func}{args:Array Value}{R:Ending→World→Prop}(ay:P.funcs[f]?=some fn)(aa:fn.body=some c)
  (h:nA P c (bodyPost P fn R) {tmps:=args++Array.replicate (fn.ntmps-args.size) undef,defers:=[]} w):Calls P f args w R:=by
 intro cs;obtain⟨e,a1,w1,g,r⟩:=h {(default:Frame) with fn:=f,kind := .normal} [] cs rfl;rw[show ({(default:Frame) with fn:=f,kind := .normal}:Frame).at {tmps:=args++Array.replicate (fn.ntmps-args.size) undef,defers:=[]} [.code c]=Frame.enter P f args .normal by simp[Frame.enter,Frame.at,ay,aa]] at r;cases e with
 | normal =>
  obtain⟨hd,v,hv,an⟩:=g;exact⟨.returned v,w1,_,an,Steps.trans r (.one step_end),rfl,rfl,hd,rfl,fn,ay,hv⟩
 | ret =>
  obtain⟨hd,v,hv,an⟩:=g;obtain⟨todo,hs⟩:=r;exact⟨.returned v,w1,_,an,hs,rfl,rfl,hd,rfl,fn,ay,hv⟩
 | panic chain =>
  obtain⟨hd,an⟩:=g;obtain⟨todo,hs⟩:=r;exact⟨.panicked chain,w1,_,an,hs,rfl,rfl,hd,fn,ay⟩
 | outgrown=>exact⟨.outgrown,w1,{(default:Frame) with fn:=f,kind := .normal},g,r.resolve_left (by simp),rfl,trivial⟩
 | exit id=>exact g.elim
 | goto l=>exact g.elim
def q7(P:Program)(ops:Array Oper)(Q:Exit→Act→World→Prop)(l:List Nat)(a:Act)(w:World):Prop :=
 ∀(b:Frame) (k:List Item) (cs:List Frame),b.kind = .normal→∃e a' w',Q e a' w'∧Arrives P (lone (b.at a (.inRegion ops l::k)) cs w) b k cs e a' w'
theorem af8{id:Nat}{ops:Array Oper}(h:q7 P ops Q (List.range ops.size) a w):nA P (.region id ops false) Q a w:=fun b k cs aa=>by
 obtain⟨e,a1,w1,g,r⟩:=h b k cs aa;exact⟨e,a1,w1,g,r.of_steps (.one step_region)⟩
theorem af3{ops:Array Oper}(h:Q .normal a w):q7 P ops Q [] a w:=fun b k cs _=>⟨.normal,a,w,h,.one step_region_end⟩
theorem wZ{ops:Array Oper}{i:Nat}{l:List Nat}{a1:Act}{w1:World}(hs:∀(b:Frame) (k:List Item) (cs:List Frame),b.kind = .normal→step P (lone (b.at a (.inRegion ops (i::l)::k)) cs w) = .next (lone (b.at a1 (.inRegion ops l::k)) cs w1))(h:q7 P ops Q l a1 w1):q7 P ops Q (i::l) a w:=fun b k cs aa=>by
 obtain⟨e,a2,w2,g,r⟩:=h b k cs aa;exact⟨e,a2,w2,g,r.of_steps (.one (hs b k cs aa))⟩
theorem B2{ops:Array Oper}{i:Nat}{l:List Nat}{o:Oper}(aC:ops[i]?=some o)(hw:Region.wanted o (yielded ops a.tmps)=true)(h:o.wp P a w (q7 P ops Q l) Q)(aj:∀a w,¬Q .outgrown a w):q7 P ops Q (i::l) a w:=by
 have fin:∀(b:Frame) (k:List Item) v,(b.at a (.inRegion ops (i::l)::k)).finish v=b.at (a.put o.dst v) (.inRegion ops l::k):=fun b k v=>by rw[Frame.finish_at,aC];rfl
 have zh:=fun(b:Frame) (k:List Item) (cs:List Frame)=>stepG_op (P:=P) (b:=b) (k:=k) (cs:=cs) (w:=w) (rest:=l) aC hw;unfold Oper.wp at h;generalize ao:(execOp a.eval o).run P w=aiZ at h;cases aiZ with
 | halt t w1 =>
  cases t with
  | panic v=>exact fun b k cs _=>⟨_,a,w1,h,.inRegion ops (i::l)::k,.one (step_lone_go (by rw[zh,←Frame.raise_at];simp[stepG.apply,ao]))⟩
  | _=>exact h.elim
 | ok n w1 =>
  cases n with
  | value v=>exact wZ (fun b k cs _=>step_lone_go (by rw[zh,←fin];simp[stepG.apply,ao])) h
  | skip=>exact wZ (fun b k cs _=>step_lone_go (by rw[zh,←fin];simp[stepG.apply,ao])) h
  | defer d =>
   refine wZ (fun b k cs _=>step_lone_go ?_) h
   have e:({b.at a (.inRegion ops (i::l)::k) with defers:=d::a.defers}:Frame).finish undef=b.at ({a with defers:=d::a.defers}.put o.dst undef) (.inRegion ops l::k):=by
    have:=Frame.finish_at b {a with defers:=d::a.defers} ops i l k undef;rw[aC] at this;exact this
   rw[zh];simp only[stepG.apply,Sem.runT_eq,ao,GStep.bare_after];exact congrArg (fun uJ=>GStep.go {frame:=uJ,callers:=cs,status := .running,dying:=none} w1) e
  | enter f args =>
   intro b k cs aa;obtain⟨e,w2,uJ,an,hs,_,al⟩:=h (b.at a (.inRegion ops (i::l)::k)::cs);have he:step P (lone (b.at a (.inRegion ops (i::l)::k)) cs w) = .next (lone (Frame.enter P f args .normal) (b.at a (.inRegion ops (i::l)::k)::cs) w1):=step_lone_go (by rw[zh];simp[stepG.apply,ao,Frame.at])
   cases e with
   | returned v =>
    obtain⟨e,a3,w3,g,r⟩:=an b k cs aa;refine⟨e,a3,w3,g,r.of_steps (Steps.head he (Steps.trans hs (.one ?_)))⟩;rw[←fin];exact step_leave_returned al
   | panicked chain =>
    refine⟨.panic chain,a,w2,an,.inRegion ops (i::l)::k,Steps.head he (Steps.trans hs (.one ?_))⟩;rw[←Frame.raise_at];exact step_leave_panicked al
   | outgrown =>
    obtain⟨a0,Vv,q⟩:=an;exact absurd q (aj a0 Vv)
  | row row args =>
   intro b k cs aa;obtain⟨v,w2,an,hs⟩:=h (b.at a (.inRegion ops (i::l)::k)) cs;have he:step P (lone (b.at a (.inRegion ops (i::l)::k)) cs w) = .next (lone (Frame.ofRow P row args .normal) (b.at a (.inRegion ops (i::l)::k)::cs) w1):=step_lone_go (by rw[zh];simp[stepG.apply,ao,Frame.at])
   obtain⟨e,a3,w3,g,r⟩:=an b k cs aa;refine⟨e,a3,w3,g,r.of_steps (Steps.head he ?_)⟩;rw[←fin];exact hs
  | _=>exact h.elim
theorem af4{ops:Array Oper}{i:Nat}{l:List Nat}{o:Oper}(aC:ops[i]?=some o)(hw:Region.wanted o (yielded ops a.tmps)=false)(h:q7 P ops Q l (a.put o.dst undef) w):q7 P ops Q (i::l) a w:=by
 refine wZ (fun b k cs _ => ?_) h;have:=step_op_skip (P:=P) (b:=b) (a:=a) (k:=k) (cs:=cs) (w:=w) (ops:=ops) (i:=i) (rest:=l) (by simp[aC,hw]);rw[aC] at this;exact this
end
end Go.Proofs.YtklpfooafbjnpaaGreat
