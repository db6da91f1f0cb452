/-
  My own texts,without what this claim does not need. My own text.
-/
import Derived.Tactics
import Derived.IntWalk
import Derived.ProofKit
import Derived.Below
import Derived.Still
import Derived.OrdersIn
import Derived.Laws.CopyRow
import Derived.Laws.Cells
import Derived.Calls
set_option maxRecDepth 100000
set_option maxHeartbeats 64000000
set_option linter.unusedVariables false
set_option linter.unusedSimpArgs false
set_option linter.unusedSectionVars false
namespace Go.Proofs.YtklpfooafbjnpaaGreat
theorem bq:type_of% @List.getElem?_eq_some_iff := @List.getElem?_eq_some_iff
theorem bB:type_of% @List.getElem?_eq_getElem := @List.getElem?_eq_getElem
theorem bZ:type_of% @List.all_eq_true := @List.all_eq_true
theorem b5:type_of% @decide_eq_true := @decide_eq_true
theorem cc:type_of% @decide_eq_false := @decide_eq_false
theorem cn:type_of% @Nat.le_of_ble_eq_true := @Nat.le_of_ble_eq_true
theorem cE:type_of% @Nat.le_refl := @Nat.le_refl
theorem cM:type_of% @List.mem_of_getElem? := @List.mem_of_getElem?
theorem cT:type_of% @decide_eq_true_eq := @decide_eq_true_eq
theorem cY:type_of% @List.length_append := @List.length_append
theorem dk:type_of% @Nat.zero_le := @Nat.zero_le
theorem dt:type_of% @List.getElem?_map := @List.getElem?_map
theorem dY:type_of% @List.length_take := @List.length_take
theorem eg:type_of% @Bool.and_eq_true := @Bool.and_eq_true
theorem eO:type_of% @Nat.le_trans := @Nat.le_trans
theorem fg:type_of% @List.mem_cons := @List.mem_cons
theorem fE:type_of% @List.mem_map := @List.mem_map
theorem fK:type_of% @List.getElem?_append_left := @List.getElem?_append_left
theorem fL:type_of% @List.take_of_length_le := @List.take_of_length_le
theorem gn:type_of% @Nat.eq_of_beq_eq_true := @Nat.eq_of_beq_eq_true
theorem gp:type_of% @List.getElem?_take_of_lt := @List.getElem?_take_of_lt
theorem gq:type_of% @List.getElem?_append_right := @List.getElem?_append_right
theorem gE:type_of% @Nat.zero_lt_succ := @Nat.zero_lt_succ
theorem gN:type_of% @List.getElem?_drop := @List.getElem?_drop
theorem ha:type_of% @Option.map_some := @Option.map_some
theorem hb:type_of% @List.length_cons := @List.length_cons
theorem hc:type_of% @List.mem_cons_self := @List.mem_cons_self
theorem hx:type_of% @List.append_assoc := @List.append_assoc
theorem hO:type_of% @List.map_cons := @List.map_cons
theorem hP:type_of% @Int.mul_nonneg := @Int.mul_nonneg
theorem h9:type_of% @Array.getElem?_eq_some_iff := @Array.getElem?_eq_some_iff
theorem ia:type_of% @Nat.lt_or_ge := @Nat.lt_or_ge
theorem ib:type_of% @Nat.zero_add := @Nat.zero_add
theorem ic:type_of% @Nat.mul_le_mul_right := @Nat.mul_le_mul_right
theorem iC:type_of% @Option.some.injEq := @Option.some.injEq
theorem iD:type_of% @List.length_map := @List.length_map
theorem iE:type_of% @List.length_drop := @List.length_drop
theorem jo:type_of% @Int.pow_pos := @Int.pow_pos
theorem jI:type_of% @List.all_cons := @List.all_cons
theorem jJ:type_of% @List.mem_singleton := @List.mem_singleton
theorem jK:type_of% @List.drop_eq_getElem_cons := @List.drop_eq_getElem_cons
theorem jL:type_of% @List.take_succ_eq_append_getElem := @List.take_succ_eq_append_getElem
theorem ke:type_of% @Nat.lt_of_lt_of_le := @Nat.lt_of_lt_of_le
theorem kf:type_of% @List.mem_append := @List.mem_append
theorem kg:type_of% @List.take_append_drop := @List.take_append_drop
theorem kh:type_of% @List.pairwise_cons := @List.pairwise_cons
theorem kF:type_of% @List.getElem?_of_mem := @List.getElem?_of_mem
theorem kG:type_of% @decide_eq_false_iff_not := @decide_eq_false_iff_not
theorem kH:type_of% @List.mem_cons_of_mem := @List.mem_cons_of_mem
theorem kI:type_of% @Int.toNat_natCast := @Int.toNat_natCast
theorem k3:type_of% @Int.mul_comm := @Int.mul_comm
theorem k4:type_of% @Int.mul_assoc := @Int.mul_assoc
theorem lz:type_of% @Nat.blt_eq := @Nat.blt_eq
theorem lA:type_of% @Option.some.inj := @Option.some.inj
theorem lB:type_of% @Rat.mul_nonneg := @Rat.mul_nonneg
theorem lW:type_of% @Option.bind_some := @Option.bind_some
theorem lX:type_of% @Nat.add_mul := @Nat.add_mul
theorem mx:type_of% @Int.le_refl := @Int.le_refl
theorem mZ:type_of% @List.eq_nil_of_length_eq_zero := @List.eq_nil_of_length_eq_zero
theorem na:type_of% @List.all_nil := @List.all_nil
theorem nb:type_of% @List.append_nil := @List.append_nil
theorem nM:type_of% @List.map_congr_left := @List.map_congr_left
theorem nN:type_of% @List.mem_range := @List.mem_range
theorem ow:type_of% @List.mem_of_mem_drop := @List.mem_of_mem_drop
theorem ox:type_of% @Nat.add_assoc := @Nat.add_assoc
theorem oy:type_of% @Nat.add_comm := @Nat.add_comm
theorem oz:type_of% @Int.eq_ofNat_of_zero_le := @Int.eq_ofNat_of_zero_le
theorem o0:type_of% @List.mem_of_mem_take := @List.mem_of_mem_take
theorem o3:type_of% @Bool.eq_iff_iff := @Bool.eq_iff_iff
theorem o4:type_of% @Int.emod_lt_of_pos := @Int.emod_lt_of_pos
theorem o5:type_of% @Int.ediv_nonneg := @Int.ediv_nonneg
theorem pz:type_of% @Bool.false_eq_true := @Bool.false_eq_true
theorem pA:type_of% @Bool.or_eq_true := @Bool.or_eq_true
theorem pB:type_of% @List.map_nil := @List.map_nil
theorem pC:type_of% @Int.emod_nonneg := @Int.emod_nonneg
theorem pD:type_of% @Int.le_of_lt := @Int.le_of_lt
theorem pE:type_of% @Int.le_ediv_iff_mul_le := @Int.le_ediv_iff_mul_le
theorem pF:type_of% @Bool.true_and := @Bool.true_and
theorem qu:type_of% @List.getElem?_eq_none := @List.getElem?_eq_none
theorem qv:type_of% @Nat.beq_refl := @Nat.beq_refl
theorem qw:type_of% @Nat.min_eq_left := @Nat.min_eq_left
theorem qx:type_of% @Int.mul_le_mul_of_nonneg_right := @Int.mul_le_mul_of_nonneg_right
theorem qy:type_of% @Int.lt_or_le := @Int.lt_or_le
theorem rs:type_of% @List.map_append := @List.map_append
theorem ru:type_of% @Option.map_none := @Option.map_none
theorem rv:type_of% @Int.mul_ediv_add_emod := @Int.mul_ediv_add_emod
theorem ry:type_of% @List.drop_of_length_le := @List.drop_of_length_le
theorem sI:type_of% @List.mem_append_left := @List.mem_append_left
theorem sJ:type_of% @Nat.lt_irrefl := @Nat.lt_irrefl
theorem sK:type_of% @List.flatMap_append := @List.flatMap_append
theorem sL:type_of% @List.not_mem_nil := @List.not_mem_nil
theorem sM:type_of% @Int.mul_le_mul_of_nonneg_left := @Int.mul_le_mul_of_nonneg_left
theorem ua:type_of% @Bool.not_eq_true' := @Bool.not_eq_true'
theorem ub:type_of% @List.foldl_cons := @List.foldl_cons
theorem uc:type_of% @List.cons_append := @List.cons_append
theorem ud:type_of% @Classical.byContradiction := @Classical.byContradiction
theorem ue:type_of% @List.nil_append := @List.nil_append
theorem uf:type_of% @List.take_length := @List.take_length
theorem ug:type_of% @Int.mul_eq_zero := @Int.mul_eq_zero
theorem uh:type_of% @Int.mul_le_mul := @Int.mul_le_mul
theorem tZ:type_of% @Rat.intCast_add := @Rat.intCast_add
theorem vz:type_of% @Array.getElem?_modify := @Array.getElem?_modify
theorem vA:type_of% @decide_eq_decide := @decide_eq_decide
theorem vB:type_of% @List.getElem?_cons_zero := @List.getElem?_cons_zero
theorem xp:type_of% @List.mem_append_right := @List.mem_append_right
theorem xq:type_of% @List.getElem?_range := @List.getElem?_range
theorem xr:type_of% @Nat.eq_zero_or_pos := @Nat.eq_zero_or_pos
theorem xt:type_of% @List.getD_eq_getElem?_getD := @List.getD_eq_getElem?_getD
theorem zi:type_of% @Array.getElem?_eq_none := @Array.getElem?_eq_none
theorem zj:type_of% @List.getElem?_cons_succ := @List.getElem?_cons_succ
theorem zk:type_of% @Int.ediv_ediv_of_nonneg := @Int.ediv_ediv_of_nonneg
theorem CD:type_of% @Array.getElem?_setIfInBounds_ne := @Array.getElem?_setIfInBounds_ne
theorem CE:type_of% @List.take_append_of_le_length := @List.take_append_of_le_length
end Go.Proofs.YtklpfooafbjnpaaGreat
namespace Go.Proofs.YtklpfooafbjnpaaGreat
theorem qT:(∀b:Bool,((!b)=true)=(b=false))∧(∀b:Bool,((!b)=false)=(b=true))∧(∀(p:Prop) [Decidable p],(decide p=true)=p)∧∀(p:Prop) [Decidable p],(decide p=false)=¬p:=⟨by simp,by simp,by simp,by simp⟩
end Go.Proofs.YtklpfooafbjnpaaGreat
namespace Go.Proofs.YtklpfooafbjnpaaGreat
structure qR (Q:Prop):Prop where
  h:Q
theorem hD{P Q:Prop}(k:Q)(h:qR Q→P:=by intro q;(first|((with_reducible apply ga);exact rfl)|((with_reducible apply As);(iterate 5 exact rfl))|((with_reducible apply H9);(iterate 5 exact rfl))|((with_reducible apply amz);(iterate 3 exact rfl))|((with_reducible apply Ar);(iterate 3 exact rfl);(first|decide|omega);(first|decide|omega);(first|assumption|exact rfl);exact rfl)|((with_reducible apply NJ);(iterate 3 exact rfl);omega;omega;exact rfl)|((with_reducible apply YP);(iterate 3 exact rfl))|((with_reducible apply Yp);(iterate 4 exact rfl))|((with_reducible apply Yo);(iterate 4 exact rfl))|((with_reducible apply YN);(iterate 4 exact rfl))|((with_reducible apply wk);(iterate 3 exact rfl);(first|exact kC (by omega)|assumption|rfl);exact rfl)|((with_reducible apply Y2);(iterate 3 exact rfl);(first|exact kC (by omega)|assumption|rfl);exact rfl)|((with_reducible apply YJ);(iterate 3 exact rfl);(first|exact kC (by omega)|assumption|rfl);exact rfl)|((with_reducible apply YK);exact rfl;exact rfl;(first|exact kC (by omega)|assumption|rfl);exact rfl)|((with_reducible apply NN);(iterate 3 exact rfl);(first|assumption|omega);(first|assumption|omega);exact rfl)|((with_reducible apply Ym);exact rfl;exact rfl;(first|exact kC (by omega)|assumption|rfl);exact rfl)|((with_reducible apply YG);(iterate 4 exact rfl))|((with_reducible apply YF);(iterate 4 exact rfl))|((with_reducible apply rY);(iterate 3 exact rfl))|((with_reducible apply YZ);(iterate 3 exact rfl);(first|assumption|omega);(first|assumption|omega);(first|assumption|exact rfl);(first|assumption|exact rfl);exact rfl)|((with_reducible apply YX);(iterate 3 exact rfl);(first|assumption|omega);(first|assumption|omega);(first|assumption|exact rfl);(first|assumption|exact rfl);exact rfl)|((with_reducible apply Y0);(iterate 4 exact rfl);(first|assumption|omega);(first|assumption|omega);(first|assumption|omega);(first|assumption|exact rfl);(first|assumption|exact rfl);exact rfl)|((with_reducible apply NE);(iterate 10 exact rfl))|((with_reducible apply amB);exact rfl;exact(fun W=>rfl);exact rfl)|((with_reducible apply YH);(iterate 4 exact rfl))|((with_reducible apply Yv);(iterate 4 exact rfl))|((with_reducible apply amy);(iterate 4 exact rfl))|((with_reducible apply amA);(iterate 3 exact rfl);(first|decide|omega);(first|decide|omega);(first|assumption|exact rfl);exact rfl)|((with_reducible apply NK);(iterate 3 exact rfl);(first|decide|omega);(first|decide|omega);(first|assumption|exact rfl);exact rfl)|((with_reducible apply amw);(iterate 4 exact rfl))|((with_reducible apply Ys);(iterate 3 exact rfl))|((with_reducible apply Yt);exact rfl;exact rfl;kernel_rfl;exact rfl)|((with_reducible apply YL);exact rfl;exact rfl;kernel_rfl;exact rfl)|((with_reducible apply amx);exact rfl;exact rfl;kernel_rfl;exact rfl)|((with_reducible apply amC);exact rfl;exact rfl;kernel_rfl;exact rfl)|((with_reducible apply YQ);(iterate 3 exact rfl))|((with_reducible apply Yx);(iterate 3 exact rfl))|((with_reducible apply wm);(iterate 5 exact rfl);(intro W;go_simp;try rfl);(intro W;go_simp;try rfl);exact rfl;exact rfl)|((with_reducible apply NO);exact rfl;exact rfl;(intro W;go_simp;try rfl);exact rfl;exact rfl)|((with_reducible apply NI);exact rfl;exact rfl;(intro W;go_simp;try rfl);exact rfl;exact rfl));(with_reducible exact q.h)):P:=h ⟨k⟩
theorem dc{P Q:Prop}(k:Q)(h:qR Q→P:=by intro q;(first|refine hD ?_|((with_reducible apply NL);kernel_rfl)|((with_reducible apply N4);kernel_rfl;kernel_rfl;exact rfl)|(with_reducible first|apply N5|apply NV|apply Ii|apply dC|apply Ij|apply Ik|apply Zf|apply Zg|apply X5|apply X6|apply X7|apply N2|apply Ze|apply amE|apply aj0)|((with_reducible apply amu);exact rfl)|((with_reducible apply N1);exact rfl)|((with_reducible apply N0);exact rfl)|((with_reducible apply Zh);exact rfl;(first|assumption|exact b5 (by omega)|(simp only[qT];(first|done|omega))|exact rfl))|((with_reducible apply NY);exact rfl;(first|assumption|exact cc (by omega)|(simp only[qT];(first|done|omega))|exact rfl)));(with_reducible exact q.h)):P:=h ⟨k⟩
theorem eK{P Q:Prop}(k:Q)(h:qR Q→P:=by intro q;(repeat refine dc ?_);(with_reducible exact q.h)):P:=h ⟨k⟩
theorem ur{P Q A:Prop}(c:A)(k:Q)(h:A→qR Q→P:=by intro c q;(first|refine NF rfl rfl (by exact c) rfl ?_|refine H5 rfl rfl rfl (by exact c) rfl ?_|refine H6 rfl rfl rfl rfl (by exact c) rfl ?_|refine H7 rfl rfl rfl rfl rfl (by exact c) rfl ?_|refine NG rfl rfl rfl rfl rfl rfl (by exact c) rfl ?_|refine NH rfl rfl rfl rfl rfl rfl rfl (by exact c) rfl ?_|refine uJ (bs:=[_]) (args:=[]) rfl rfl rfl rfl (by exact c) rfl ?_|refine uJ (bs:=[_]) (args:=[_]) rfl rfl rfl rfl (by exact c) rfl ?_|refine uJ (bs:=[_]) (args:=[_,_]) rfl rfl rfl rfl (by exact c) rfl ?_|refine uJ (bs:=[_]) (args:=[_,_,_]) rfl rfl rfl rfl (by exact c) rfl ?_|refine uI (args:=[]) rfl rfl rfl (by exact c) rfl ?_|refine uI (args:=[_]) rfl rfl rfl (by exact c) rfl ?_|refine uI (args:=[_,_]) rfl rfl rfl (by exact c) rfl ?_|refine uI (args:=[_,_,_]) rfl rfl rfl (by exact c) rfl ?_);(with_reducible exact q.h)):P:=h c ⟨k⟩
theorem fw{P Q:Prop}(k:Q)(h:qR Q→P:=by intro q;(first|refine NF rfl rfl (by first|with_reducible assumption|assumption) rfl ?_|refine H5 rfl rfl rfl (by first|with_reducible assumption|assumption) rfl ?_|refine H6 rfl rfl rfl rfl (by first|with_reducible assumption|assumption) rfl ?_|refine H7 rfl rfl rfl rfl rfl (by first|with_reducible assumption|assumption) rfl ?_|refine NG rfl rfl rfl rfl rfl rfl (by first|with_reducible assumption|assumption) rfl ?_|refine NH rfl rfl rfl rfl rfl rfl rfl (by first|with_reducible assumption|assumption) rfl ?_|refine uJ (bs:=[_]) (args:=[]) rfl rfl rfl rfl (by first|with_reducible assumption|assumption) rfl ?_|refine uJ (bs:=[_]) (args:=[_]) rfl rfl rfl rfl (by first|with_reducible assumption|assumption) rfl ?_|refine uJ (bs:=[_]) (args:=[_,_]) rfl rfl rfl rfl (by first|with_reducible assumption|assumption) rfl ?_|refine uJ (bs:=[_]) (args:=[_,_,_]) rfl rfl rfl rfl (by first|with_reducible assumption|assumption) rfl ?_|refine uI (args:=[]) rfl rfl rfl (by first|with_reducible assumption|assumption) rfl ?_|refine uI (args:=[_]) rfl rfl rfl (by first|with_reducible assumption|assumption) rfl ?_|refine uI (args:=[_,_]) rfl rfl rfl (by first|with_reducible assumption|assumption) rfl ?_|refine uI (args:=[_,_,_]) rfl rfl rfl (by first|with_reducible assumption|assumption) rfl ?_);(with_reducible exact q.h)):P:=h ⟨k⟩
theorem cK{P Q:Prop}(k:Q)(h:qR Q→P:=by intro q;(repeat (first|refine dc ?_|refine fw ?_));(with_reducible exact q.h)):P:=h ⟨k⟩
theorem b9{P Q:Prop}(k:Q)(h:qR Q→P:=by intro q;(first|((with_reducible apply eT);exact rfl;(with_reducible apply ga);exact rfl;with_reducible apply dC)|((with_reducible apply QL);kernel_rfl)|(with_reducible first|apply U6|apply UP|apply U5|apply kA|apply L5|apply L7|apply akm|apply akw|apply ajA|apply ajB|apply ajC|apply L4|apply akl|apply aox)|((with_reducible apply aov);exact rfl)|((with_reducible apply aky);exact rfl;(first|assumption|exact b5 (by omega)|(simp only[qT];(first|done|omega))|exact rfl))|((with_reducible apply akx);exact rfl;(first|assumption|exact cc (by omega)|(simp only[qT];(first|done|omega))|exact rfl))|((with_reducible apply eT);exact rfl;(repeat refine hD ?_);with_reducible apply dC));(with_reducible exact q.h)):P:=h ⟨k⟩
theorem aT{P Q:Prop}(k:Q)(h:qR Q→P:=by intro q;(repeat refine b9 ?_);(with_reducible exact q.h)):P:=h ⟨k⟩
theorem gP{P Q:Prop}(k:Q)(h:qR Q→P:=by intro q;((with_reducible apply eT);exact rfl;(repeat (first|refine hD ?_|refine fw ?_));with_reducible apply dC);(with_reducible exact q.h)):P:=h ⟨k⟩
theorem oB{P Q:Prop}(k:Q)(h:qR Q→P:=by intro q;(repeat (first|refine b9 ?_|refine gP ?_));(with_reducible exact q.h)):P:=h ⟨k⟩
theorem aoD{P Q A:Prop}(c:A)(k:Q)(h:A→qR Q→P:=by intro c q;((with_reducible apply eT);exact rfl;(repeat (first|refine ur c ?_|refine hD ?_));with_reducible apply dC);(with_reducible exact q.h)):P:=h c ⟨k⟩
end Go.Proofs.YtklpfooafbjnpaaGreat
namespace Go.Proofs.YtklpfooafbjnpaaGreat
open Go.RowKit
structure dV where
  holds:World→Value→Prop
  ll:World→Value→Nat→Prop
  frame:∀w w' v,holds w v→(∀b,ll w v b→w'.heap[b]?=w.heap[b]?)→holds w' v∧∀b,ll w' v b→ll w v b
  iS:∀w v b,holds w v→ll w v b→b<w.heap.size
  cell:∀w v,holds w v→v.oneCell'=true
inductive AC where
  | c (v:Value)
  | own (k off:Nat)
  | p (R:dV)
inductive bF where
  | one (x:AC)
  | agg (xs:List AC)
inductive ag where
  | w (x:bF)
  | ck (xs:List bF)
def bF.cells:bF→List AC
  | .one x=>[x]
  | .agg xs=>xs
def fZ(U:Nat→Prop)(ad:Nat→Nat)(W:World):AC→Value→Prop
  | .c v,x=>x=v∧v.oneCell'=true
  | .own k off,x=>x = .pointer (some ⟨ad k,off,none⟩)
  | .p R,x=>R.holds W x∧∀b,R.ll W x b→U b
def bO(U:Nat→Prop)(ad:Nat→Nat)(W:World)(xs:List AC)(vs:List Value):Prop :=
  xs.length=vs.length∧∀(i:Nat) (x:AC) (v:Value),xs[i]?=some x→vs[i]?=some v→fZ U ad W x v
def gT(U:Nat→Prop)(ad:Nat→Nat)(W:World):bF→Value→Prop
  | .one x,v=>fZ U ad W x v
  | .agg xs,v=>∃vs:List Value,v = .agg vs.toArray∧bO U ad W xs vs
def cS(U:Nat→Prop)(ad:Nat→Nat)(W:World):ag→Value→Prop
  | .w x,v=>gT U ad W x v
  | .ck xs,v=>∃vs:List Value,v = .tuple vs.toArray∧xs.length=vs.length∧∀(i:Nat) (x:bF) (v:Value),xs[i]?=some x→vs[i]?=some v→gT U ad W x v
def AC.owns:AC→Nat→Prop
  | .own k _,j=>j=k
  | _,_=>False
def bF.owns(x:bF)(j:Nat):Prop:=∃y∈x.cells,y.owns j
def ag.owns:ag→Nat→Prop
  | .w x,j=>x.owns j
  | .ck xs,j=>∃x∈xs,x.owns j
section
variable{U cl:Nat→Prop}{ad aV:Nat→Nat}{W W':World}
theorem fZ.cell{x:AC}{v:Value}(h:fZ U ad W x v):v.oneCell'=true:=by
  cases x with
  | c u=>obtain⟨rfl,h⟩:=h;exact h
  | own k off=>cases h;rfl
  | p R=>exact R.cell _ _ h.1
theorem fZ.map{x:AC}{v:Value}(h:fZ U ad W x v)(cW:∀b,U b→b<W.heap.size→cl b∧W'.heap[b]?=W.heap[b]?)(jk:∀j,x.owns j→aV j=ad j):fZ cl aV W' x v:=by
  cases x with
  | c u=>exact h
  | own k off=>simp only[fZ] at h ⊢;rw[h,jk k rfl]
  | p R =>
    obtain⟨h1,h2⟩:=h;have ar:=R.frame W W' v h1 (fun b aa=>(cW b (h2 b aa) (R.iS _ _ _ h1 aa)).2);exact⟨ar.1,fun b aa=>(cW b (h2 b (ar.2 b aa)) (R.iS _ _ _ h1 (ar.2 b aa))).1⟩
theorem bO.map{xs:List AC}{vs:List Value}(h:bO U ad W xs vs)(cW:∀b,U b→b<W.heap.size→cl b∧W'.heap[b]?=W.heap[b]?)(jk:∀j x,x∈xs→x.owns j→aV j=ad j):bO cl aV W' xs vs :=
  ⟨h.1,fun i x v ab hv=>(h.2 i x v ab hv).map cW fun j af=>jk j x (cM ab) af⟩
theorem gT.map{x:bF}{v:Value}(h:gT U ad W x v)(cW:∀b,U b→b<W.heap.size→cl b∧W'.heap[b]?=W.heap[b]?)(jk:∀j,x.owns j→aV j=ad j):gT cl aV W' x v:=by
  cases x with
  | one x=>exact fZ.map h cW fun j af=>jk j ⟨x,by simp[bF.cells],af⟩
  | agg xs =>
    obtain⟨vs,e,h⟩:=h;exact⟨vs,e,h.map cW fun j x ab af=>jk j ⟨x,ab,af⟩⟩
theorem cS.map{x:ag}{v:Value}(h:cS U ad W x v)(cW:∀b,U b→b<W.heap.size→cl b∧W'.heap[b]?=W.heap[b]?)(jk:∀j,x.owns j→aV j=ad j):cS cl aV W' x v:=by
  cases x with
  | w x=>exact gT.map h cW jk
  | ck xs =>
    obtain⟨vs,e,al,h⟩:=h;exact⟨vs,e,al,fun i x v ab hv=>(h i x v ab hv).map cW fun j af=>jk j ⟨x,cM ab,af⟩⟩
theorem gT.cells{x:bF}{v:Value}(h:gT U ad W x v):bO U ad W x.cells v.cells.toList:=by
  cases x with
  | one x =>
    have ak:v.cells = #[v]:=by
      have:=fZ.cell h;cases v <;> simp_all [Value.cells,Value.oneCell']
    rw[ak];refine⟨rfl,fun i y u ai hu => ?_⟩;simp only[bF.cells] at ai;cases i with
    | zero=>simp at ai hu;subst ai;subst hu;exact h
    | succ i=>simp at ai
  | agg xs =>
    obtain⟨vs,rfl,h⟩:=h;exact h
end
def upd{α:Type}(f:Nat→Option α)(k:Nat)(v:α):Nat→Option α:=fun j=>bif Nat.beq j k then some v else f j
theorem bW{α:Type}(f:Nat→Option α)(k:Nat)(v:α):upd f k v k=some v:=by simp[upd]
theorem bL{α:Type}(f:Nat→Option α){k j:Nat}(v:α)(h:j≠k):upd f k v j=f j:=by
  have:Nat.beq j k=false:=by
    cases aa:Nat.beq j k with
    | false=>rfl
    | true=>exact absurd (gn aa) h
  simp[upd,this]
theorem VR{α:Type}(f:Nat→Option α){k j:Nat}(v u:α)(h:j≠k):upd (upd f k v) j u=upd (upd f j u) k v:=by
  funext i
  by_cases h1:i=j
  · subst h1;rw[bW,bL _ _ h,bW]
  · by_cases h2:i=k
    · subst h2;rw[bL _ _ h1,bW,bW]
    · rw[bL _ _ h1,bL _ _ h2,bL _ _ h2,bL _ _ h1]
structure aB where
  n:Nat
  tmps:Nat→Option ag
  mem:Nat→Option (List AC)
def aB.put(s:aB)(dst:Option Nat)(v:ag):aB :=
  match dst with
  | some d=>{s with tmps:=upd s.tmps d v}
  | none=>s
def aB.ep(s:aB)(k:Nat)(cs:List AC):aB:={s with mem:=upd s.mem k cs}
def SQ:Value→bF
  | .agg cs => .agg (cs.toList.map .c)
  | v => .one (.c v)
def za:Value→ag
  | .tuple vs => .ck (vs.toList.map SQ)
  | v => .w (SQ v)
def aB.look(s:aB):Operand→Option ag
  | .tmp t=>s.tmps t
  | .const v=>if v.oneCell' then some (.w (.one (.c v))) else none
  | .global g=>some (.w (.one (.c (.pointer (some ⟨g,0,none⟩)))))
  | .func f=>some (.w (.one (.c (.func (.func f) #[] #[]))))
def aB.free(s:aB)(A:Nat→Prop)(ad:Nat→Nat)(b:Nat):Prop:=A b∧∀k cs,s.mem k=some cs→ad k≠b
structure aB.bM (s:aB):Prop where
  dq:∀t av j,s.tmps t=some av→av.owns j→∃cs,s.mem j=some cs
  c3:∀k cs x j,s.mem k=some cs→x∈cs→x.owns j→∃ay,s.mem j=some ay
structure cU where
  W:World
  F:Nat→Prop
  lt:∀b,F b→b<W.heap.size
  N:Nat→Option Nat
  marks:List Deferred:=[]
def cU.all(W:World):cU:=⟨W,fun b=>b<W.heap.size,fun _ h=>h,fun _=>none,[]⟩
def uy(B:cU)(s:aB)(ad:Nat→Nat):Prop:=∀k b,B.N k=some b→s.n≤k∧ad k=b
structure eR (B:cU) (w:World):Prop where
  os:w.os=B.W.os
  tape:w.tape=B.W.tape
  output:w.output=B.W.output
  size:B.W.heap.size≤w.heap.size
  block:∀b,B.F b→w.heap[b]?=B.W.heap[b]?
theorem eR.then{B:cU}{w w':World}(h:eR B w)(aa:Below w.heap.size w w'):eR B w' :=
  ⟨aa.os.trans h.os,aa.tape.trans h.tape,aa.output.trans h.output,eO h.size aa.size,fun b aw=>(aa.block b (ke (B.lt b aw) h.size)).trans (h.block b aw)⟩
theorem eR.refl(B:cU):eR B B.W:=⟨rfl,rfl,rfl,cE _,fun _ _=>rfl⟩
theorem eR.all{W w:World}(h:eR (cU.all W) w):Below W.heap.size W w:=⟨h.os,h.tape,h.output,h.size,fun k ae=>h.block k ae⟩
structure Rel (B:cU) (A:Nat→Prop) (s:aB) (ad:Nat→Nat) (a:Act) (w:World):Prop where
  kD:a.defers=B.marks
  size:a.tmps.size=s.n
  dq:∀t av,s.tmps t=some av→∃v,a.tmps[t]?=some v∧cS (s.free A ad) ad w av v
  c3:∀k cs,s.mem k=some cs→∃(vs:List Value) (ty:TypeId),w.heap[ad k]?=some (.cells vs.toArray ty (0,0))∧bO (s.free A ad) ad w cs vs∧¬B.F (ad k)
  inj:∀k k' cs ay,s.mem k=some cs→s.mem k'=some ay→ad k=ad k'→k=k'
  below:eR B w
  up:∀b,B.W.heap.size≤b→A b
  fP:uy B s ad
section
variable{B:cU}{A:Nat→Prop}{s:aB}{ad:Nat→Nat}{a:Act}{w w':World}
theorem aB.aa2(s:aB)(dst:Option Nat)(v:ag)(A:Nat→Prop)(ad:Nat→Nat):(s.put dst v).free A ad=s.free A ad:=by cases dst <;> rfl
theorem aB.y2(s:aB)(dst:Option Nat)(v:ag):(s.put dst v).mem=s.mem:=by cases dst <;> rfl
theorem aB.tS(s:aB)(dst:Option Nat)(v:ag):(s.put dst v).n=s.n:=by cases dst <;> rfl
theorem Rel.put{dst:Option Nat}{av:ag}{v:Value}(h:Rel B A s ad a w)(hd:∀d,dst=some d→d<s.n)(hv:cS (s.free A ad) ad w av v):Rel B A (s.put dst av) ad (a.put dst v) w:=by
  cases dst with
  | none=>exact h
  | some d =>
    have a8:=hd d rfl;refine⟨h.kD,by simp[aB.put,Act.put,h.size],fun t bv aC => ?_,h.c3,h.inj,h.below,h.up,h.fP⟩;simp only[aB.put] at aC
    by_cases e:t=d
    · subst e
      rw[bW] at aC;cases aC;exact⟨v,by simp[Act.put,h.size,a8],hv⟩
    · rw[bL _ _ e] at aC
      obtain⟨u,h1,h2⟩:=h.dq t bv aC;exact⟨u,by simp only[Act.put];rw[CD (Ne.symm e)];exact h1,h2⟩
theorem Rel.lt{k:Nat}{cs:List AC}(h:Rel B A s ad a w)(ae:s.mem k=some cs):ad k<w.heap.size:=by
  obtain⟨vs,ty,h1,_⟩:=h.c3 k cs ae;exact(h9.1 h1).1
theorem Rel.call(h:Rel B A s ad a w)(aa:Below w.heap.size w w'):Rel B A s ad a w':=by
  have cW:∀b,s.free A ad b→b<w.heap.size→s.free A ad b∧w'.heap[b]?=w.heap[b]?:=fun b cR al=>⟨cR,aa.block b al⟩;refine⟨h.kD,h.size,fun t av aC => ?_,fun k cs ae => ?_,h.inj,h.below.then aa,h.up,h.fP⟩
  · obtain⟨v,h1,h2⟩:=h.dq t av aC
    exact⟨v,h1,h2.map cW fun _ _=>rfl⟩
  · obtain⟨vs,ty,h1,h2,ar⟩:=h.c3 k cs ae
    exact⟨vs,ty,by rw[aa.block _ (h.lt ae)];exact h1,h2.map cW fun _ _ _ _=>rfl,ar⟩
theorem Rel.new{d:Nat}{cs:List AC}{vs:List Value}{ty:TypeId}(h:Rel B A s ad a w)(ok:s.bM)(et:d<s.n)(hm:s.mem d=none)(hv:bO (s.free A ad) ad w cs vs)(di:∀x∈cs,∀j,x.owns j→∃ay,s.mem j=some ay) :
    Rel B A (s.ep d cs) (fun k=>if k=d then w.heap.size else ad k) a (w.alloc (.cells vs.toArray ty)):=by
  have cA:∀k ay,s.mem k=some ay→k≠d:=fun k ay ae e=>by subst e;rw[hm] at ae;cases ae
  have cW:∀b,s.free A ad b→b<w.heap.size→(s.ep d cs).free A (fun k=>if k=d then w.heap.size else ad k) b∧(w.alloc (.cells vs.toArray ty)).heap[b]?=w.heap[b]?:=by
    intro b aa al;refine⟨⟨aa.1,fun k ay ae => ?_⟩,Below.heap_alloc _ _ _ al⟩;simp only[aB.ep] at ae
    by_cases e:k=d
    · subst e;simp;omega
    · rw[bL _ _ e] at ae
      simp only[e,if_false];exact aa.2 k ay ae
  have c9:∀j,(∃ay,s.mem j=some ay)→(if j=d then w.heap.size else ad j)=ad j:=fun j ⟨ay,af⟩=>by rw[if_neg (cA j ay af)]
  refine⟨h.kD,h.size,fun t av aC => ?_,fun k ay ae => ?_,fun k k' c1 c2 ae eD e => ?_,h.below.then ((Below.refl _ _).alloc (cE _) _),h.up,fun k b ae => ?_⟩
  · obtain⟨v,h1,h2⟩:=h.dq t av aC
    exact⟨v,h1,h2.map cW fun j af=>c9 j (ok.dq t av j aC af)⟩
  · simp only[aB.ep] at ae
    by_cases e:k=d
    · subst e
      rw[bW] at ae;cases ae;refine⟨vs,ty,?_,hv.map cW fun j x ab af=>c9 j (di x ab j af),?_⟩
      · show (w.heap.push _)[if k=k then w.heap.size else ad k]?=_;simp
      · simp only[if_true];exact fun aw=>by have:=B.lt _ aw;have:=h.below.size;omega
    · rw[bL _ _ e] at ae
      obtain⟨us,t,h1,h2,ar⟩:=h.c3 k ay ae;refine⟨us,t,?_,h2.map cW fun j x ab af=>c9 j (ok.c3 k ay x j ae ab af),?_⟩
      · simp only[e,if_false];rw[Below.heap_alloc _ _ _ (h.lt ae)];exact h1
      · simp only[e,if_false];exact ar
  · simp only[aB.ep] at ae eD
    by_cases aH:k=d <;> by_cases aN:k'=d
    · rw[aH,aN]
    · rw[bL _ _ aN] at eD
      have:=h.lt eD;simp[aH,aN] at e;omega
    · rw[bL _ _ aH] at ae
      have:=h.lt ae;simp[aH,aN] at e;omega
    · rw[bL _ _ aH] at ae
      rw[bL _ _ aN] at eD;simp[aH,aN] at e;exact h.inj k k' _ _ ae eD e
  · obtain⟨h1,h2⟩:=h.fP k b ae
    refine⟨h1,?_⟩;rw[if_neg (fun e=>by subst e;exact absurd et (Nat.not_lt.2 h1))];exact h2
theorem Rel.set{k:Nat}{cs ds:List AC}{us:List Value}(h:Rel B A s ad a w)(ae:s.mem k=some cs)(hv:bO (s.free A ad) ad w ds us):Rel B A (s.ep k ds) ad a (w.setRow (ad k) us.toArray):=by
  have hZ:(s.ep k ds).free A ad=s.free A ad:=by
    funext b;apply propext
    constructor
    · rintro⟨ct,aa⟩
      refine⟨ct,fun j ay af => ?_⟩
      by_cases e:j=k
      · subst e;exact aa j ds (by simp[aB.ep,bW])
      · exact aa j ay (by simp only[aB.ep];rw[bL _ _ e];exact af)
    · rintro⟨ct,aa⟩
      refine⟨ct,fun j ay af => ?_⟩;simp only[aB.ep] at af
      by_cases e:j=k
      · subst e;exact aa j cs ae
      · rw[bL _ _ e] at af;exact aa j ay af
  obtain⟨vs,ty,g1,g2,g3⟩:=h.c3 k cs ae;have ls:(w.setRow (ad k) us.toArray).heap[ad k]?=some (.cells us.toArray ty (0,0)):=setRow_heap w (ad k) vs.toArray us.toArray ty (0,0) g1
  have wZ:∀b,b≠ad k→(w.setRow (ad k) us.toArray).heap[b]?=w.heap[b]?:=fun b aa=>by
    simp only[World.setRow,vz];rw[if_neg (Ne.symm aa)]
  have cW:∀b,s.free A ad b→b<w.heap.size→s.free A ad b∧(w.setRow (ad k) us.toArray).heap[b]?=w.heap[b]?:=fun b aa _=>⟨aa,wZ b (Ne.symm (aa.2 k cs ae))⟩;refine⟨h.kD,h.size,fun t av aC => ?_,fun j ay af => ?_,fun j e6 c1 c2 af ln e => ?_,?_,h.up,h.fP⟩
  · obtain⟨v,h1,h2⟩:=h.dq t av aC
    exact⟨v,h1,by rw[hZ];exact h2.map cW fun _ _=>rfl⟩
  · simp only[aB.ep] at af
    rw[hZ]
    by_cases e:j=k
    · subst e
      rw[bW] at af;cases af;exact⟨us,ty,ls,hv.map cW fun _ _ _ _=>rfl,g3⟩
    · rw[bL _ _ e] at af
      obtain⟨xP,alT,h1,h2,ar⟩:=h.c3 j ay af;exact⟨xP,alT,by rw[wZ _ (fun e'=>e (h.inj j k _ _ af ae e'))];exact h1,h2.map cW fun _ _ _ _=>rfl,ar⟩
  · have hold:∀i c,(s.ep k ds).mem i=some c→∃c',s.mem i=some c':=fun i c hi=>by
      simp only[aB.ep] at hi
      by_cases e:i=k
      · exact⟨cs,by rw[e];exact ae⟩
      · rw[bL _ _ e] at hi;exact⟨c,hi⟩
    obtain⟨d1,q1⟩:=hold j c1 af;obtain⟨d2,q2⟩:=hold e6 c2 ln;exact h.inj j e6 _ _ q1 q2 e
  · exact⟨h.below.os,h.below.tape,h.below.output,by have:=h.below.size;simpa [World.setRow] using this,fun b aa=>(wZ b (fun e=>by subst e;exact g3 aa)).trans (h.below.block b aa)⟩
end
def ag.closed(x:ag):Prop:=∀j,¬x.owns j
def il(U:Nat→Prop)(ad:Nat→Nat)(W:World)(xs:List ag)(vs:List Value):Prop :=
  xs.length=vs.length∧∀(i:Nat) (x:ag) (v:Value),xs[i]?=some x→vs[i]?=some v→cS U ad W x v
structure aO (P:Program) (f:FuncId) (args:List ag) (r:ag):Prop where
  fA:∀x∈args,x.closed
  cq:r.closed
  call:∀(U:Nat→Prop) (W:World) (vs:List Value),il U id W args vs →
    Calls P f vs.toArray W fun e W'=>∃v,e = .returned v∧cS (fun b=>U b∨W.heap.size≤b) id W' r v∧Below W.heap.size W W'
structure x1 (P:Program) (look:Operand→Option ag) (o:Oper) (av:ag):Prop where
  akL:∀cs b,o.op ≠ .select cs b
  ops:∀x∈o.op.operands,∃a,look x=some a
  run:∀(U:Nat→Prop) (ad:Nat→Nat) (W:World) (env:Operand→Value),(∀x∈o.op.operands,∀a,look x=some a→cS U ad W a (env x)) →
    ∃v,(execOp env o).run P W = .ok (.value v) W∧cS U ad W av v
  own:∀j,av.owns j→∃x∈o.op.operands,∃a,look x=some a∧a.owns j
def pick(P:Program)(ty:TypeId)(cs:List AC)(off:Nat):Option bF :=
  match P.underlying ty with
  | some (.struct _)|some (.array _ _)=>(P.info? ty).bind fun i=>if off+i.size≤cs.length then some (.agg ((cs.drop off).take i.size)) else none
  | some _=>(cs[off]?).map .one
  | none=>none
def eP(cs:List AC)(off:Nat)(ds:List AC):List AC:=cs.take off++ds++cs.drop (off+ds.length)
inductive wb (P:Program) (look:Operand→Option ag) (o:Oper):List AC→Prop
  | alloc (ty:TypeId) (i:TypeInfo) (z:Value) (cs:List AC) (aD:o.op = .alloc ty) (hi:P.info? ty=some i) (aS:i.zero=some z) (ak:cs=z.cells.toList.map .c) (h1:(z.cells.toList.all fun v=>v.oneCell')=true):wb P look o cs
  | box (ty:TypeId) (x:Operand) (z:bF) (aD:o.op = .box ty x) (ab:look x=some (.w z)):wb P look o z.cells
def enters(P:Program)(f:FuncId):Bool:=match P.funcs[f]? with
  | some fn => fn.body.isSome && fn.name != "runtime.NumGoroutine"
  | none=>false
def Eb:Value→Bool
  | .agg cs=>cs.toList.all fun v=>v.oneCell'
  | .tuple _=>false
  | _=>true
def Is(w:World):AC→Value→Nat→Prop
  | .p R,x,b=>R.ll w x b
  | _,_,_=>False
def l6(fn:Fn)(cs:List AC):dV where
  holds w v:=∃vs:List Value,v = .func fn #[] vs.toArray∧bO (fun _=>True) id w cs vs∧∀x∈cs,∀j,¬x.owns j
  ll w v b:=∃vs:List Value,v = .func fn #[] vs.toArray∧∃(i:Nat) (x:AC) (u:Value),cs[i]?=some x∧vs[i]?=some u∧Is w x u b
  frame w w' v:=by
    rintro⟨vs,rfl,al,ak⟩ aw
    have key:∀(i:Nat) (x:AC) (u:Value),cs[i]?=some x→vs[i]?=some u→fZ (fun _=>True) id w' x u∧∀b,Is w' x u b→Is w x u b:=by
      intro i x u ab hu;have h:=al.2 i x u ab hu;cases x with
      | c y=>exact⟨h,fun b aa=>aa⟩
      | own k o=>exact⟨h,fun b aa=>aa⟩
      | p R =>
        have:=R.frame w w' u h.1 fun b aa=>aw b ⟨vs,rfl,i,_,u,ab,hu,aa⟩;exact⟨⟨this.1,fun _ _=>trivial⟩,this.2⟩
    refine⟨⟨vs,rfl,⟨al.1,fun i x u ab hu=>(key i x u ab hu).1⟩,ak⟩,?_⟩;rintro b ⟨xP,e,i,x,u,ab,hu,aa⟩;have e':vs=xP:=by simpa using e
    subst e';exact⟨vs,rfl,i,x,u,ab,hu,(key i x u ab hu).2 b aa⟩
  iS w v b:=by
    rintro⟨vs,rfl,al,ak⟩ ⟨xP,e,i,x,u,ab,hu,aa⟩;have e':vs=xP:=by simpa using e
    subst e';have h:=al.2 i x u ab hu;cases x with
    | p R=>exact R.iS _ _ _ h.1 aa
    | c y=>cases aa
    | own k o=>cases aa
  cell w v:=by rintro⟨vs,rfl,_⟩;rfl
theorem l6.ZE{U:Nat→Prop}{ad:Nat→Nat}{w:World}{v:Value}{fn:Fn}{cs:List AC}(h:fZ U ad w (.p (l6 fn cs)) v):∃vs:List Value,v = .func fn #[] vs.toArray∧bO U id w cs vs:=by
  obtain⟨⟨vs,rfl,al,ak⟩,aw⟩:=h;refine⟨vs,rfl,al.1,fun i x u ab hu => ?_⟩;have h:=al.2 i x u ab hu;cases x with
  | c y=>exact h
  | own k o=>exact h
  | p R=>exact⟨h.1,fun b aa=>aw b ⟨vs,rfl,i,_,u,ab,hu,aa⟩⟩
structure rQ (P:Program) (look:Operand→Option ag) (o:Oper) (f:FuncId) (args:List ag):Prop where
  ex:∃c g,o.op = .call c∧c.callee = .value g ∧
    ((∃bs:List Value,look g=some (.w (.one (.c (.func (.func f) bs.toArray #[]))))∧bs.map (fun b=>some (za b))++c.args.toList.map look=args.map some∧bs.all Eb=true) ∨
     ∃cs:List AC,look g=some (.w (.one (.p (l6 (.func f) cs))))∧c.args.toList.map look++cs.map (fun x=>some (.w (.one x)))=args.map some)
  enters:enters P f=true
structure xU (P:Program) (look:Operand→Option ag) (o:Oper) (av:ag):Prop where
  ops:∀x∈o.op.operands,∃a,look x=some a
  gV:av.closed
  run:∀(U:Nat→Prop) (ad:Nat→Nat) (W:World) (env:Operand→Value),(∀x∈o.op.operands,∀a,look x=some a→cS U ad W a (env x)) →
    ∃v W',(execOp env o).run P W = .ok (.value v) W'∧cS (fun b=>U b∨W.heap.size≤b) ad W' av v∧Below W.heap.size W W'
inductive mE (P:Program) (s:aB) (o:Oper):aB→Prop
  | fresh (av:ag) (aj:xU P s.look o av) (hd:∀d,o.dst=some d→d<s.n):mE P s o (s.put o.dst av)
  | quiet (av:ag) (aj:x1 P s.look o av) (hd:∀d,o.dst=some d→d<s.n):mE P s o (s.put o.dst av)
  | load (ty:TypeId) (x:Operand) (k off:Nat) (cs:List AC) (av:bF) (aD:o.op = .load ty x) (ab:s.look x=some (.w (.one (.own k off)))) (hm:s.mem k=some cs) (hv:pick P ty cs off=some av) (hd:∀d,o.dst=some d→d<s.n):mE P s o (s.put o.dst (.w av))
  | store (ty:TypeId) (x y:Operand) (k off:Nat) (cs:List AC) (z:bF) (i:TypeInfo) (aD:o.op = .store ty x y) (ab:s.look x=some (.w (.one (.own k off)))) (ai:s.look y=some (.w z)) (hm:s.mem k=some cs) (hi:P.info? ty=some i) (hs:i.size=z.cells.length) (aa:off+z.cells.length≤cs.length) (hd:∀d,o.dst=some d→d<s.n):mE P s o ((s.put o.dst (.ck [])).ep k (eP cs off z.cells))
  | new (cs:List AC) (d:Nat) (dS:o.dst=some d) (hm:s.mem d=none) (aA:wb P s.look o cs) (hd:d<s.n):mE P s o ((s.ep d cs).put (some d) (.w (.one (.own d 0))))
  | call (f:FuncId) (args:List ag) (r:ag) (ak:rQ P s.look o f args) (hp:aO P f args r) (hd:∀d,o.dst=some d→d<s.n):mE P s o (s.put o.dst r)
section
variable{P:Program}{B:cU}{A:Nat→Prop}{s s':aB}{ad:Nat→Nat}{a:Act}{w:World}{o:Oper}{Q:Exit→Act→World→Prop}
theorem cS.undef(U:Nat→Prop):cS U ad w (.ck []) undef:=⟨[],rfl,rfl,fun i x v h=>by simp at h⟩
theorem Rel.look{x:Operand}{av:ag}(h:Rel B A s ad a w)(ab:s.look x=some av):cS (s.free A ad) ad w av (a.eval x):=by
  cases x with
  | tmp t =>
    obtain⟨v,h1,h2⟩:=h.dq t av ab;have:a.eval (.tmp t)=v:=by simp[Act.eval,Array.getD_eq_getD_getElem?,h1]
    rw[this];exact h2
  | const v =>
    simp only[aB.look] at ab
    split at ab
    · rename_i h1;cases ab;exact⟨rfl,h1⟩
    · cases ab
  | global g=>cases ab;exact⟨rfl,rfl⟩
  | func f=>cases ab;exact⟨rfl,rfl⟩
theorem bO.cellAt{U:Nat→Prop}{W:World}{xs:List AC}{vs:List Value}{g:Nat}{ty:TypeId}(h:bO U ad W xs vs)(au:W.heap[g]?=some (.cells vs.toArray ty (0,0))){i:Nat}{x:AC}(hi:xs[i]?=some x) :
    ∃v,vs[i]?=some v∧W.cell? ⟨g,i,none⟩=some v∧fZ U ad W x v:=by
  have a8:i<vs.length:=by
    rw[←h.1];rcases ia i xs.length with q|q
    · exact q
    · rw[qu q] at hi;cases hi
  refine⟨vs[i],bB a8,?_,h.2 i x _ hi (bB a8)⟩;simp[World.cell?,au,a8]
theorem bO.sub{U:Nat→Prop}{W:World}{xs:List AC}{vs:List Value}(h:bO U ad W xs vs)(off n:Nat):bO U ad W ((xs.drop off).take n) ((vs.drop off).take n):=by
  refine⟨by simp[h.1],fun i x v ab hv => ?_⟩;rw[List.getElem?_take] at ab hv
  split at ab
  · rename_i a8
    rw[if_pos a8] at hv;rw[gN] at ab hv;exact h.2 _ x v ab hv
  · cases ab
theorem bO.eP{U:Nat→Prop}{W:World}{xs ds:List AC}{vs us:List Value}(h:bO U ad W xs vs)(hd:bO U ad W ds us)(off:Nat)(aa:off+ds.length≤xs.length):bO U ad W (eP xs off ds) (vs.take off++us++vs.drop (off+us.length)):=by
  have aH:=h.1;have aN:=hd.1;refine⟨by simp[Proofs.YtklpfooafbjnpaaGreat.eP,aH,aN],fun i x v ab hv => ?_⟩;unfold Proofs.YtklpfooafbjnpaaGreat.eP at ab;have dM:(xs.take off).length=off:=by simp;omega
  have sw:(vs.take off).length=off:=by simp;omega
  by_cases h1:i<off
  · rw[hx,fK (by omega),gp h1] at ab
    rw[hx,fK (by omega),gp h1] at hv;exact h.2 i x v ab hv
  · by_cases h2:i<off+ds.length
    · rw[hx,gq (by omega),fK (by omega),dM] at ab
      rw[hx,gq (by omega),fK (by omega),sw] at hv;exact hd.2 _ x v ab hv
    · rw[gq (by simp;omega),gN] at ab hv
      simp only[cY,dM,sw] at ab hv;rw[←aN] at hv;have e:off+ds.length+(i-(off+ds.length))=i:=by omega
      rw[e] at ab hv;exact h.2 i x v ab hv
theorem L2{ty:TypeId}{A:Addr}{v:Value}{d:TypeDesc}(hu:P.underlying ty=some d)(hs:∀br,d ≠ .struct br)(aX:∀n e,d ≠ .array n e)(ak:w.cell? A=some v):(loadVar ty A).run P w = .ok v w:=by
  have h1:(isAgg ty).run P w = .ok false w:=by
    unfold isAgg;simp only[Sem.run_bind,run_underlying hu,Result.andThen_ok];cases d <;> first|rfl|(exact absurd rfl (hs _))|(exact absurd rfl (aX _ _))
  unfold loadVar;simp only[Sem.run_bind,h1,Result.andThen_ok,pz,if_false];simp[load,Sem.run,ak]
theorem ig{ty:TypeId}{i:TypeInfo}(hi:P.info? ty=some i):(sizeOf ty).run P w = .ok i.size w:=by
  simp[sizeOf,typeInfo,program,Sem.run_bind,Sem.run,hi,Result.andThen]
theorem L1{ty:TypeId}{A:Addr}{vs:List Value}{i:TypeInfo}{d:TypeDesc}(hu:P.underlying ty=some d)(hd:(∃br,d = .struct br)∨∃n e,d = .array n e)(hi:P.info? ty=some i)(al:vs.length=i.size)(ak:∀j v,vs[j]?=some v→w.cell? (A.add j)=some v) :
    (loadVar ty A).run P w = .ok (.agg vs.toArray) w:=by
  have h1:(isAgg ty).run P w = .ok true w:=by
    unfold isAgg;simp only[Sem.run_bind,run_underlying hu,Result.andThen_ok];rcases hd with ⟨br,rfl⟩|⟨n,e,rfl⟩ <;> rfl
  unfold loadVar;simp only[Sem.run_bind,h1,Result.andThen_ok,if_true,ig hi,←al,run_loadCells_list w A vs ak];rfl
end
section
variable{P:Program}{B:cU}{A:Nat→Prop}{s s':aB}{ad:Nat→Nat}{a:Act}{w:World}{o:Oper}{Q:Exit→Act→World→Prop}
theorem TG{U:Nat→Prop}{ty:TypeId}{cs:List AC}{off g:Nat}{av:bF}{vs:List Value}{t:TypeId}(hv:pick P ty cs off=some av)(au:w.heap[g]?=some (.cells vs.toArray t (0,0)))(al:bO U ad w cs vs) :
    ∃v,(loadVar ty ⟨g,off,none⟩).run P w = .ok v w∧gT U ad w av v:=by
  unfold pick at hv
  have key:∀d,P.underlying ty=some d→((∃br,d = .struct br)∨∃n e,d = .array n e)→((P.info? ty).bind fun i=>if off+i.size≤cs.length then some (bF.agg ((cs.drop off).take i.size)) else none)=some av→∃v,(loadVar ty ⟨g,off,none⟩).run P w = .ok v w∧gT U ad w av v:=by
    intro d hu hd h;cases hi:P.info? ty with
    | none=>rw[hi] at h;cases h
    | some i =>
      rw[hi] at h;simp only[lW] at h
      split at h
      · rename_i hle
        cases h;have hs:=al.sub off i.size;have hlen:((vs.drop off).take i.size).length=i.size:=by have:=al.1;simp;omega
        refine⟨_,L1 hu hd hi hlen (fun j v af => ?_),_,rfl,hs⟩;have ln:j<i.size:=by rw[←hlen];exact(bq.1 af).1
        rw[gp ln,gN] at af;have lN:(⟨g,off,none⟩:Addr).add j=⟨g,off+j,none⟩:=by unfold Addr.add;split <;> simp_all
        rw[lN];simp only[World.cell?,au];simpa using af
      · cases h
  have KQ:∀d,P.underlying ty=some d→(∀br,d ≠ .struct br)→(∀n e,d ≠ .array n e)→(cs[off]?).map bF.one=some av→∃v,(loadVar ty ⟨g,off,none⟩).run P w = .ok v w∧gT U ad w av v:=by
    intro d hu h1 h2 h;cases ab:cs[off]? with
    | none=>rw[ab] at h;cases h
    | some x =>
      rw[ab] at h;cases h;obtain⟨v,q1,q2,q3⟩:=al.cellAt au ab;exact⟨v,L2 hu h1 h2 q2,q3⟩
  cases hu:P.underlying ty with
  | none=>rw[hu] at hv;cases hv
  | some d =>
    rw[hu] at hv;cases d <;> first|exact key _ hu (.inl ⟨_,rfl⟩) hv|exact key _ hu (.inr ⟨_,_,rfl⟩) hv|exact KQ _ hu (fun _ h=>by cases h) (fun _ _ h=>by cases h) hv
theorem yl{f:FuncId}{args:Array Value}(h:enters P f=true):(callFunc f args).run P w = .ok (.enter f args) w:=by
  unfold enters at h;cases aw:P.funcs[f]? with
  | none=>rw[aw] at h;cases h
  | some fn =>
    rw[aw] at h;simp only[eg,bne_iff_ne,ne_eq] at h;obtain⟨h1,h2⟩:=h;simp[callFunc,program,Sem.run_bind,Sem.run,aw,Result.andThen,h2];intro ar;rw[ar] at h1;cases h1
def ma(ro:Option Nat):Fence:={Fence.wide with round:=ro}
theorem ZB{ro:Option Nat}{n:Nat}{P:Program}{f:FuncId}{args:Array Value}{w:World}{R:Ending→World→Prop}(h:Calls P f args w R):CallsIn (ma ro) n P f args w R:=callsIn_wide.2 h
theorem aj4{ro:Option Nat}{n:Nat}{P:Program}{row:String}{args:Array Value}{w:World}{R:Value→World→Prop}(h:Rows P row args w R):RowsIn (ma ro) n P row args w R:=fun c cs _=>by
  obtain⟨v,w',ao,hs⟩:=h c cs;exact⟨v,w',ao,stepsIn_wide.2 hs⟩
theorem y7{P:Program}{ad:Operand→Value}{o:Oper}{w w':World}{x:Next}(h:(execOp ad o).run P w = .ok x w')(ab:∀d,x ≠ .defer d):∀c,o.op ≠ .defer c:=fun c ak=>by
  simp only[execOp,ak,Sem.run_bind] at h;cases ao:(resolve ad c o.type).run P w with
  | ok d w2=>rw[ao] at h;simp only[Result.andThen_ok,Sem.run_pure,Result.ok.injEq] at h;exact ab d h.1.symm
  | halt r w2=>rw[ao] at h;simp[Result.andThen] at h
theorem Oper.Wg{ro:Option Nat}{n:Nat}{P:Program}{o:Oper}{a:Act}{w:World}{K:Act→World→Prop}{Q:Exit→Act→World→Prop}(h:o.wp P a w K Q)(hd:∀c,o.op ≠ .defer c):o.wpIn (ma ro) n P a w K Q:=by
  refine⟨fun _ _=>trivial,?_⟩;rw[Oper.semAt_eq _ _ _ hd];unfold Oper.wp at h;generalize (execOp a.eval o).run P w=r at *;have aA:(ma ro).depth.isSome=true→1≤n:=fun h=>by simp[ma,Fence.wide] at h
  cases r with
  | ok x w'=>cases x <;> first|exact h|exact⟨aA,ZB h⟩|exact⟨aA,aj4 h⟩|exact h.elim
  | halt x w'=>cases x <;> exact h
def k8(P:Program)(c:Code)(Q:Exit→Act→World→Prop)(a:Act)(w:World):Prop:=∀ro,c.wpIn (ma ro) 0 P Q a w
section
variable{P:Program}{Q Ad:Exit→Act→World→Prop}{a:Act}{w:World}{c x y:Code}
theorem k8.top(h:k8 P c Q a w):c.wp P Q a w:=wpIn_wide.1 (h none)
theorem rM(h:k8 P c Q a w)(aj:∀e a w,Q e a w→Ad e a w):k8 P c Ad a w:=fun ro=>wpIn_mono (h ro) aj
theorem V8(h:k8 P x (Exit.then (k8 P y Q) Q) a w):k8 P (.seq x y) Q a w:=fun ro=>wpIn_seq (wpIn_mono (h ro) fun e a w aj=>by cases e <;> first|exact aj ro|exact aj)
theorem V9(h:Q .normal a w):k8 P .skip Q a w:=fun ro=>wpIn_skip h
theorem V3{id:Nat}(h:Q (.exit id) a w):k8 P (.exit id) Q a w:=fun ro=>wpIn_exit h
theorem V7(h:Q .ret a w):k8 P .ret Q a w:=fun ro=>wpIn_ret h
theorem V2{c:Operand}{t:Bool}(ak:a.eval c = .bool t)(h:k8 P (if t then x else y) Q a w):k8 P (.cond c x y) Q a w:=fun ro=>wpIn_cond ak (h ro)
theorem V1{id:Nat}(h:k8 P c (Exit.inBlock id Q) a w):k8 P (.block id c) Q a w:=fun ro=>wpIn_block (h ro)
theorem V5{id:Nat}{ops:Array Oper}(h:∀ro,wpOpsIn (ma ro) 0 P ops Q (List.range ops.size) a w):k8 P (.region id ops false) Q a w:=fun ro=>wpIn_region (h ro)
theorem V6{id:Nat}{ops:Array Oper}(hm:P.follows .mixedOrders=true)(h:∀ro,wpAnyIn (ma ro) 0 P .any ops Q ops.size (Array.replicate ops.size false) a {w with drawn:=w.drawn+1}):k8 P (.region id ops true) Q a w:=fun ro=>wpIn_region_any hm (h ro)
end
theorem Oper.sZ{v:Value}{w':World}{next:Act→World→Prop}(h:(execOp a.eval o).run P w = .ok (.value v) w')(aA:next (a.put o.dst v) w'):o.wp P a w next Q:=by
  unfold Oper.wp;rw[h];exact aA
theorem Rel.Q6{U:Nat→Prop}{x:ag}{v:Value}(ak:x.closed)(h:cS U ad w x v):cS U id w x v:=h.map (fun b aa _=>⟨aa,rfl⟩) fun j af=>absurd af (ak j)
theorem UG{U:Nat→Prop}{v:Value}(h:Eb v=true):cS U ad w (za v) v:=by
  cases v with
  | agg cs =>
    refine⟨cs.toList,by simp,by simp,fun i x u ab hu => ?_⟩;rw[dt,hu] at ab;cases ab;exact⟨rfl,bZ.1 h u (cM hu)⟩
  | tuple vs=>cases h
  | _=>exact⟨rfl,rfl⟩
theorem mE.Sy(h:mE P s o s')(an:Rel B A s ad a w):∀c,o.op ≠ .defer c:=by
  cases h with
  | quiet av aj hd =>
    obtain⟨v,h1,h2⟩:=aj.run (s.free A ad) ad w a.eval (fun x ab b aa=>an.look aa);exact y7 h1 (fun d h=>by cases h)
  | fresh av aj hd =>
    obtain⟨v,W',h1,h2,aa⟩:=aj.run (s.free A ad) ad w a.eval (fun x ab b aa=>an.look aa);exact y7 h1 (fun d h=>by cases h)
  | load ty x k off cs av aD=>intro c ak;rw[aD] at ak;cases ak
  | store ty x y k off cs z i aD=>intro c ak;rw[aD] at ak;cases ak
  | new cs d dS hm aA hd =>
    intro c ak;cases aA with
    | alloc ty i z cs aD=>rw[aD] at ak;cases ak
    | box ty x z aD=>rw[aD] at ak;cases ak
  | call f args r ak hp hd =>
    intro c pn;obtain⟨⟨c',g,aD,_⟩,_⟩:=ak;rw[aD] at pn;cases pn
theorem mE.sound(h:mE P s o s')(an:Rel B A s ad a w)(ok:s.bM):o.wp P a w (fun a' w'=>∃aV,Rel B A s' aV a' w') Q:=by
  cases h with
  | quiet av aj hd =>
    obtain⟨v,h1,h2⟩:=aj.run (s.free A ad) ad w a.eval (fun x ab b aa=>an.look aa);exact Oper.sZ h1 ⟨ad,an.put hd h2⟩
  | fresh av aj hd =>
    obtain⟨v,W',h1,h2,aa⟩:=aj.run (s.free A ad) ad w a.eval (fun x ab b aa=>an.look aa);refine Oper.sZ h1 ⟨ad,(an.call aa).put hd (h2.map (fun b cR al=>⟨?_,rfl⟩) fun j af=>rfl)⟩;rcases cR with h|h
    · exact h
    · refine⟨an.up b (eO an.below.size h),fun k cs ae e => ?_⟩
      have:=an.lt ae;omega
  | load ty x k off cs av aD ab hm hv hd =>
    obtain⟨vs,t,g1,g2,g3⟩:=an.c3 k cs hm;obtain⟨v,h1,h2⟩:=TG hv g1 g2;have hp:a.eval x = .pointer (some ⟨ad k,off,none⟩):=an.look ab;refine Oper.sZ (v:=v) (w':=w) ?_ ⟨ad,an.put hd h2⟩;simp only[execOp,aD,Instr.loadAt,hp,Instr.sureAddr,Sem.run_bind,Sem.run_pure,Result.andThen_ok,h1]
  | store ty x y k off cs z i aD ab ai hm hi hs aa hd =>
    obtain⟨vs,t,g1,g2,g3⟩:=an.c3 k cs hm;have hp:a.eval x = .pointer (some ⟨ad k,off,none⟩):=an.look ab;have aS:gT (s.free A ad) ad w z (a.eval y):=an.look ai;have qc:=aS.cells;have w4:(a.eval y).cells.size=z.cells.length:=by have:=qc.1;simp at this;exact this.symm
    have fH:(storeVar ty ⟨ad k,off,none⟩ (a.eval y)).run P w = .ok () (w.setRow (ad k) (vs.take off++(a.eval y).cells.toList++vs.drop (off+(a.eval y).cells.toList.length)).toArray):=by
      unfold storeVar;have cA:¬((a.eval y).cells.size≠i.size):=by rw[w4,hs];simp
      simp only[Sem.run_bind,ig hi,Result.andThen_ok,if_neg cA]
      have dL:∀v∈(a.eval y).cells.toList,v.oneCell'=true:=fun v hv=>by
        obtain⟨j,af⟩:=kF hv;have a8:j<z.cells.length:=by rw[qc.1];exact(bq.1 af).1
        exact(qc.2 j _ v (bB a8) af).cell
      have:=run_storeCells_at (P:=P) (ad k) off t (a.eval y).cells.toList 0 vs.toArray w g1 (by have:=g2.1;simp;omega) dL;simpa using this
    have hrel:=(Rel.set (k:=k) (ds:=eP cs off z.cells) (an.put (dst:=o.dst) hd (cS.undef _)) (by rw[aB.y2];exact hm) (by rw[aB.aa2];exact g2.eP qc off aa));unfold Oper.wp
    have fe:(execOp a.eval o).run P w = .ok .skip (w.setRow (ad k) (vs.take off++(a.eval y).cells.toList++vs.drop (off+(a.eval y).cells.toList.length)).toArray):=by
      simp only[execOp,aD,Instr.storeAt,hp,Instr.sureAddr,Sem.run_bind,Sem.run_pure,Result.andThen_ok,fH]
    rw[fe];exact⟨ad,hrel⟩
  | new cs d dS hm aA hd =>
    have main:∀(vs:List Value) (ty:TypeId),bO (s.free A ad) ad w cs vs→(∀x∈cs,∀j,x.owns j→∃ay,s.mem j=some ay)→(execOp a.eval o).run P w = .ok (.value (.pointer (some ⟨w.heap.size,0,none⟩))) (w.alloc (.cells vs.toArray ty)) →
        o.wp P a w (fun a' w'=>∃aV,Rel B A ((s.ep d cs).put (some d) (.w (.one (.own d 0)))) aV a' w') Q:=by
      intro vs ty al c9 fe;refine Oper.sZ fe ⟨fun k=>if k=d then w.heap.size else ad k,?_⟩;rw[dS];refine(an.new ok hd hm al c9).put (fun d' e=>by cases e;exact hd) ?_;show Value.pointer _=Value.pointer _;simp
    cases aA with
    | alloc ty i z cs aD hi aS ak h1 =>
      subst ak;refine main z.cells.toList ty ⟨by simp,fun j x v ab hv => ?_⟩ (fun x ab j af => ?_) ?_
      · rw[dt,hv] at ab
        cases ab;exact⟨rfl,bZ.1 h1 v (cM hv)⟩
      · obtain⟨v,_,rfl⟩:=fE.1 ab
        cases af
      · have tK:(zeroValue ty).run P w = .ok z w:=by simp[zeroValue,typeInfo,program,Sem.run_bind,Sem.run,hi,Result.andThen,aS]
        simp only[execOp,aD,Instr.alloc,Sem.run_bind,tK,Result.andThen_ok,newVar,newRow,newObj,Sem.run];rfl
    | box ty x z aD ab =>
      have aS:gT (s.free A ad) ad w z (a.eval x):=an.look ab;refine main (a.eval x).cells.toList ty aS.cells (fun y ai j af => ?_) ?_
      · cases x with
        | tmp t=>exact ok.dq t _ j ab ⟨y,ai,af⟩
        | const v =>
          simp only[aB.look] at ab
          split at ab
          · cases ab;simp[bF.cells] at ai;subst ai;cases af
          · cases ab
        | global g=>cases ab;simp[bF.cells] at ai;subst ai;cases af
        | func g=>cases ab;simp[bF.cells] at ai;subst ai;cases af
      · simp only[execOp,aD,Instr.box,newVar,newRow,newObj,Sem.run_bind,Sem.run,Result.andThen_ok]
        rfl
  | call f args r ak hp hd =>
    obtain⟨⟨c,g,aD,Bm,aZ⟩,Bo⟩:=ak;have dy:∀ {y:Operand} {x:ag},x∈args→s.look y=some x→cS (s.free A ad) id w x (a.eval y):=fun{y x} ab ai=>Rel.Q6 (ad:=ad) (hp.fA x ab) (an.look ai)
    obtain⟨us,cO,fe⟩:∃us:List Value,il (s.free A ad) id w args us∧(execOp a.eval o).run P w = .ok (.enter f us.toArray) w:=by
      rcases aZ with ⟨bs,au,p5,Fg⟩|⟨cs,au,p5⟩
      · have jx:a.eval g = .func (.func f) bs.toArray #[]:=(an.look au).1
        refine⟨bs++c.args.toList.map a.eval,?_,?_⟩
        · refine⟨by have:=congrArg List.length p5;simpa using this.symm,fun i x v ab hv => ?_⟩
          have h1:(bs.map (fun b=>some (za b))++c.args.toList.map s.look)[i]?=some (some x):=by rw[p5,dt,ab];rfl
          rcases ia i bs.length with a8|iO
          · rw[fK (by simpa using a8),dt] at h1
            rw[fK a8] at hv;rw[hv] at h1;simp only[ha,iC] at h1;subst h1;exact UG (bZ.1 Fg v (cM hv))
          · rw[gq (by simpa using iO),dt] at h1
            rw[gq iO,dt] at hv;simp only[iD] at h1;cases ai:c.args.toList[i-bs.length]? with
            | none=>rw[ai] at hv;cases hv
            | some y =>
              rw[ai] at h1 hv;simp only[ha,iC] at h1 hv;subst hv;exact dy (cM ab) h1
        · have e:bs.toArray++c.args.map a.eval ++ #[]=(bs++c.args.toList.map a.eval).toArray:=by
            rw[Array.append_empty];apply Array.ext';simp
          simp only[execOp,aD,resolve,Bm,Deferred.ofValue,jx];simp only[Sem.run_bind,Sem.run_pure,Result.andThen_ok,invoke];rw[e];exact yl Bo
      · obtain⟨vs,jx,cu⟩:=l6.ZE (ad:=ad) (an.look au)
        refine⟨c.args.toList.map a.eval++vs,?_,?_⟩
        · refine⟨by have:=congrArg List.length p5;have h2:=cu.1;simp at this ⊢;omega,fun i x v ab hv => ?_⟩
          have h1:(c.args.toList.map s.look++cs.map (fun x=>some (.w (.one x))))[i]?=some (some x):=by rw[p5,dt,ab];rfl
          rcases ia i c.args.toList.length with a8|iO
          · rw[fK (by simpa using a8),dt] at h1
            rw[fK (by simpa using a8),dt] at hv;cases ai:c.args.toList[i]? with
            | none=>rw[ai] at hv;cases hv
            | some y =>
              rw[ai] at h1 hv;simp only[ha,iC] at h1 hv;subst hv;exact dy (cM ab) h1
          · rw[gq (by simpa using iO),dt] at h1
            rw[gq (by simpa using iO)] at hv;simp only[iD] at h1 hv;cases ai:cs[i-c.args.toList.length]? with
            | none=>rw[ai] at h1;cases h1
            | some y =>
              rw[ai] at h1;simp only[ha,iC] at h1;subst h1;exact cu.2 _ y v ai hv
        · have e:(#[]:Array Value)++c.args.map a.eval++vs.toArray=(c.args.toList.map a.eval++vs).toArray:=by
            apply Array.ext';simp
          simp only[execOp,aD,resolve,Bm,Deferred.ofValue,jx];simp only[Sem.run_bind,Sem.run_pure,Result.andThen_ok,invoke];rw[e];exact yl Bo
    unfold Oper.wp;rw[fe];refine(hp.call (s.free A ad) w _ cO).mono ?_;rintro e w' ⟨v,rfl,hv,aa⟩;refine⟨ad,(an.call aa).put hd (hv.map (fun b cR al=>⟨?_,rfl⟩) fun j af=>absurd af (hp.cq j))⟩;rcases cR with h|h
    · exact h
    · refine⟨an.up b (eO an.below.size h),fun k cs ae e => ?_⟩
      have:=an.lt ae;omega
end
def al0:ag := .ck []
def want(ops:Array Oper)(o:Oper)(s:aB):Option Bool :=
  match o.guard with
  | none=>some true
  | some (g,b) =>
    match (ops[g]?).bind (·.dst) with
    | some d=>match s.tmps d with
      | some (.w (.one (.c (.bool x))))=>some (some x==some b)
      | some (.ck _)=>some false
      | _=>none
    | none=>none
def nH(o:Oper):Nat :=
  match o.op with
  | .load .. => 1
  | .store .. => 2
  | _=>0
def xb(x y:Oper):Bool := !(nH x==2&&nH y != 0) && !(nH x != 0&&nH y==2)
def addrOf(o:Oper):Option Operand :=
  match o.op with
  | .load _ x=>some x
  | .store _ x _=>some x
  | _=>none
def Aw:ag→ag→Bool
  | .w (.one (.own k _)),.w (.one (.own j _)) => !Nat.beq k j
  | .w (.one (.own _ _)),.w (.one (.p _))=>true
  | .w (.one (.p _)),.w (.one (.own _ _))=>true
  | _,_=>false
theorem Ie{k j o p:Nat}(h:Aw (.w (.one (.own k o))) (.w (.one (.own j p)))=true):k≠j:=fun e=>by
  subst e;simp[Aw,qv] at h
def z8(s:aB)(x y:Oper):Prop:=xb x y=true∨∃a b u v,addrOf x=some a∧addrOf y=some b∧s.look a=some u∧s.look b=some v∧Aw u v=true
section
variable{P:Program}{B:cU}{A:Nat→Prop}{s s1 s2 s':aB}{ad:Nat→Nat}{a:Act}{w:World}{o bA bG:Oper}{ops:Array Oper}
theorem RW{x:Operand}{dst:Option Nat}{v:ag}(h:∀d,dst=some d→x ≠ .tmp d):(s.put dst v).look x=s.look x:=by
  cases dst with
  | none=>rfl
  | some d =>
    cases x with
    | tmp t=>simp only[aB.look,aB.put];exact bL _ _ (fun e=>h d rfl (by rw[e]))
    | _=>rfl
theorem af8{x:Operand}{k:Nat}{cs:List AC}:(s.ep k cs).look x=s.look x:=by cases x <;> rfl
theorem x1.congr{look gZ:Operand→Option ag}{av:ag}(h:x1 P look o av)(e:∀x∈o.op.operands,gZ x=look x):x1 P gZ o av :=
  ⟨h.akL,fun x ab=>by rw[e x ab];exact h.ops x ab,fun U ad W env he=>h.run U ad W env fun x ab a aX=>he x ab a (by rw[e x ab];exact aX),fun j af=>by
    obtain⟨x,ab,a,aX,acn⟩:=h.own j af;exact⟨x,ab,a,by rw[e x ab];exact aX,acn⟩⟩
theorem xU.congr{look gZ:Operand→Option ag}{av:ag}(h:xU P look o av)(e:∀x∈o.op.operands,gZ x=look x):xU P gZ o av :=
  ⟨fun x ab=>by rw[e x ab];exact h.ops x ab,h.gV,fun U ad W env he=>h.run U ad W env fun x ab a aX=>he x ab a (by rw[e x ab];exact aX)⟩
theorem wb.congr{look gZ:Operand→Option ag}{cs:List AC}(h:wb P look o cs)(e:∀x∈o.op.operands,gZ x=look x):wb P gZ o cs:=by
  cases h with
  | alloc ty i z cs aD hi aS ak h1=>exact .alloc ty i z cs aD hi aS ak h1
  | box ty x z aD ab=>exact .box ty x z aD (by rw[e x (by simp[aD,Op.operands])];exact ab)
theorem rQ.congr{look gZ:Operand→Option ag}{f:FuncId}{args:List ag}(h:rQ P look o f args)(e:∀x∈o.op.operands,gZ x=look x):rQ P gZ o f args:=by
  obtain⟨⟨c,g,aD,ak,aZ⟩,he⟩:=h;have Ey:gZ g=look g:=e g (by simp[aD,Op.operands,Call.operands,ak]);have jv:c.args.toList.map gZ=c.args.toList.map look:=nM fun x ab=>e x (by simp[aD,Op.operands,Call.operands,ak];exact .inr (by simpa using ab));refine⟨⟨c,g,aD,ak,?_⟩,he⟩;rcases aZ with ⟨bs,au,aX,aa⟩|⟨cs,au,aX⟩
  · exact .inl ⟨bs,by rw[Ey];exact au,by rw[jv];exact aX,aa⟩
  · exact .inr ⟨cs,by rw[Ey];exact au,by rw[jv];exact aX⟩
theorem aB.put_comm(s:aB){x y:Option Nat}(v u:ag)(h:∀d,x=some d→y≠some d):(s.put x v).put y u=(s.put y u).put x v:=by
  cases x with
  | none=>rfl
  | some d =>
    cases y with
    | none=>rfl
    | some e =>
      have cA:e≠d:=fun he=>h d rfl (by rw[he]);simp only[aB.put];rw[VR _ _ _ cA]
theorem aB.zg(s:aB)(x:Option Nat)(v:ag)(k:Nat)(cs:List AC):(s.put x v).ep k cs=(s.ep k cs).put x v:=by cases x <;> rfl
theorem aB.akN(s:aB){k j:Nat}(cs ds:List AC)(h:j≠k):(s.ep k cs).ep j ds=(s.ep j ds).ep k cs:=by
  simp only[aB.ep];rw[VR _ _ _ h]
structure cC where
  v:ag
  m:Option (Nat×List AC)
def cC.on(e:cC)(dst:Option Nat)(s:aB):aB :=
  match e.m with
  | some (k,cs)=>(s.ep k cs).put dst e.v
  | none=>s.put dst e.v
inductive fa (P:Program) (n:Nat) (look:Operand→Option ag) (mem:Nat→Option (List AC)) (o:Oper):Bool→cC→Prop
  | skip:fa P n look mem o false ⟨.ck [],none⟩
  | quiet (av:ag) (aj:x1 P look o av):fa P n look mem o true ⟨av,none⟩
  | fresh (av:ag) (aj:xU P look o av):fa P n look mem o true ⟨av,none⟩
  | load (ty:TypeId) (x:Operand) (k off:Nat) (cs:List AC) (av:bF) (aD:o.op = .load ty x) (ab:look x=some (.w (.one (.own k off)))) (hm:mem k=some cs) (hv:pick P ty cs off=some av):fa P n look mem o true ⟨.w av,none⟩
  | store (ty:TypeId) (x y:Operand) (k off:Nat) (cs:List AC) (z:bF) (i:TypeInfo) (aD:o.op = .store ty x y) (ab:look x=some (.w (.one (.own k off)))) (ai:look y=some (.w z)) (hm:mem k=some cs) (hi:P.info? ty=some i) (hs:i.size=z.cells.length) (aa:off+z.cells.length≤cs.length):fa P n look mem o true ⟨.ck [],some (k,eP cs off z.cells)⟩
  | new (cs:List AC) (d:Nat) (dS:o.dst=some d) (hm:mem d=none) (aA:wb P look o cs):fa P n look mem o true ⟨.w (.one (.own d 0)),some (d,cs)⟩
  | call (f:FuncId) (args:List ag) (r:ag) (ak:rQ P look o f args) (hp:aO P f args r):fa P n look mem o true ⟨r,none⟩
theorem fa.step{e:cC}(h:fa P s.n s.look s.mem o true e)(hd:∀d,o.dst=some d→d<s.n):mE P s o (e.on o.dst s):=by
  cases h with
  | quiet av aj=>exact .quiet av aj hd
  | fresh av aj=>exact .fresh av aj hd
  | load ty x k off cs av aD ab hm hv=>exact .load ty x k off cs av aD ab hm hv hd
  | store ty x y k off cs z i aD ab ai hm hi hs aa =>
    have:=mE.store (P:=P) (s:=s) ty x y k off cs z i aD ab ai hm hi hs aa hd;rw[aB.zg] at this;exact this
  | new cs d dS hm aA =>
    have:=mE.new (P:=P) (s:=s) cs d dS hm aA (hd d dS);rw[←dS] at this;exact this
  | call f args r ak hp=>exact .call f args r ak hp hd
theorem cC.sE(e:cC)(dst:Option Nat)(s:aB):(e.on dst s).mem=match e.m with|some (k,cs)=>upd s.mem k cs|none=>s.mem:=by
  unfold cC.on
  split
  · rename_i h;rw[aB.y2];simp[aB.ep]
  · rename_i h;rw[aB.y2]
theorem cC.sD(e:cC)(dst:Option Nat)(s:aB){x:Operand}(h:∀d,dst=some d→x ≠ .tmp d):(e.on dst s).look x=s.look x:=by
  unfold cC.on
  split
  · rw[RW h,af8]
  · rw[RW h]
theorem cC.vt(e:cC)(dst:Option Nat)(s:aB):(e.on dst s).n=s.n:=by
  unfold cC.on
  split
  · rw[aB.tS];rfl
  · rw[aB.tS]
theorem cC.Cs(e f:cC)(x y:Option Nat)(s:aB)(h:∀d,x=some d→y≠some d)(ae:∀k cs j ds,e.m=some (k,cs)→f.m=some (j,ds)→j≠k):f.on y (e.on x s)=e.on x (f.on y s):=by
  unfold cC.on;cases he:e.m with
  | none =>
    cases aw:f.m with
    | none=>simp only[he,aw];exact aB.put_comm s _ _ h
    | some q=>obtain⟨j,ds⟩:=q;simp only[he,aw];rw[aB.zg];exact aB.put_comm _ _ _ h
  | some p =>
    obtain⟨k,cs⟩:=p;cases aw:f.m with
    | none=>simp only[he,aw];rw[aB.zg];exact aB.put_comm _ _ _ h
    | some q =>
      obtain⟨j,ds⟩:=q;simp only[he,aw];rw[aB.zg,aB.zg,aB.akN s _ _ (ae k cs j ds he aw)];exact aB.put_comm _ _ _ h
theorem vl{x:Operand}{d:Nat}{y:Oper}(h:d∉y.looksAt ops)(ab:x∈y.op.operands):x ≠ .tmp d:=fun e=>h (by
  subst e;exact sI _ (List.mem_filterMap.2 ⟨.tmp d,by simpa using ab,rfl⟩))
theorem fa.swap{b c:Bool}{e f:cC}(ok:s.bM)(he:fa P s.n s.look s.mem bA b e)(aw:fa P (e.on bA.dst s).n (e.on bA.dst s).look (e.on bA.dst s).mem bG c f)(tx:bA.apart ops bG=true)(oc:z8 s bA bG) :
    fa P s.n s.look s.mem bG c f∧fa P (f.on bG.dst s).n (f.on bG.dst s).look (f.on bG.dst s).mem bA b e∧f.on bG.dst (e.on bA.dst s)=e.on bA.dst (f.on bG.dst s):=by
  obtain⟨a1,a2,a3⟩:=Oper.apart_spec tx;have oo:∀x∈bG.op.operands,(e.on bA.dst s).look x=s.look x:=fun x ab=>cC.sD _ _ _ fun d hd=>vl (a1 d hd) ab;have cH:=cC.sE e bA.dst s
 
  have wT:∀k cs,e.m=some (k,cs)→(∃ay,s.mem k=some ay)∨s.mem k=none:=fun k cs _=>by
    cases h:s.mem k with
    | none=>exact .inr rfl
    | some c=>exact .inl ⟨c,rfl⟩
  have S4:∀x k off,s.look x=some (.w (.one (.own k off)))→∃cs,s.mem k=some cs:=fun x k off ab=>by
    cases x with
    | tmp t=>exact ok.dq t _ k ab ⟨.own k off,by simp[bF.cells],rfl⟩
    | const v=>simp only[aB.look] at ab;split at ab <;> cases ab
    | global g=>cases ab
    | func g=>cases ab
 
  have Sc:∀x k off,addrOf bG=some x→nH bG≠0→s.look x=some (.w (.one (.own k off)))→(e.on bA.dst s).mem k=s.mem k:=by
    intro x k off JA JZ ab;rw[cH];cases he with
    | skip=>rfl
    | quiet av aj=>rfl
    | fresh av aj=>rfl
    | load=>rfl
    | call=>rfl
    | store ty x' y' k' SR cs z i aD kB ai hm hi hs aa =>
      rcases oc with oc|⟨a,b,q,p,aX,cR,jv,np,cA⟩
      · exfalso
        have:nH bA=2:=by simp[nH,aD]
        simp[xb,this,JZ] at oc
      · simp only[addrOf,aD,iC] at aX
        subst aX;rw[kB] at jv;cases jv;rw[JA] at cR;cases cR;rw[ab] at np;cases np;show upd s.mem k' _ k=s.mem k;exact bL _ _ (Ne.symm (Ie cA))
    | new cs d dS hm aA =>
      obtain⟨c,ak⟩:=S4 x k off ab;show upd s.mem d cs k=s.mem k;exact bL _ _ (fun e=>by subst e;rw[hm] at ak;cases ak)
  have u7:fa P s.n s.look s.mem bG c f:=by
    cases aw with
    | skip=>exact .skip
    | quiet av aj=>exact .quiet av (aj.congr fun x ab=>(oo x ab).symm)
    | fresh av aj=>exact .fresh av (aj.congr fun x ab=>(oo x ab).symm)
    | load ty x k off cs av aD ab hm hv =>
      have kB:s.look x=some (.w (.one (.own k off))):=by rw[←oo x (by simp[aD,Op.operands])];exact ab
      exact .load ty x k off cs av aD kB (by rw[←Sc x k off (by simp[addrOf,aD]) (by simp[nH,aD]) kB];exact hm) hv
    | store ty x y k off cs z i aD ab ai hm hi hs aa =>
      have kB:s.look x=some (.w (.one (.own k off))):=by rw[←oo x (by simp[aD,Op.operands])];exact ab
      exact .store ty x y k off cs z i aD kB (by rw[←oo y (by simp[aD,Op.operands])];exact ai) (by rw[←Sc x k off (by simp[addrOf,aD]) (by simp[nH,aD]) kB];exact hm) hi hs aa
    | new cs d dS hm aA =>
      refine .new cs d dS ?_ (aA.congr fun x ab=>(oo x ab).symm);rw[cH] at hm;cases n9:e.m with
      | none=>rw[n9] at hm;exact hm
      | some p =>
        obtain⟨k,c⟩:=p;rw[n9] at hm
        by_cases hX:d=k
        · subst hX
          change upd s.mem d c d=none at hm
          rw[bW] at hm;cases hm
        · change upd s.mem k c d=none at hm
          rwa [bL _ _ hX] at hm
    | call g args r ak hp=>exact .call g args r (ak.congr fun x ab=>(oo x ab).symm) hp
  have mu:∀x∈bA.op.operands,(f.on bG.dst s).look x=s.look x:=fun x ab=>cC.sD _ _ _ fun d hd=>vl (a3 d hd) ab;have R7:=cC.sE f bG.dst s
  have sf:fa P (f.on bG.dst s).n (f.on bG.dst s).look (f.on bG.dst s).mem bA b e:=by
    have Sa:∀x k off,addrOf bA=some x→nH bA≠0→s.look x=some (.w (.one (.own k off)))→(f.on bG.dst s).mem k=s.mem k:=by
      intro x k off JA JZ ab;rw[R7];cases u7 with
      | skip=>rfl
      | quiet av aj=>rfl
      | fresh av aj=>rfl
      | load=>rfl
      | call=>rfl
      | store ty x' y' k' SR cs z i aD kB ai hm hi hs aa =>
        rcases oc with oc|⟨a,b,q,p,aX,cR,jv,np,cA⟩
        · exfalso
          have:nH bG=2:=by simp[nH,aD]
          simp[xb,this,JZ] at oc
        · simp only[addrOf,aD,iC] at cR
          subst cR;rw[kB] at np;cases np;rw[JA] at aX;cases aX;rw[ab] at jv;cases jv;show upd s.mem k' _ k=s.mem k;exact bL _ _ (Ie cA)
      | new cs d dS hm aA =>
        obtain⟨c,ak⟩:=S4 x k off ab;show upd s.mem d cs k=s.mem k;exact bL _ _ (fun e=>by subst e;rw[hm] at ak;cases ak)
    cases he with
    | skip=>exact .skip
    | quiet av aj=>exact .quiet av (aj.congr fun x ab=>mu x ab)
    | fresh av aj=>exact .fresh av (aj.congr fun x ab=>mu x ab)
    | load ty x k off cs av aD ab hm hv=>exact .load ty x k off cs av aD (by rw[mu x (by simp[aD,Op.operands])];exact ab) (by rw[Sa x k off (by simp[addrOf,aD]) (by simp[nH,aD]) ab];exact hm) hv
    | store ty x y k off cs z i aD ab ai hm hi hs aa=>exact .store ty x y k off cs z i aD (by rw[mu x (by simp[aD,Op.operands])];exact ab) (by rw[mu y (by simp[aD,Op.operands])];exact ai) (by rw[Sa x k off (by simp[addrOf,aD]) (by simp[nH,aD]) ab];exact hm) hi hs aa
    | new cs d dS hm aA =>
      refine .new cs d dS ?_ (aA.congr fun x ab=>mu x ab);rw[R7];cases u7 with
      | skip=>exact hm
      | quiet av aj=>exact hm
      | fresh av aj=>exact hm
      | load=>exact hm
      | call=>exact hm
      | store ty x' y' k' SR ay z i aD kB ai eM hi hs aa =>
        show upd s.mem k' _ d=none;rw[bL _ _ (fun e=>by subst e;rw[hm] at eM;cases eM)];exact hm
      | new ay d' acN eM yJ =>
        show upd s.mem d' _ d=none;rw[bL _ _ (fun e=>a2 d dS (by rw[acN,e]))];exact hm
    | call g args r ak hp=>exact .call g args r (ak.congr fun x ab=>mu x ab) hp
  refine⟨u7,sf,cC.Cs e f bA.dst bG.dst s a2 ?_⟩;intro k cs j ds h1 h2 aaC;subst aaC;cases he with
  | skip=>cases h1
  | quiet=>cases h1
  | fresh=>cases h1
  | load=>cases h1
  | call=>cases h1
  | store ty x y k' off ay z i aD ab ai hm hi hs aa =>
    cases h1;cases u7 with
    | skip=>cases h2
    | quiet=>cases h2
    | fresh=>cases h2
    | load=>cases h2
    | call=>cases h2
    | store alU dj mD cm ahd gd z2 i2 yK Ky =>
      cases h2;rcases oc with oc|⟨a,b,q,p,aX,cR,jv,np,cA⟩
      · simp[xb,nH,aD,yK] at oc
      · simp only[addrOf,aD,yK,iC] at aX cR
        subst aX;subst cR;rw[ab] at jv;rw[Ky] at np;cases jv;cases np;exact Ie cA rfl
    | new gd d2 P7 ob J5=>cases h2;rw[ob] at hm;cases hm
  | new ay d dS hm aA =>
    cases h1;cases u7 with
    | skip=>cases h2
    | quiet=>cases h2
    | fresh=>cases h2
    | load=>cases h2
    | call=>cases h2
    | store alU dj mD cm ahd gd z2 i2 yK Ky Kz ob=>cases h2;rw[ob] at hm;cases hm
    | new gd d2 P7 ob J5=>cases h2;exact a2 _ dS P7
end
section
variable{P:Program}{B:cU}{A:Nat→Prop}{s s1 s2 s':aB}{ad:Nat→Nat}{a:Act}{w:World}{o bA bG:Oper}{ops:Array Oper}{md:Region.Mode}
theorem look_ok{x:Operand}{av:ag}{j:Nat}(ok:s.bM)(ab:s.look x=some av)(af:av.owns j):∃cs,s.mem j=some cs:=by
  have none:∀v,¬(ag.w (.one (.c v))).owns j:=fun v ⟨y,ai,h⟩=>by simp[bF.cells] at ai;subst ai;cases h
  cases x with
  | tmp t=>exact ok.dq t av j ab af
  | const v =>
    simp only[aB.look] at ab
    split at ab
    · cases ab;exact absurd af (none _)
    · cases ab
  | global g=>cases ab;exact absurd af (none _)
  | func g=>cases ab;exact absurd af (none _)
theorem aB.bM.put{dst:Option Nat}{av:ag}(ok:s.bM)(h:∀j,av.owns j→∃cs,s.mem j=some cs):(s.put dst av).bM:=by
  cases dst with
  | none=>exact ok
  | some d =>
    refine⟨fun t bv j aC af => ?_,ok.c3⟩;simp only[aB.put] at aC ⊢
    by_cases e:t=d
    · subst e;rw[bW] at aC;cases aC;exact h j af
    · rw[bL _ _ e] at aC;exact ok.dq t bv j aC af
theorem aB.bM.ep{k:Nat}{cs:List AC}(ok:s.bM)(h:∀x∈cs,∀j,x.owns j→∃ay,s.mem j=some ay):(s.ep k cs).bM:=by
  have up:∀j,(∃c,s.mem j=some c)→∃c,(s.ep k cs).mem j=some c:=fun j ⟨c,ak⟩=>by
    by_cases e:j=k
    · exact⟨cs,by rw[e];exact bW _ _ _⟩
    · exact⟨c,by simp only[aB.ep];rw[bL _ _ e];exact ak⟩
  refine⟨fun t bv j aC af=>up j (ok.dq t bv j aC af),fun k' c x j ae ab af=>up j ?_⟩;simp only[aB.ep] at ae
  by_cases e:k'=k
  · subst e;rw[bW] at ae;cases ae;exact h x ab j af
  · rw[bL _ _ e] at ae;exact ok.c3 k' c x j ae ab af
theorem ajg{ty:TypeId}{cs:List AC}{off:Nat}{av:bF}(h:pick P ty cs off=some av):∀x∈av.cells,x∈cs:=by
  unfold pick at h
  split at h
  · cases hi:P.info? ty with
    | none=>rw[hi] at h;cases h
    | some i =>
      rw[hi] at h;simp only[lW] at h
      split at h
      · cases h;exact fun x ab=>ow (o0 ab)
      · cases h
  · cases hi:P.info? ty with
    | none=>rw[hi] at h;cases h
    | some i =>
      rw[hi] at h;simp only[lW] at h
      split at h
      · cases h;exact fun x ab=>ow (o0 ab)
      · cases h
  · cases ab:cs[off]? with
    | none=>rw[ab] at h;cases h
    | some y=>rw[ab] at h;cases h;intro x kB;simp[bF.cells] at kB;subst kB;exact cM ab
  · cases h
theorem mE.ok(h:mE P s o s')(ok:s.bM):s'.bM:=by
  cases h with
  | quiet av aj hd =>
    refine ok.put fun j af => ?_;obtain⟨x,ab,b,aa,acr⟩:=aj.own j af;exact look_ok ok aa acr
  | fresh av aj hd=>exact ok.put fun j af=>absurd af (aj.gV j)
  | load ty x k off cs av aD ab hm hv hd =>
    refine ok.put fun j af => ?_;obtain⟨y,ai,nE⟩:=af;exact ok.c3 k cs y j hm (ajg hv y ai) nE
  | store ty x y k off cs z i aD ab ai hm hi hs aa hd =>
    rw[aB.zg];refine aB.bM.put (ok.ep fun x ab j af => ?_) fun j af=>(by obtain⟨y,ai,_⟩:=af;cases ai);unfold eP at ab;simp only[kf] at ab;rcases ab with (h1|h1)|h1
    · exact ok.c3 k cs x j hm (o0 h1) af
    · exact look_ok ok ai ⟨x,h1,af⟩
    · exact ok.c3 k cs x j hm (ow h1) af
  | new cs d dS hm aA hd =>
    refine aB.bM.put (ok.ep fun x ab j af => ?_) fun j af => ?_
    · cases aA with
      | alloc ty i z cs aD hi aS ak h1=>subst ak;obtain⟨v,_,rfl⟩:=fE.1 ab;cases af
      | box ty y z aD ai=>exact look_ok ok ai ⟨x,ab,af⟩
    · obtain⟨y,ai,nE⟩:=af
      simp[bF.cells] at ai;subst ai;cases nE;exact⟨cs,bW _ _ _⟩
  | call f args r ak hp hd=>exact ok.put fun j af=>absurd af (hp.cq j)
def ta(P:Program)(ops:Array Oper)(o:Oper)(K:aB→Prop)(s:aB):Prop :=
  ∃b,want ops o s=some b∧∃e,fa P s.n s.look s.mem o b e∧(∀d,o.dst=some d→d<s.n)∧K (e.on o.dst s)
def wh(P:Program)(md:Region.Mode)(ops:Array Oper)(K:aB→Prop):Nat→Array Bool→aB→Prop
  | 0,listed,s=>Region.ready md ops listed=[]∧K s
  | fS+1,listed,s=>(Region.ready md ops listed=[]→K s) ∧
    ∀i∈Region.ready md ops listed,∀o,ops[i]?=some o→ta P ops o (wh P md ops K fS (listed.setIfInBounds i true)) s
theorem MK{b:Bool}(h:want ops o s=some b)(an:Rel B A s ad a w):Region.wanted o (yielded ops a.tmps)=b:=by
  unfold want at h;unfold Region.wanted
  split at h
  · rename_i au;rw[au];cases h;rfl
  · rename_i g b4 au
    rw[au]
    split at h
    · rename_i d hd
      split at h
      · rename_i x ab
        cases h;obtain⟨v,h1,h2⟩:=an.dq d _ ab;obtain⟨rfl,_⟩:=h2;simp[yielded,hd,h1]
      · rename_i xs ab
        cases h;obtain⟨v,h1,h2⟩:=an.dq d _ ab;obtain⟨vs,rfl,_⟩:=h2;simp[yielded,hd,h1]
      · cases h
    · cases h
theorem AO{b:Bool}{e:cC}(ok:s.bM)(he:fa P s.n s.look s.mem o b e)(hd:∀d,o.dst=some d→d<s.n):(e.on o.dst s).bM:=by
  cases b with
  | true=>exact(he.step hd).ok ok
  | false=>cases he;exact ok.put fun j af=>(by obtain⟨y,ai,_⟩:=af;cases ai)
theorem DR{ro:Option Nat}{K:aB→Prop}{K':Act→World→Prop}{Q:Exit→Act→World→Prop}{i:Nat}(hi:ops[i]?=some o)(ok:s.bM)(an:Rel B A s ad a w)(h:ta P ops o K s)
    (fc:∀s' aV a' w',s'.bM→Rel B A s' aV a' w'→K s'→K' a' w'):wpOpIn (ma ro) 0 P ops Q i K' a w:=by
  obtain⟨b,hw,e,he,hd,ae⟩:=h;have nD:=MK hw an;unfold wpOpIn;simp only[hi];cases b with
  | true =>
    rw[nD];simp only[if_true];have bU:=(he.step hd).ok ok;exact Oper.Wg (Oper.wp_mono (fun a' w' ⟨aV,ao⟩=>fc _ aV a' w' bU ao ae) (mE.sound (he.step hd) an ok)) ((he.step hd).Sy an)
  | false =>
    rw[nD];simp only[pz,if_false];cases he;exact⟨fun _ _=>trivial,fc _ ad _ _ (ok.put fun j af=>(by obtain⟨y,ai,_⟩:=af;cases ai)) (an.put hd (cS.undef _)) ae⟩
theorem HZ{ro:Option Nat}{K:aB→Prop}{Q:Exit→Act→World→Prop}(nv:∀s' aV a' w',s'.bM→Rel B A s' aV a' w'→K s'→Q .normal a' w'):∀(fS:Nat) (listed:Array Bool) (s:aB) (ad:Nat→Nat) (a:Act) (w:World),s.bM→Rel B A s ad a w →
    wh P md ops K fS listed s→wpAnyIn (ma ro) 0 P md ops Q fS listed a w
  | 0,_,_,_,_,_,ok,an,h=>⟨h.1,nv _ _ _ _ ok an h.2⟩
  | fS+1,listed,s,ad,a,w,ok,an,h=>⟨fun aE=>nv _ _ _ _ ok an (h.1 aE),fun i hi=>by
      obtain⟨aE,o,aD,_⟩:=mem_ready.1 hi;exact DR aD ok an (h.2 i hi o aD) fun s' aV a' w' bU bu ae=>HZ nv fS _ s' aV a' w' bU bu ae⟩
theorem zJ{b:Option Bool}{e:cC}{dst:Option Nat}(al:∀d,dst=some d→d∉o.looksAt ops):want ops o (e.on dst s)=want ops o s:=by
  have aC:∀d,(∀d',dst=some d'→d≠d')→(e.on dst s).tmps d=s.tmps d:=fun d h=>by
    have:=cC.sD e dst s (x := .tmp d) (fun d' tz e'=>h d' tz (by cases e';rfl));exact this
  unfold want;cases au:o.guard with
  | none=>rfl
  | some p =>
    obtain⟨g,b4⟩:=p;simp only;cases hd:(ops[g]?).bind (·.dst) with
    | none=>rfl
    | some d =>
      simp only
      rw[aC d (fun d' tz e'=>al d' tz (by
        subst e';unfold Oper.looksAt;rw[au];exact xp _ (by simp[hd])))]
theorem X1{b:Bool}{e:cC}{K:aB→Prop}(ok:s.bM)(hw:want ops bA s=some b)(he:fa P s.n s.look s.mem bA b e)(u6:∀d,bA.dst=some d→d<s.n)(tx:bA.apart ops bG=true)(oc:z8 s bA bG)(h:ta P ops bG K (e.on bA.dst s)) :
    ta P ops bG (fun t=>(want ops bA t=some b∧fa P t.n t.look t.mem bA b e∧(∀d,bA.dst=some d→d<t.n)∧t.bM)∧K (e.on bA.dst t)) s:=by
  obtain⟨a1,a2,a3⟩:=Oper.apart_spec tx;obtain⟨c,tJ,f,aw,se,ae⟩:=h;obtain⟨h1,h2,ar⟩:=fa.swap ok he aw tx oc;rw[zJ (b:=none) a1] at tJ;have wO:∀d,bG.dst=some d→d<s.n:=fun d hd=>by have:=se d hd;rwa [cC.vt] at this
  refine⟨c,tJ,f,h1,wO,⟨?_,h2,fun d hd=>by rw[cC.vt];exact u6 d hd,AO ok h1 wO⟩,by rw[←ar];exact ae⟩;rw[zJ (b:=none) a3];exact hw
theorem Nw{K K':aB→Prop}(h:∀s,K s→K' s)(aZ:ta P ops o K s):ta P ops o K' s :=
  let ⟨b,h1,e,h2,ar,aK⟩:=aZ
  ⟨b,h1,e,h2,ar,h _ aK⟩
def qP(ops:Array Oper)(listed:Array Bool)(x y:Oper)(s:aB):Prop :=
  xb x y=true∨∃t u o p,addrOf x=some (.tmp t)∧addrOf y=some (.tmp u)∧s.tmps t=some o∧s.tmps u=some p∧Aw o p=true ∧
    ∀i bA,ops[i]?=some bA→listed.getD i true=false→bA.dst≠some t∧bA.dst≠some u
theorem qP.sep{listed:Array Bool}(h:qP ops listed bA bG s):z8 s bA bG:=by
  rcases h with h|⟨t,u,o,p,h1,h2,ar,aK,bX,_⟩
  · exact .inl h
  · exact .inr ⟨_,_,o,p,h1,h2,ar,aK,bX⟩
theorem cC.zc{e:cC}{dst:Option Nat}{t:Nat}(h:dst≠some t):(e.on dst s).tmps t=s.tmps t:=by
  have:=cC.sD e dst s (x := .tmp t) (fun d hd e'=>by cases e';exact h hd);exact this
theorem qP.on{listed:Array Bool}{f:cC}{o:Oper}{i:Nat}(h:qP ops listed bA bG s)(aD:ops[i]?=some o)(h6:listed.getD i true=false):qP ops (listed.setIfInBounds i true) bA bG (f.on o.dst s):=by
  rcases h with h|⟨t,u,q,p,h1,h2,ar,aK,bX,fb⟩
  · exact .inl h
  · obtain⟨fI,gD⟩:=fb i o aD h6
    refine .inr ⟨t,u,q,p,h1,h2,by rw[cC.zc fI];exact ar,by rw[cC.zc gD];exact aK,bX,fun fi fU h4 vj=>fb fi fU h4 ?_⟩
    by_cases e:i=fi
    · subst e;exact h6
    · rwa [getD_set_ne true e] at vj
theorem X2{b:Bool}{e:cC}{K:aB→Prop}(ok:s.bM)(hw:want ops bA s=some b)(he:fa P s.n s.look s.mem bA b e)(u6:∀d,bA.dst=some d→d<s.n)(tx:bA.apart ops bG=true)(oc:z8 s bA bG)(h:ta P ops bG K (e.on bA.dst s)) :
    ta P ops bG (fun t=>(∃f:cC,t=f.on bG.dst s)∧(want ops bA t=some b∧fa P t.n t.look t.mem bA b e∧(∀d,bA.dst=some d→d<t.n)∧t.bM)∧K (e.on bA.dst t)) s:=by
  obtain⟨c,h1,f,h2,ar,aK⟩:=X1 ok hw he u6 tx oc h;exact⟨c,h1,f,h2,ar,⟨f,rfl⟩,aK⟩
def waits(md:Region.Mode)(ops:Array Oper):Nat→Nat→Nat→Bool
  | 0,_,_=>false
  | f+1,j,i=>match ops[j]? with
    | some o=>o.after.any fun e=>Region.binds md e&&(e.on==i||waits md ops f e.on i)
    | none=>false
def Down(md:Region.Mode)(ops:Array Oper)(listed:Array Bool):Prop:=∀k o,listed.getD k false=true→ops[k]?=some o→∀e∈o.after,Region.binds md e=true→listed.getD e.on false=true
theorem zI{listed:Array Bool}(hd:Down md ops listed):∀(f j i:Nat) (o:Oper),ops[j]?=some o→(∀e∈o.after,Region.binds md e=true→listed.getD e.on false=true)→waits md ops f j i=true→listed.getD i false=true
  | 0,_,_,_,_,_,h=>by cases h
  | f+1,j,i,o,aD,dL,h=>by
    simp only[waits,aD] at h;obtain⟨e,he,aa⟩:=Array.any_eq_true'.1 h;simp only[eg,pA,beq_iff_eq] at aa;obtain⟨h1,h2⟩:=aa;have al:=dL e he h1;rcases h2 with h2|h2
    · rw[←h2];exact al
    · cases h4:ops[e.on]? with
      | none=>cases f <;> simp[waits,h4] at h2
      | some fU=>exact zI hd f e.on i fU h4 (fun e' sf cR=>hd e.on fU al h4 e' sf cR) h2
theorem Down.set{listed:Array Bool}(hd:Down md ops listed){j:Nat}(af:j∈Region.ready md ops listed):Down md ops (listed.setIfInBounds j true):=by
  intro k o ae aD e he aa;obtain⟨_,bG,jg,dL⟩:=mem_ready.1 af
  by_cases e':j=k
  · subst e'
    rw[jg] at aD;cases aD;exact getD_set_true (dL e he aa)
  · refine getD_set_true (hd k o ?_ aD e he aa)
    have:(listed.setIfInBounds j true).getD k false=listed.getD k false:=by simp[CD e']
    rwa [this] at ae
theorem X0{K:aB→Prop}{i:Nat}{b:Bool}{e:cC}(hi:ops[i]?=some bA):∀(fS:Nat) (listed:Array Bool) (s:aB),
      (∀j bG,ops[j]?=some bG→j≠i→listed.getD j true=false→(∀e∈bG.after,Region.binds md e=true→e.on≠i)→waits md ops 4 j i=false→bA.apart ops bG=true∧qP ops listed bA bG s) →
      Down md ops listed→i∈Region.ready md ops listed→s.bM→want ops bA s=some b→fa P s.n s.look s.mem bA b e→(∀d,bA.dst=some d→d<s.n) →
      wh P md ops K fS (listed.setIfInBounds i true) (e.on bA.dst s)→wh P md ops K (fS+1) listed s:=by
  intro fS
  induction fS with
  | zero =>
    intro listed s _ et ao ok hw he hd H;refine⟨fun h=>(by rw[h] at ao;cases ao),fun j af bG jg => ?_⟩
    by_cases gW:j=i
    · subst gW;rw[hi] at jg;cases jg;exact⟨b,hw,e,he,hd,H⟩
    · have:=ready_mono af gW
      rw[H.1] at this;cases this
  | succ fS cf =>
    intro listed s hZ et ao ok hw he hd H;refine⟨fun h=>(by rw[h] at ao;cases ao),fun j af bG jg => ?_⟩
    by_cases gW:j=i
    · subst gW;rw[hi] at jg;cases jg;exact⟨b,hw,e,he,hd,H⟩
    · have h1:=H.2 j (ready_mono af gW) bG jg
      obtain⟨wS,ahe,BC,dL⟩:=mem_ready.1 af;rw[jg] at BC;cases BC
      have tD:∀e∈bG.after,Region.binds md e=true→e.on≠i:=fun e he aa gw=>by
        have h1:=dL e he aa;have aE:=(mem_ready.1 ao).1;rw[gw] at h1;rcases ia i listed.size with aJ|aJ
        · simp[aJ] at aE h1;rw[aE] at h1;cases h1
        · simp[zi aJ] at h1
      have mo:waits md ops 4 j i=false:=by
        cases tJ:waits md ops 4 j i with
        | false=>rfl
        | true =>
          have h1:=zI et 4 j i bG jg dL tJ;have aE:=(mem_ready.1 ao).1;rcases ia i listed.size with aJ|aJ
          · simp[aJ] at aE h1;rw[aE] at h1;cases h1
          · simp[zi aJ] at h1
      obtain⟨g1,g2⟩:=hZ j bG jg gW wS tD mo;have h2:=X2 ok hw he hd g1 g2.sep h1;refine Nw (fun t ar => ?_) h2;obtain⟨⟨f,rfl⟩,ar⟩:=ar
      have JO:∀k ok,ops[k]?=some ok→k≠i→(listed.setIfInBounds j true).getD k true=false →
          (∀e∈ok.after,Region.binds md e=true→e.on≠i)→waits md ops 4 k i=false→bA.apart ops ok=true∧qP ops (listed.setIfInBounds j true) bA ok (f.on bG.dst s):=fun k ok ae jf h6 lr Kx=>by
        have vj:listed.getD k true=false:=by
          by_cases kw:j=k
          · subst kw;exact wS
          · rwa [getD_set_ne true kw] at h6
        obtain⟨q1,q2⟩:=hZ k ok ae jf vj lr Kx;exact⟨q1,q2.on jg wS⟩
      refine cf (listed.setIfInBounds j true) _ JO (et.set af) (ready_mono ao (Ne.symm gW)) ar.1.2.2.2 ar.1.1 ar.1.2.1 ar.1.2.2.1 ?_;rw[Array.setIfInBounds_comm _ _ gW];exact ar.2
def bm(P:Program)(ops:Array Oper)(K:aB→Prop):List Oper→aB→Prop
  | [],s=>K s
  | o::rest,s=>ta P ops o (bm P ops K rest) s
def LB(x y:Oper):Option (Nat×Nat) :=
  match addrOf x,addrOf y with
  | some (.tmp t),some (.tmp u)=>some (t,u)
  | _,_=>none
def ql(ops:Array Oper)(listed:Array Bool)(t:Nat):Bool:=(List.range ops.size).all fun j=>listed.getD j true||match ops[j]? with
  | some o=>o.dst != some t
  | none=>true
def nP(s:aB)(p:Nat×Nat):Bool :=
  match s.tmps p.1,s.tmps p.2 with
  | some x,some y=>Aw x y
  | _,_=>false
def F4(md:Region.Mode)(ops:Array Oper)(prs:List (Nat×Nat))(listed:Array Bool)(i:Nat):Bool :=
  match ops[i]? with
  | none=>false
  | some bA=>(List.range ops.size).all fun j=>j==i||listed.getD j true||match ops[j]? with
      | some bG=>xb bA bG||waits md ops 4 j i||match LB bA bG with
        | some (t,u)=>prs.contains (t,u)&&ql ops listed t&&ql ops listed u
        | none=>false
      | none=>true
theorem Gd{listed:Array Bool}{t:Nat}(h:ql ops listed t=true)(j:Nat)(o:Oper)(aD:ops[j]?=some o)(h6:listed.getD j true=false):o.dst≠some t:=by
  unfold ql at h;simp only[bZ,nN] at h;have:=h j (h9.1 aD).1;simp only[aD,h6,Bool.false_or,bne_iff_ne,ne_eq] at this;exact this
theorem R8{i:Nat}{prs:List (Nat×Nat)}{listed:Array Bool}(hi:ops[i]?=some bA)(h:F4 md ops prs listed i=true)(hs:∀p∈prs,ql ops listed p.1=true→ql ops listed p.2=true→nP s p=true)(j:Nat)(bG:Oper)
    (af:ops[j]?=some bG) (cA:j≠i) (h6:listed.getD j true=false) (lr:waits md ops 4 j i=false):qP ops listed bA bG s:=by
  simp only[F4,hi,bZ,nN] at h;have h1:=h j (h9.1 af).1;simp only[af,pA,beq_iff_eq,cA,false_or,h6,pz] at h1;rcases h1 with (h1|h1)|h1
  · exact .inl h1
  · rw[lr] at h1;cases h1
  · split at h1
    · rename_i t u hp
      simp only[eg] at h1;obtain⟨⟨c1,c2⟩,jc⟩:=h1;have lS:=hs (t,u) (by simpa using c1) c2 jc;unfold LB at hp
      split at hp
      · rename_i l0 rH aH aN
        cases hp;unfold nP at lS
        split at lS
        · rename_i o fJ q1 q2
          exact .inr ⟨t,u,o,fJ,aH,aN,q1,q2,lS,fun fi fU h4 vj=>⟨Gd c2 fi fU h4 vj,Gd jc fi fU h4 vj⟩⟩
        · cases lS
      · cases hp
    · cases h1
def w9(md:Region.Mode)(ops:Array Oper)(prs:List (Nat×Nat)):List Nat→Array Bool→Bool
  | [],listed=>(Region.ready md ops listed).isEmpty
  | k::ord,listed=>(Region.ready md ops listed).contains k&&Region.free md ops listed k&&F4 md ops prs listed k&&w9 md ops prs ord (listed.setIfInBounds k true)
def getAll(l:List Oper):List Nat→Option (List Oper)
  | []=>some []
  | i::ord=>match l[i]?,getAll l ord with
    | some o,some r=>some (o::r)
    | _,_=>none
theorem EP{l:List Oper}:∀(ord:List Nat) (r:List Oper),getAll l ord=some r→r.length=ord.length∧∀(j:Nat),r[j]?=(ord[j]?).bind (l[·]?)
  | [],r,h=>by cases h;exact⟨rfl,fun j=>by simp⟩
  | i::ord,r,h=>by
    simp only[getAll] at h
    split at h
    · rename_i o bb aD ao
      cases h;obtain⟨h1,h2⟩:=EP ord bb ao;refine⟨by simp[h1],fun j => ?_⟩;cases j with
      | zero=>simp[aD]
      | succ j=>simpa using h2 j
    · cases h
theorem Nu{K:aB→Prop}:∀(l:List Oper) (s:aB),bm P ops K l s→∃s',K s'∧∀t,(∀o∈l,o.dst≠some t)→s'.tmps t=s.tmps t
  | [],s,h=>⟨s,h,fun _ _=>rfl⟩
  | o::l,s,⟨b,hw,e,he,hd,fc⟩=>by
    obtain⟨s',h1,h2⟩:=Nu l _ fc;exact⟨s',h1,fun t aC=>(h2 t fun fU h4=>aC fU (by simp[h4])).trans (cC.zc (aC o (by simp)))⟩
theorem DP{K:aB→Prop}{prs:List (Nat×Nat)}:∀(ord:List Nat) (l:List Oper) (listed:Array Bool) (s:aB),l.length=ord.length→(∀(j:Nat),l[j]?=(ord[j]?).bind (ops[·]?))→(∀k∈ord,listed.getD k true=false)→(∀k,k<ops.size→listed.getD k true=false→k∈ord)→ord.Nodup→Down md ops listed→s.bM →
    w9 md ops prs ord listed=true→bm P ops (fun s=>prs.all (nP s)=true∧K s) l s→wh P md ops K l.length listed s
  | [],[],_,_,_,_,_,_,_,_,_,cX,h=>⟨by simpa [w9] using cX,h.2⟩
  | [],_::_,_,_,hlen,_,_,_,_,_,_,_,_=>by cases hlen
  | _::_,[],_,_,hlen,_,_,_,_,_,_,_,_=>by cases hlen
  | k::ord,o::l,listed,s,hlen,al,h6,JM,h3,et,ok,cX,h=>by
    have aE:ops[k]?=some o:=by simpa using (al 0).symm
    have pp:=Nu _ _ h;simp only[w9,eg] at cX;obtain⟨⟨⟨ao,aw⟩,hm⟩,Jn⟩:=cX;obtain⟨b,hw,e,he,hd,fc⟩:=h
    have hs:∀p∈prs,ql ops listed p.1=true→ql ops listed p.2=true→nP s p=true:=fun p hp fI gD=>by
      obtain⟨s',⟨h1,_⟩,h2⟩:=pp
      have gM:∀t,ql ops listed t=true→∀fU∈o::l,fU.dst≠some t:=fun t aC fU h4=>by
        obtain⟨j,af⟩:=kF h4;rw[al j] at af;cases aj:(k::ord)[j]? with
        | none=>rw[aj] at af;cases af
        | some q=>rw[aj] at af;exact Gd aC q fU af (h6 _ (cM aj))
      have:=bZ.1 h1 p hp;unfold nP at this ⊢;rw[h2 p.1 (gM _ fI),h2 p.2 (gM _ gD)] at this;exact this
    rw[List.nodup_cons] at h3;have cA:∀q∈ord,k≠q:=fun q aj e=>h3.1 (by rw[e];exact aj);refine X0 aE l.length listed s (fun j bG h1 h2 ar aK bX=>⟨Region.free_spec aE aw j bG h1 h2 ar aK,R8 aE hm hs j bG h1 h2 ar bX⟩) et (by simpa using ao) ok hw he hd ?_;refine DP ord l _ _ (by simpa using hlen) (fun j=>by simpa using al (j+1)) (fun q aj=>by rw[getD_set_ne true (cA q aj)];exact h6 q (by simp[aj])) (fun q aj wV => ?_) h3.2 (et.set (by simpa using ao)) (AO ok he hd) Jn fc
    by_cases e':k=q
    · subst e'
      have:k<listed.size:=by
        have:=h6 k (by simp);rcases ia k listed.size with aJ|aJ
        · exact aJ
        · simp[zi aJ] at this
      simp[this] at wV
    · rw[getD_set_ne true e'] at wV
      rcases fg.1 (JM q aj wV) with aJ|aJ
      · exact absurd aJ.symm e'
      · exact aJ
def xf(ops:Array Oper)(ord:List Nat):List (Nat×Nat) :=
  match ord with
  | []=>[]
  | i::rest=>(match ops[i]? with
    | some bA=>bif nH bA != 0 then rest.filterMap fun j=>match ops[j]? with
        | some bG=>bif xb bA bG||waits .any ops 4 j i then none else LB bA bG
        | none=>none
      else []
    | none=>[])++xf ops rest
def early(o:Oper):Bool:=(match o.op with | .alloc _=>true|_=>false)&&o.after.isEmpty&&o.guard.isNone
def mw(l:List Oper):List Nat:=((List.range l.length).filter fun i=>match l[i]? with|some o=>early o|none=>false)++(List.range l.length).filter fun i=>match l[i]? with|some o => !early o|none=>false
def fz(P:Program)(c:Code)(Q:Exit→aB→Prop)(s:aB):Prop :=
  s.bM→∀B A ad a w,Rel B A s ad a w→k8 P c (fun e a' w'=>∃s' aV,s'.bM∧Rel B A s' aV a' w'∧Q e s') a w
def y4:List Nat→Bool
  | []=>true
  | x::xs => !xs.contains x&&y4 xs
theorem F9:∀(l:List Nat),y4 l=true→l.Nodup
  | [],_=>List.nodup_nil
  | x::xs,h=>by
    simp only[y4,eg,ua,List.contains_eq_mem,kG] at h;exact List.nodup_cons.2 ⟨h.1,F9 xs h.2⟩
def OO(l:List Oper):Bool:=Nat.beq (mw l).length l.length&&y4 (mw l)&&(List.range l.length).all (fun i=>(mw l).contains i)&&(mw l).all (fun i=>Nat.blt i l.length)&&w9 .any l.toArray (xf l.toArray (mw l)) (mw l) (Array.replicate l.length false)
theorem N4{id:Nat}{l ho:List Oper}{Q:Exit→aB→Prop}(hm:P.follows .mixedOrders=true)(cX:OO l=true)(al:getAll l (mw l)=some ho)
    (h:bm P l.toArray (fun s=>(xf l.toArray (mw l)).all (nP s)=true∧Q .normal s) ho s):fz P (.region id l.toArray true) Q s:=by
  intro ok B A ad a w an;refine V6 hm fun ro => ?_;unfold OO at cX;simp only[eg,bZ,nN,List.contains_eq_mem,cT] at cX;obtain⟨⟨⟨⟨jb,b1⟩,b2⟩,dK⟩,df⟩:=cX;obtain⟨g1,g2⟩:=EP _ _ al;have hd:Rel B A s ad a {w with drawn:=w.drawn+1}:=an.call ((Below.refl _ w).drew);refine HZ (K:=Q .normal) (fun s' aV a' w' bU bu ae=>⟨s',aV,bU,bu,ae⟩) _ _ s ad a _ ok hd ?_;have nd:=F9 _ b1;have hlen:(mw l).length=l.length:=gn jb;have:=DP (md := .any) (ops:=l.toArray) (mw l) ho (Array.replicate l.length false) s g1 (by simpa using g2) (fun q aj=>by have:=dK q aj;simp[lz] at this;simp[this]) (fun q aj _=>b2 q (by simpa using aj)) nd (fun k o ae=>by exfalso;rcases ia k l.length with q|q <;> simp[Array.getElem?_replicate,q] at ae) ok df h;rw[g1,hlen] at this;simpa using this
theorem Nv{ro:Option Nat}{K:aB→Prop}{Q:Exit→Act→World→Prop}(nv:∀s' aV a' w',s'.bM→Rel B A s' aV a' w'→K s'→Q .normal a' w'):∀(l:List Oper) (k:Nat) (s:aB) (ad:Nat→Nat) (a:Act) (w:World),(∀(j:Nat),l[j]?=ops[k+j]?)→s.bM→Rel B A s ad a w →
    bm P ops K l s→wpOpsIn (ma ro) 0 P ops Q ((List.range l.length).map (k + ·)) a w
  | [],_,_,_,_,_,_,ok,an,h=>nv _ _ _ _ ok an h
  | o::l,k,s,ad,a,w,al,ok,an,h=>by
    have aE:ops[k]?=some o:=by simpa using (al 0).symm
    have e:(List.range (o::l).length).map (k + ·)=k::(List.range l.length).map (k+1 + ·):=by
      rw[hb,List.range_succ_eq_map,hO,List.map_map];congr 1;apply nM;intro j _;simp[ox,oy 1 j]
    rw[e,wpOpsIn_cons];refine DR aE ok an h fun s' aV a' w' bU bu ae=>Nv nv l (k+1) s' aV a' w' (fun j=>by have:=al (j+1);simpa [ox,oy 1 j] using this) bU bu ae
theorem Ii{id:Nat}{l:List Oper}{Q:Exit→aB→Prop}(h:bm P l.toArray (Q .normal) l s):fz P (.region id l.toArray false) Q s:=by
  intro ok B A ad a w an;refine V5 fun ro => ?_;have:=Nv (ro:=ro) (ops:=l.toArray) (K:=Q .normal) (Q:=fun e a' w'=>∃s' aV,s'.bM∧Rel B A s' aV a' w'∧Q e s') (fun s' aV a' w' bU bu ae=>⟨s',aV,bU,bu,ae⟩) l 0 s ad a w (by simp) ok an h;simpa using this
end
section
variable{P:Program}{B:cU}{A:Nat→Prop}{s s1 s2 s':aB}{ad:Nat→Nat}{a:Act}{w:World}{Q:Exit→aB→Prop}{x y:Code}
def tc(next:aB→Prop)(Q:Exit→aB→Prop):Exit→aB→Prop
  | .normal,s=>next s
  | e,s=>Q e s
theorem N5(h:fz P x (tc (fun s'=>fz P y Q s') Q) s):fz P (.seq x y) Q s:=by
  intro ok B A ad a w an;refine V8 (rM (h ok B A ad a w an) ?_);rintro e a' w' ⟨s',aV,bU,bu,aj⟩;cases e <;> first|exact aj bU B A aV a' w' bu|exact⟨s',aV,bU,bu,aj⟩
theorem Ik(h:Q .normal s):fz P .skip Q s:=fun ok B A ad a w an=>V9 ⟨s,ad,ok,an,h⟩
theorem N2{id:Nat}(h:Q (.exit id) s):fz P (.exit id) Q s:=fun ok B A ad a w an=>V3 ⟨s,ad,ok,an,h⟩
theorem Ij(h:Q .ret s):fz P .ret Q s:=fun ok B A ad a w an=>V7 ⟨s,ad,ok,an,h⟩
theorem NX{c:Operand}{t:Bool}(ak:s.look c=some (.w (.one (.c (.bool t)))))(h1:t=true→fz P x Q s)(aE:t=false→fz P y Q s):fz P (.cond c x y) Q s:=by
  intro ok B A ad a w an;have hv:a.eval c = .bool t:=(an.look ak).1;refine V2 hv ?_;cases t with
  | true=>exact h1 rfl ok B A ad a w an
  | false=>exact aE rfl ok B A ad a w an
theorem N1{c:Operand}(ak:s.look c=some (.w (.one (.c (.bool true)))))(h1:fz P x Q s):fz P (.cond c x y) Q s:=NX ak (fun _=>h1) (fun e=>by cases e)
theorem N0{c:Operand}(ak:s.look c=some (.w (.one (.c (.bool false)))))(aE:fz P y Q s):fz P (.cond c x y) Q s:=NX ak (fun e=>by cases e) (fun _=>aE)
def x7(id:Nat)(Q:Exit→aB→Prop):Exit→aB→Prop
  | .exit iz,s=>bif Nat.beq iz id then Q .normal s else Q (.exit iz) s
  | e,s=>Q e s
theorem Zg{id:Nat}(h:fz P x (x7 id Q) s):fz P (.block id x) Q s:=by
  intro ok B A ad a w an;refine V1 (rM (h ok B A ad a w an) ?_);rintro e a' w' ⟨s',aV,bU,bu,aj⟩;cases e with
  | exit iz =>
    simp only[Exit.inBlock];simp only[x7] at aj;cases aa:Nat.beq iz id with
    | true=>rw[aa] at aj;rw[if_pos (gn aa)];exact⟨s',aV,bU,bu,aj⟩
    | false =>
      rw[aa] at aj;have:iz≠id:=fun e=>by subst e;rw[qv] at aa;cases aa
      rw[if_neg this];exact⟨s',aV,bU,bu,aj⟩
  | _=>exact⟨s',aV,bU,bu,aj⟩
structure aB.aU (s s':aB):Prop where
  n:s'.n=s.n
  dq:∀t av,s'.tmps t=some av→s.tmps t=some av
  c3:∀k cs,s'.mem k=some cs→s.mem k=some cs
theorem Rel.le(h:Rel B A s ad a w)(l:s.aU s'):Rel B A s' ad a w:=by
  have aw:∀b,s.free A ad b→b<w.heap.size→s'.free A ad b∧w.heap[b]?=w.heap[b]?:=fun b aa _=>⟨⟨aa.1,fun k cs ae=>aa.2 k cs (l.c3 k cs ae)⟩,rfl⟩;refine⟨h.kD,by rw[l.n];exact h.size,fun t av aC => ?_,fun k cs ae => ?_,fun k k' c c' ae eD e=>h.inj k k' c c' (l.c3 _ _ ae) (l.c3 _ _ eD) e,h.below,h.up,fun k b ae=>by rw[l.n];exact h.fP k b ae⟩
  · obtain⟨v,h1,h2⟩:=h.dq t av (l.dq t av aC)
    exact⟨v,h1,h2.map aw fun _ _=>rfl⟩
  · obtain⟨vs,ty,h1,h2,ar⟩:=h.c3 k cs (l.c3 k cs ae)
    exact⟨vs,ty,h1,h2.map aw fun _ _ _ _=>rfl,ar⟩
theorem V4{c:Code}{Q:Exit→Act→World→Prop}(I:Nat→Act→World→Prop){n:Nat}(h₀:I n a w)
    (round:∀n a w,I n a w→k8 P c (Exit.then (fun a' w'=>∃m,m<n∧I m a' w') Q) a w):k8 P (Code.loop c) Q a w:=by
  intro ro b k cs gY aa j8
  have key:∀n a w,I n a w →
      ∃e a' w',Q e a' w'∧ArrivesIn (Machine.fenced P (ma ro)) P (lone (b.atR a (.code c :: .inLoop c::k)) cs w) b k cs e a' w':=by
    intro n
    induction n using Nat.strongRecOn with
    | _ n cf =>
      intro a w bf;obtain⟨e,pd,pL,aj,mP⟩:=round n a w bf ro b (.inLoop c::k) cs gY aa j8;cases e with
      | normal =>
        obtain⟨m,a8,Jr⟩:=aj;obtain⟨I0,Il,MM,Kk,JC⟩:=cf m a8 pd pL Jr;exact⟨I0,Il,MM,Kk,.of_steps (StepsIn.trans mP (.one (fenced_calm aa j8 rfl) stepR_inLoop)) JC⟩
      | exit id=>exact⟨_,pd,pL,aj,.pass (x := .inLoop c) rfl (fun _ _ => .inl (by simp)) mP⟩
      | goto l=>exact⟨_,pd,pL,aj,.pass (x := .inLoop c) rfl (fun _ _ => .inl (by simp)) mP⟩
      | ret=>exact⟨_,pd,pL,aj,.pass (x := .inLoop c) rfl (fun _ _ => .inl (by simp)) mP⟩
      | panic ch=>exact⟨_,pd,pL,aj,.pass (x := .inLoop c) rfl (fun _ _ => .inl (by simp)) mP⟩
      | outgrown=>exact⟨_,pd,pL,aj,.pass (x := .inLoop c) rfl (fun _ _ => .inl (by simp)) mP⟩
  obtain⟨e,a',w',aj,mP⟩:=key _ a w h₀;exact⟨e,a',w',aj,.of_steps (.one (fenced_calm aa j8 rfl) stepR_loop) mP⟩
theorem N3(I:Nat→aB→Prop)(n:Nat)(eA:aB)(mr:s.aU eA)(ahf:eA.bM)(aE:I n eA)
    (round:∀n s,I n s→fz P x (tc (fun s'=>∃m,m<n∧∃CV,s'.aU CV∧CV.bM∧I m CV) Q) s):fz P (.loop x) Q s:=by
  intro ok B A ad a w an;refine V4 (fun n a w=>∃s ad,s.bM∧Rel B A s ad a w∧I n s) ⟨eA,ad,ahf,an.le mr,aE⟩ ?_;rintro n a w ⟨s,ad,ok,an,bf⟩;refine rM (round n s bf ok B A ad a w an) ?_;rintro e a' w' ⟨s',aV,bU,bu,aj⟩;cases e with
  | normal =>
    obtain⟨m,hm,CV,al,xk,cd⟩:=aj;exact⟨m,hm,CV,aV,xk,bu.le al,cd⟩
  | _=>exact⟨s',aV,bU,bu,aj⟩
def ag.aU(x y:ag):Prop:=∀U ad W v,cS U ad W x v→cS U ad W y v
theorem ag.aU.refl(x:ag):x.aU x:=fun _ _ _ _ h=>h
theorem ag.aU.of_eq{x y:ag}(h:x=y):x.aU y:=by subst h;exact .refl x
def gO(P:Program)(s:aB):ResultVar→Option bF
  | .tmp t=>match s.tmps t with
    | some (.w x)=>some x
    | _=>none
  | .cell a ty=>match s.tmps a with
    | some (.w (.one (.own k off)))=>(s.mem k).bind (pick P ty · off)
    | _=>none
def packed:List bF→ag
  | [x] => .w x
  | xs => .ck xs
def wo(P:Program)(fn:Func)(r:ag):Exit→aB→Prop
  | .normal,s | .ret,s=>∃xs,fn.results.toList.map (gO P s)=xs.map some∧(packed xs).aU r
  | _,_=>False
theorem UX{α:Type}{f:α→Sem Value}:∀(l:List α) (vs:List Value),l.length=vs.length→(∀(i:Nat) x v,l[i]?=some x→vs[i]?=some v→(f x).run P w = .ok v w)→(l.mapM f).run P w = .ok vs w
  | [],[],_,_=>rfl
  | [],_::_,h,_=>by cases h
  | _::_,[],h,_=>by cases h
  | x::l,v::vs,al,h=>by
    have aE:=h 0 x v rfl rfl;have cf:=UX l vs (by simpa using al) (fun i x v ab hv=>h (i+1) x v (by simpa using ab) (by simpa using hv));rw[List.mapM_cons];simp only[Sem.run_bind,aE,Result.andThen_ok,cf];rfl
def CG(a:Act):ResultVar→Sem Value
  | .tmp t=>pure (a.tmps.getD t undef)
  | .cell b t=>do loadVar t (←asAddr (a.tmps.getD b undef))
theorem ajI(fn:Func)(a:Act):results fn a.tmps=(do let vs ←fn.results.mapM (CG a);pure (if h:vs.size=1 then vs[0] else .tuple vs)):=rfl
theorem ajH{v:ResultVar}{z:bF}(an:Rel B A s ad a w)(h:gO P s v=some z):∃u,(CG a v).run P w = .ok u w∧gT (s.free A ad) ad w z u:=by
  cases v with
  | tmp t =>
    simp only[gO] at h
    split at h
    · rename_i x ab
      cases h;obtain⟨v,h1,h2⟩:=an.dq t _ ab;refine⟨v,?_,h2⟩;simp[CG,Array.getD_eq_getD_getElem?,h1]
    · cases h
  | cell b ty =>
    simp only[gO] at h
    split at h
    · rename_i k off ab
      cases hm:s.mem k with
      | none=>rw[hm] at h;cases h
      | some cs =>
        rw[hm] at h;obtain⟨vs,t,g1,g2,g3⟩:=an.c3 k cs hm;obtain⟨u,h1,h2⟩:=TG h g1 g2;obtain⟨p,q1,q2⟩:=an.dq b _ ab;cases q2;refine⟨u,?_,h2⟩;simp only[CG,Array.getD_eq_getD_getElem?,q1,Option.getD_some,asAddr,Sem.run_bind,Sem.run_pure,Result.andThen_ok,h1]
    · cases h
theorem CI{fn:Func}{xs:List bF}(an:Rel B A s ad a w)(h:fn.results.toList.map (gO P s)=xs.map some):∃v,(results fn a.tmps).run P w = .ok v w∧cS (s.free A ad) ad w (packed xs) v:=by
  have key:∀(l:List ResultVar) (xs:List bF),l.map (gO P s)=xs.map some→∃vs:List Value,vs.length=xs.length∧l.length=vs.length∧(∀(i:Nat) r u,l[i]?=some r→vs[i]?=some u→(CG a r).run P w = .ok u w)∧∀(i:Nat) x u,xs[i]?=some x→vs[i]?=some u→gT (s.free A ad) ad w x u:=by
    intro l
    induction l with
    | nil=>intro xs h;cases xs with
      | nil=>exact⟨[],rfl,rfl,fun i r u h=>by simp at h,fun i x u h=>by simp at h⟩
      | cons=>cases h
    | cons r l cf =>
      intro xs h;cases xs with
      | nil=>cases h
      | cons x xs =>
        simp only[hO,List.cons.injEq] at h;obtain⟨vs,aH,aN,b6,eb⟩:=cf xs h.2;obtain⟨u,q1,q2⟩:=ajH an h.1;refine⟨u::vs,by simp[aH],by simp[aN],fun i bb rH h1 h2 => ?_,fun i x' rH h1 h2 => ?_⟩
        · cases i with
          | zero=>simp at h1 h2;subst h1;subst h2;exact q1
          | succ i=>exact b6 i bb rH (by simpa using h1) (by simpa using h2)
        · cases i with
          | zero=>simp at h1 h2;subst h1;subst h2;exact q2
          | succ i=>exact eb i x' rH (by simpa using h1) (by simpa using h2)
  obtain⟨vs,aH,aN,b6,eb⟩:=key _ _ h;have hm:=UX (P:=P) (w:=w) _ vs aN b6
  have fe:(results fn a.tmps).run P w = .ok (if h:vs.toArray.size=1 then vs.toArray[0] else .tuple vs.toArray) w:=by
    rw[ajI,Array.mapM_eq_mapM_toList];simp only[map_eq_pure_bind,bind_assoc,Sem.run_bind];rw[hm];simp only[Result.andThen_ok,Sem.run_bind,Sem.run_pure]
  refine⟨_,fe,?_⟩
  match vs,xs,aH,eb with
  | [],[],_,_=>exact⟨[],rfl,rfl,fun i x v h=>by simp at h⟩
  | [v],[x],_,eb=>exact eb 0 x v rfl rfl
  | v1::v2::vs,dd::dj::xs,aH,eb =>
    rw[dif_neg (by simp)];exact⟨v1::v2::vs,rfl,aH.symm,eb⟩
def start(n:Nat)(args:List ag):aB:=⟨n,fun t=>args[t]?,fun _=>none⟩
def ux(P:Program)(c:Code)(Q:Exit→aB→Prop)(s:aB):Prop :=
  s.bM→∀W A ad a w,Rel (cU.all W) A s ad a w→c.wp P (fun e a' w'=>∃s' aV,s'.bM∧Rel (cU.all W) A s' aV a' w'∧Q e s') a w
theorem TF{f:FuncId}{fn:Func}{c:Code}{args:List ag}{r:ag}(aw:P.funcs[f]?=some fn)(aa:fn.body=some c)(aA:args.length≤fn.ntmps)(fA:∀x∈args,x.closed)(cq:r.closed)
    (h:ux P c (wo P fn r) (start fn.ntmps args)):aO P f args r:=by
  refine⟨fA,cq,fun U W vs cO => ?_⟩;have al:=cO.1
 
  refine calls_of_wp aw aa ?_;have ok:(start fn.ntmps args).bM:=⟨fun t av j aC af=>absurd af (fA av (cM aC) j),fun k cs x j ae=>by cases ae⟩
  have an:Rel (cU.all W) (fun b=>U b∨W.heap.size≤b) (start fn.ntmps args) id {tmps:=vs.toArray++Array.replicate (fn.ntmps-vs.toArray.size) undef,defers:=[]} W:=by
    refine⟨rfl,by simp[start];omega,fun t av aC => ?_,(fun k cs ae=>by cases ae),(fun k k' cs ay ae=>by cases ae),eR.refl (cU.all W),fun b aa => .inr aa,fun k b ae=>(by cases ae)⟩;have a8:t<vs.length:=by rw[←al];exact(bq.1 aC).1
    refine⟨vs[t],by simp[Array.getElem?_append,a8],?_⟩;exact(cO.2 t av _ aC (bB a8)).map (fun b aa _=>⟨⟨.inl aa,fun k cs ae=>by cases ae⟩,rfl⟩) fun _ _=>rfl
  refine wp_mono (h ok W _ id _ W an) ?_;rintro e a' w' ⟨s',aV,bU,bu,aj⟩
  have fin:(∃xs,fn.results.toList.map (gO P s')=xs.map some∧(packed xs).aU r)→a'.defers=[]∧∃v,(results fn a'.tmps).run P w' = .ok v w'∧∃u,Ending.returned v = .returned u∧cS (fun b=>U b∨W.heap.size≤b) id w' r u∧Below W.heap.size W w':=by
    rintro⟨xs,h1,h2⟩;obtain⟨v,q1,q2⟩:=CI bu h1;exact⟨bu.kD,v,q1,v,rfl,(h2 _ _ _ _ q2).map (fun b aa _=>⟨aa.1,rfl⟩) fun j af=>absurd af (cq j),bu.below.all⟩
  cases e with
  | normal=>exact fin aj
  | ret=>exact fin aj
  | _=>exact aj.elim
theorem ai8{f:FuncId}{fn:Func}{c:Code}{args:List ag}{r:ag}(aw:P.funcs[f]?=some fn)(aa:fn.body=some c)(aA:args.length≤fn.ntmps)(fA:∀x∈args,x.closed)(cq:r.closed)
    (h:fz P c (wo P fn r) (start fn.ntmps args)):aO P f args r :=
  TF aw aa aA fA cq fun ok W A ad a w an=>(h ok (cU.all W) A ad a w an).top
end
def nI(P:Program)(c:Code)(Q:Exit→Act→World→Prop)(a:Act)(w:World):Prop :=
 ∀(b:Frame) (k:List Item) (cs:List Frame),b.kind = .normal→∃e a' w',Q e a' w'∧Arrives P (lone (b.at a (.code c::k)) cs w) b k cs e a' w'
section
variable{P:Program}{Q Ad:Exit→Act→World→Prop}{a:Act}{w:World}{c x y:Code}
theorem Sm(h:c.wp P Q a w):nI P c Q a w:=fun b k cs _=>h b k cs
theorem xe(h:nI P c Q a w)(aj:∀e a w,Q e a w→Ad e a w):nI P c Ad a w:=fun b k cs aa=>by
 obtain⟨e,a1,w1,g,r⟩:=h b k cs aa;exact⟨e,a1,w1,aj e a1 w1 g,r⟩
theorem VK{next:Act→World→Prop}{e:Exit}(he:e ≠ .normal):Exit.then next Q e a w=Q e a w:=by
 cases e <;> first|rfl|exact absurd rfl he
theorem agL(h:nI P x (Exit.then (nI P y Q) Q) a w):nI P (.seq x y) Q a w:=fun b k cs aa=>by
 obtain⟨e,a1,w1,g,r⟩:=h b (.code y::k) cs aa
 by_cases he:e = .normal
 ·subst he;obtain⟨aN,a2,w2,g2,dQ⟩:=g b k cs aa;exact⟨aN,a2,w2,g2,dQ.of_steps (Steps.head step_seq r)⟩
 ·rw[VK he] at g;exact⟨e,a1,w1,g,(r.pass (x := .code y) rfl fun _ _ => .inl he).of_steps (.one step_seq)⟩
theorem agI{o:Operand}{t:Bool}(ak:a.eval o = .bool t)(h:nI P (if t then x else y) Q a w):nI P (.cond o x y) Q a w:=fun b k cs aa=>by
 obtain⟨e,a1,w1,g,r⟩:=h b k cs aa;exact⟨e,a1,w1,g,r.of_steps (.one (step_cond ak))⟩
theorem agH{id:Nat}(h:nI P c (Exit.inBlock id Q) a w):nI P (.block id c) Q a w:=fun b k cs aa=>by
 obtain⟨e,a1,w1,g,r⟩:=h b (.inBlock id::k) cs aa;have cp:=r.of_steps (.one (step_block (P:=P) (b:=b) (a:=a) (k:=k) (cs:=cs) (w:=w) (id:=id) (c:=c)));cases e with
 | normal=>exact⟨.normal,a1,w1,g,Steps.trans cp (.one step_inBlock)⟩
 | exit j =>
  by_cases q:j=id
  ·subst q;have cZ:Q .normal a1 w1:=by simpa [Exit.inBlock] using g
   exact⟨.normal,a1,w1,cZ,cp k (by simp[exitTo])⟩
  ·have cZ:Q (.exit j) a1 w1:=by simpa [Exit.inBlock,q] using g
   refine⟨.exit j,a1,w1,cZ,fun k' ae=>cp k' ?_⟩;have:(id==j)=false:=by simpa using fun e=>q e.symm
   simp[exitTo,this,ae]
 | goto l=>exact⟨_,a1,w1,g,fun k' ae=>cp k' (by simp[gotoIn,ae])⟩
 | ret=>exact⟨_,a1,w1,g,cp⟩
 | panic ch=>exact⟨_,a1,w1,g,cp⟩
 | outgrown=>exact⟨.outgrown,a1,w1,g,cp⟩
theorem agJ(I:Nat→Act→World→Prop){n:Nat}(aE:I n a w)(round:∀n a w,I n a w→nI P c (Exit.then (fun a' w'=>∃m,m<n∧I m a' w') Q) a w):nI P (.loop c) Q a w:=fun b k cs aa=>by
 have key:∀n a w,I n a w→∃e a' w',Q e a' w'∧Arrives P (lone (b.at a (.code c :: .inLoop c::k)) cs w) b k cs e a' w':=by
  intro n
  induction n using Nat.strongRecOn with
  | _ n cf =>
   intro a w bf;obtain⟨e,a1,w1,g,r⟩:=round n a w bf b (.inLoop c::k) cs aa
   by_cases he:e = .normal
   ·subst he;obtain⟨m,hm,abY⟩:=g;obtain⟨aN,a2,w2,g2,dQ⟩:=cf m hm a1 w1 abY;exact⟨aN,a2,w2,g2,dQ.of_steps (Steps.trans r (.one step_inLoop))⟩
   ·rw[VK he] at g;exact⟨e,a1,w1,g,r.pass (x := .inLoop c) rfl fun _ _ => .inl he⟩
 obtain⟨e,a1,w1,g,r⟩:=key n a w aE;exact⟨e,a1,w1,g,r.of_steps (.one step_loop)⟩
theorem Oj{f:FuncId}{fn:Func}{args:Array Value}{R:Ending→World→Prop}(aw:P.funcs[f]?=some fn)(aa:fn.body=some c)
  (h:nI P c (bodyPost P fn R) {tmps:=args++Array.replicate (fn.ntmps-args.size) undef,defers:=[]} w):Calls P f args w R:=by
 intro cs;obtain⟨e,a1,w1,g,r⟩:=h {(default:Frame) with fn:=f,kind := .normal} [] cs rfl;rw[show ({(default:Frame) with fn:=f,kind := .normal}:Frame).at {tmps:=args++Array.replicate (fn.ntmps-args.size) undef,defers:=[]} [.code c]=Frame.enter P f args .normal by simp[Frame.enter,Frame.at,aw,aa]] at r;cases e with
 | normal =>
  obtain⟨hd,v,hv,an⟩:=g;exact⟨.returned v,w1,_,an,Steps.trans r (.one step_end),rfl,rfl,hd,rfl,fn,aw,hv⟩
 | ret =>
  obtain⟨hd,v,hv,an⟩:=g;obtain⟨todo,hs⟩:=r;exact⟨.returned v,w1,_,an,hs,rfl,rfl,hd,rfl,fn,aw,hv⟩
 | panic chain =>
  obtain⟨hd,an⟩:=g;obtain⟨todo,hs⟩:=r;exact⟨.panicked chain,w1,_,an,hs,rfl,rfl,hd,fn,aw⟩
 | outgrown=>exact⟨.outgrown,w1,{(default:Frame) with fn:=f,kind := .normal},g,r.resolve_left (by simp),rfl,trivial⟩
 | exit id=>exact g.elim
 | goto l=>exact g.elim
def rl(P:Program)(ops:Array Oper)(Q:Exit→Act→World→Prop)(l:List Nat)(a:Act)(w:World):Prop :=
 ∀(b:Frame) (k:List Item) (cs:List Frame),b.kind = .normal→∃e a' w',Q e a' w'∧Arrives P (lone (b.at a (.inRegion ops l::k)) cs w) b k cs e a' w'
theorem agK{id:Nat}{ops:Array Oper}(h:rl P ops Q (List.range ops.size) a w):nI P (.region id ops false) Q a w:=fun b k cs aa=>by
 obtain⟨e,a1,w1,g,r⟩:=h b k cs aa;exact⟨e,a1,w1,g,r.of_steps (.one step_region)⟩
theorem agF{ops:Array Oper}(h:Q .normal a w):rl P ops Q [] a w:=fun b k cs _=>⟨.normal,a,w,h,.one step_region_end⟩
theorem xd{ops:Array Oper}{i:Nat}{l:List Nat}{a1:Act}{w1:World}(hs:∀(b:Frame) (k:List Item) (cs:List Frame),b.kind = .normal→step P (lone (b.at a (.inRegion ops (i::l)::k)) cs w) = .next (lone (b.at a1 (.inRegion ops l::k)) cs w1))(h:rl P ops Q l a1 w1):rl P ops Q (i::l) a w:=fun b k cs aa=>by
 obtain⟨e,a2,w2,g,r⟩:=h b k cs aa;exact⟨e,a2,w2,g,r.of_steps (.one (hs b k cs aa))⟩
theorem Cj{ops:Array Oper}{i:Nat}{l:List Nat}{o:Oper}(aD:ops[i]?=some o)(hw:Region.wanted o (yielded ops a.tmps)=true)(h:o.wp P a w (rl P ops Q l) Q)(aj:∀a w,¬Q .outgrown a w):rl P ops Q (i::l) a w:=by
 have fin:∀(b:Frame) (k:List Item) v,(b.at a (.inRegion ops (i::l)::k)).finish v=b.at (a.put o.dst v) (.inRegion ops l::k):=fun b k v=>by rw[Frame.finish_at,aD];rfl
 have zy:=fun(b:Frame) (k:List Item) (cs:List Frame)=>stepG_op (P:=P) (b:=b) (k:=k) (cs:=cs) (w:=w) (rest:=l) aD hw;unfold Oper.wp at h;generalize ao:(execOp a.eval o).run P w=ajG at h;cases ajG with
 | halt t w1 =>
  cases t with
  | panic v=>exact fun b k cs _=>⟨_,a,w1,h,.inRegion ops (i::l)::k,.one (step_lone_go (by rw[zy,←Frame.raise_at];simp[stepG.apply,ao]))⟩
  | _=>exact h.elim
 | ok n w1 =>
  cases n with
  | value v=>exact xd (fun b k cs _=>step_lone_go (by rw[zy,←fin];simp[stepG.apply,ao])) h
  | skip=>exact xd (fun b k cs _=>step_lone_go (by rw[zy,←fin];simp[stepG.apply,ao])) h
  | defer d =>
   refine xd (fun b k cs _=>step_lone_go ?_) h
   have e:({b.at a (.inRegion ops (i::l)::k) with defers:=d::a.defers}:Frame).finish undef=b.at ({a with defers:=d::a.defers}.put o.dst undef) (.inRegion ops l::k):=by
    have:=Frame.finish_at b {a with defers:=d::a.defers} ops i l k undef;rw[aD] at this;exact this
   rw[zy];simp only[stepG.apply,Sem.runT_eq,ao,GStep.bare_after];exact congrArg (fun uW=>GStep.go {frame:=uW,callers:=cs,status := .running,dying:=none} w1) e
  | enter f args =>
   intro b k cs aa;obtain⟨e,w2,uW,an,hs,_,al⟩:=h (b.at a (.inRegion ops (i::l)::k)::cs);have he:step P (lone (b.at a (.inRegion ops (i::l)::k)) cs w) = .next (lone (Frame.enter P f args .normal) (b.at a (.inRegion ops (i::l)::k)::cs) w1):=step_lone_go (by rw[zy];simp[stepG.apply,ao,Frame.at])
   cases e with
   | returned v =>
    obtain⟨e,a3,w3,g,r⟩:=an b k cs aa;refine⟨e,a3,w3,g,r.of_steps (Steps.head he (Steps.trans hs (.one ?_)))⟩;rw[←fin];exact step_leave_returned al
   | panicked chain =>
    refine⟨.panic chain,a,w2,an,.inRegion ops (i::l)::k,Steps.head he (Steps.trans hs (.one ?_))⟩;rw[←Frame.raise_at];exact step_leave_panicked al
   | outgrown =>
    obtain⟨a0,VY,q⟩:=an;exact absurd q (aj a0 VY)
  | row row args =>
   intro b k cs aa;obtain⟨v,w2,an,hs⟩:=h (b.at a (.inRegion ops (i::l)::k)) cs;have he:step P (lone (b.at a (.inRegion ops (i::l)::k)) cs w) = .next (lone (Frame.ofRow P row args .normal) (b.at a (.inRegion ops (i::l)::k)::cs) w1):=step_lone_go (by rw[zy];simp[stepG.apply,ao,Frame.at])
   obtain⟨e,a3,w3,g,r⟩:=an b k cs aa;refine⟨e,a3,w3,g,r.of_steps (Steps.head he ?_)⟩;rw[←fin];exact hs
  | _=>exact h.elim
theorem agG{ops:Array Oper}{i:Nat}{l:List Nat}{o:Oper}(aD:ops[i]?=some o)(hw:Region.wanted o (yielded ops a.tmps)=false)(h:rl P ops Q l (a.put o.dst undef) w):rl P ops Q (i::l) a w:=by
 refine xd (fun b k cs _ => ?_) h;have:=step_op_skip (P:=P) (b:=b) (a:=a) (k:=k) (cs:=cs) (w:=w) (ops:=ops) (i:=i) (rest:=l) (by simp[aD,hw]);rw[aD] at this;exact this
end
end Go.Proofs.YtklpfooafbjnpaaGreat
