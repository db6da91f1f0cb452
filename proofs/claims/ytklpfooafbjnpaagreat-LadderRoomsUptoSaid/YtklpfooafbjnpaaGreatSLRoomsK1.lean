/-
  My own texts,without what this claim does not need. My own text.
-/
import Derived.Tactics
import Derived.IntWalk
import Derived.ProofKit
import Derived.Below
import Derived.Still
import Derived.OrdersIn
import Derived.Laws.CopyRow
import Derived.Laws.Cells
import Derived.Calls
set_option maxRecDepth 100000
set_option maxHeartbeats 64000000
set_option linter.unusedVariables false
set_option linter.unusedSimpArgs false
set_option linter.unusedSectionVars false
namespace Go.Proofs.YtklpfooafbjnpaaGreat
theorem bt:type_of% @List.getElem?_eq_some_iff := @List.getElem?_eq_some_iff
theorem bE:type_of% @List.getElem?_eq_getElem := @List.getElem?_eq_getElem
theorem b5:type_of% @decide_eq_true := @decide_eq_true
theorem b6:type_of% @List.all_eq_true := @List.all_eq_true
theorem b8:type_of% @decide_eq_false := @decide_eq_false
theorem cm:type_of% @Nat.le_of_ble_eq_true := @Nat.le_of_ble_eq_true
theorem cF:type_of% @Nat.le_refl := @Nat.le_refl
theorem cN:type_of% @List.mem_of_getElem? := @List.mem_of_getElem?
theorem cU:type_of% @decide_eq_true_eq := @decide_eq_true_eq
theorem cZ:type_of% @List.length_append := @List.length_append
theorem dq:type_of% @Nat.zero_le := @Nat.zero_le
theorem dG:type_of% @List.getElem?_map := @List.getElem?_map
theorem ea:type_of% @List.length_take := @List.length_take
theorem ef:type_of% @Bool.and_eq_true := @Bool.and_eq_true
theorem eO:type_of% @Nat.le_trans := @Nat.le_trans
theorem fi:type_of% @List.mem_cons := @List.mem_cons
theorem fI:type_of% @List.getElem?_append_left := @List.getElem?_append_left
theorem fS:type_of% @List.mem_map := @List.mem_map
theorem gl:type_of% @Nat.eq_of_beq_eq_true := @Nat.eq_of_beq_eq_true
theorem gm:type_of% @List.getElem?_take_of_lt := @List.getElem?_take_of_lt
theorem gn:type_of% @List.getElem?_append_right := @List.getElem?_append_right
theorem gp:type_of% @List.take_of_length_le := @List.take_of_length_le
theorem gD:type_of% @Option.map_some := @Option.map_some
theorem gE:type_of% @Nat.zero_lt_succ := @Nat.zero_lt_succ
theorem gR:type_of% @List.getElem?_drop := @List.getElem?_drop
theorem hz:type_of% @List.append_assoc := @List.append_assoc
theorem hA:type_of% @List.mem_cons_self := @List.mem_cons_self
theorem hP:type_of% @List.length_cons := @List.length_cons
theorem hQ:type_of% @List.map_cons := @List.map_cons
theorem hR:type_of% @Int.mul_nonneg := @Int.mul_nonneg
theorem ie:type_of% @Nat.lt_or_ge := @Nat.lt_or_ge
theorem ig:type_of% @Nat.mul_le_mul_right := @Nat.mul_le_mul_right
theorem iD:type_of% @Array.getElem?_eq_some_iff := @Array.getElem?_eq_some_iff
theorem iE:type_of% @Option.some.injEq := @Option.some.injEq
theorem iF:type_of% @Nat.zero_add := @Nat.zero_add
theorem iG:type_of% @List.length_drop := @List.length_drop
theorem ju:type_of% @Int.pow_pos := @Int.pow_pos
theorem jM:type_of% @Nat.lt_of_lt_of_le := @Nat.lt_of_lt_of_le
theorem jN:type_of% @List.length_map := @List.length_map
theorem jO:type_of% @List.mem_singleton := @List.mem_singleton
theorem jP:type_of% @List.drop_eq_getElem_cons := @List.drop_eq_getElem_cons
theorem kg:type_of% @List.mem_append := @List.mem_append
theorem kh:type_of% @List.take_append_drop := @List.take_append_drop
theorem ki:type_of% @List.pairwise_cons := @List.pairwise_cons
theorem kF:type_of% @List.getElem?_of_mem := @List.getElem?_of_mem
theorem kG:type_of% @decide_eq_false_iff_not := @decide_eq_false_iff_not
theorem kH:type_of% @Int.toNat_natCast := @Int.toNat_natCast
theorem kI:type_of% @List.all_cons := @List.all_cons
theorem kJ:type_of% @List.take_succ_eq_append_getElem := @List.take_succ_eq_append_getElem
theorem k5:type_of% @List.mem_cons_of_mem := @List.mem_cons_of_mem
theorem k6:type_of% @Int.mul_comm := @Int.mul_comm
theorem k7:type_of% @Int.mul_assoc := @Int.mul_assoc
theorem lC:type_of% @Nat.blt_eq := @Nat.blt_eq
theorem lD:type_of% @Option.some.inj := @Option.some.inj
theorem lE:type_of% @Rat.mul_nonneg := @Rat.mul_nonneg
theorem lW:type_of% @Option.bind_some := @Option.bind_some
theorem lX:type_of% @Nat.add_mul := @Nat.add_mul
theorem na:type_of% @List.eq_nil_of_length_eq_zero := @List.eq_nil_of_length_eq_zero
theorem nb:type_of% @List.append_nil := @List.append_nil
theorem nN:type_of% @List.map_congr_left := @List.map_congr_left
theorem nO:type_of% @List.mem_range := @List.mem_range
theorem nP:type_of% @List.all_nil := @List.all_nil
theorem oA:type_of% @List.mem_of_mem_drop := @List.mem_of_mem_drop
theorem oB:type_of% @Nat.add_assoc := @Nat.add_assoc
theorem oC:type_of% @Nat.add_comm := @Nat.add_comm
theorem oD:type_of% @Int.eq_ofNat_of_zero_le := @Int.eq_ofNat_of_zero_le
theorem o4:type_of% @List.mem_of_mem_take := @List.mem_of_mem_take
theorem o5:type_of% @Int.le_refl := @Int.le_refl
theorem o6:type_of% @Bool.eq_iff_iff := @Bool.eq_iff_iff
theorem o7:type_of% @Int.emod_lt_of_pos := @Int.emod_lt_of_pos
theorem o8:type_of% @Int.ediv_nonneg := @Int.ediv_nonneg
theorem pB:type_of% @Bool.false_eq_true := @Bool.false_eq_true
theorem pC:type_of% @Bool.or_eq_true := @Bool.or_eq_true
theorem pD:type_of% @List.map_nil := @List.map_nil
theorem pE:type_of% @Int.emod_nonneg := @Int.emod_nonneg
theorem pF:type_of% @Int.le_of_lt := @Int.le_of_lt
theorem pG:type_of% @Int.le_ediv_iff_mul_le := @Int.le_ediv_iff_mul_le
theorem pH:type_of% @Bool.true_and := @Bool.true_and
theorem qy:type_of% @List.getElem?_eq_none := @List.getElem?_eq_none
theorem qz:type_of% @Nat.beq_refl := @Nat.beq_refl
theorem qA:type_of% @Nat.min_eq_left := @Nat.min_eq_left
theorem qB:type_of% @Int.mul_le_mul_of_nonneg_right := @Int.mul_le_mul_of_nonneg_right
theorem qC:type_of% @Int.lt_or_le := @Int.lt_or_le
theorem rC:type_of% @Option.map_none := @Option.map_none
theorem rD:type_of% @Int.mul_ediv_add_emod := @Int.mul_ediv_add_emod
theorem rE:type_of% @List.drop_of_length_le := @List.drop_of_length_le
theorem sW:type_of% @List.mem_append_left := @List.mem_append_left
theorem sX:type_of% @List.map_append := @List.map_append
theorem sY:type_of% @List.flatMap_append := @List.flatMap_append
theorem sZ:type_of% @List.not_mem_nil := @List.not_mem_nil
theorem s0:type_of% @Int.mul_le_mul_of_nonneg_left := @Int.mul_le_mul_of_nonneg_left
theorem ul:type_of% @Bool.not_eq_true' := @Bool.not_eq_true'
theorem um:type_of% @List.foldl_cons := @List.foldl_cons
theorem uo:type_of% @List.cons_append := @List.cons_append
theorem uq:type_of% @Classical.byContradiction := @Classical.byContradiction
theorem ur:type_of% @List.nil_append := @List.nil_append
theorem uu:type_of% @Int.mul_eq_zero := @Int.mul_eq_zero
theorem uv:type_of% @Int.mul_le_mul := @Int.mul_le_mul
theorem uw:type_of% @Rat.intCast_add := @Rat.intCast_add
theorem vK:type_of% @Array.getElem?_modify := @Array.getElem?_modify
theorem vI:type_of% @decide_eq_decide := @decide_eq_decide
theorem vJ:type_of% @List.getElem?_cons_zero := @List.getElem?_cons_zero
theorem xD:type_of% @List.mem_append_right := @List.mem_append_right
theorem xE:type_of% @List.getElem?_range := @List.getElem?_range
theorem xF:type_of% @Nat.eq_zero_or_pos := @Nat.eq_zero_or_pos
theorem xG:type_of% @List.getD_eq_getElem?_getD := @List.getD_eq_getElem?_getD
theorem zu:type_of% @Array.getElem?_eq_none := @Array.getElem?_eq_none
theorem zv:type_of% @List.getElem?_cons_succ := @List.getElem?_cons_succ
theorem zw:type_of% @Int.ediv_ediv_of_nonneg := @Int.ediv_ediv_of_nonneg
theorem CO:type_of% @Array.getElem?_setIfInBounds_ne := @Array.getElem?_setIfInBounds_ne
theorem CP:type_of% @List.take_append_of_le_length := @List.take_append_of_le_length
end Go.Proofs.YtklpfooafbjnpaaGreat
namespace Go.Proofs.YtklpfooafbjnpaaGreat
theorem qW:(∀b:Bool,((!b)=true)=(b=false))∧(∀b:Bool,((!b)=false)=(b=true))∧(∀(p:Prop) [Decidable p],(decide p=true)=p)∧∀(p:Prop) [Decidable p],(decide p=false)=¬p:=⟨by simp,by simp,by simp,by simp⟩
end Go.Proofs.YtklpfooafbjnpaaGreat
namespace Go.Proofs.YtklpfooafbjnpaaGreat
structure qT (Q:Prop):Prop where
  h:Q
theorem iI{P Q:Prop}(k:Q)(h:qT Q→P:=by intro q;(first|((with_reducible apply fY);exact rfl)|((with_reducible apply AE);(iterate 5 exact rfl))|((with_reducible apply Ii);(iterate 5 exact rfl))|((with_reducible apply amU);(iterate 3 exact rfl))|((with_reducible apply AD);(iterate 3 exact rfl);(first|decide|omega);(first|decide|omega);(first|assumption|exact rfl);exact rfl)|((with_reducible apply NU);(iterate 3 exact rfl);omega;omega;exact rfl)|((with_reducible apply Y1);(iterate 3 exact rfl))|((with_reducible apply YB);(iterate 4 exact rfl))|((with_reducible apply YA);(iterate 4 exact rfl))|((with_reducible apply YZ);(iterate 4 exact rfl))|((with_reducible apply wA);(iterate 3 exact rfl);(first|exact jo (by omega)|assumption|rfl);exact rfl)|((with_reducible apply Ze);(iterate 3 exact rfl);(first|exact jo (by omega)|assumption|rfl);exact rfl)|((with_reducible apply YV);(iterate 3 exact rfl);(first|exact jo (by omega)|assumption|rfl);exact rfl)|((with_reducible apply YW);exact rfl;exact rfl;(first|exact jo (by omega)|assumption|rfl);exact rfl)|((with_reducible apply NY);(iterate 3 exact rfl);(first|assumption|omega);(first|assumption|omega);exact rfl)|((with_reducible apply Yy);exact rfl;exact rfl;(first|exact jo (by omega)|assumption|rfl);exact rfl)|((with_reducible apply YS);(iterate 4 exact rfl))|((with_reducible apply YR);(iterate 4 exact rfl))|((with_reducible apply sb);(iterate 3 exact rfl))|((with_reducible apply Zb);(iterate 3 exact rfl);(first|assumption|omega);(first|assumption|omega);(first|assumption|exact rfl);(first|assumption|exact rfl);exact rfl)|((with_reducible apply Y9);(iterate 3 exact rfl);(first|assumption|omega);(first|assumption|omega);(first|assumption|exact rfl);(first|assumption|exact rfl);exact rfl)|((with_reducible apply Zc);(iterate 4 exact rfl);(first|assumption|omega);(first|assumption|omega);(first|assumption|omega);(first|assumption|exact rfl);(first|assumption|exact rfl);exact rfl)|((with_reducible apply NP);(iterate 10 exact rfl))|((with_reducible apply amW);exact rfl;exact(fun W=>rfl);exact rfl)|((with_reducible apply YT);(iterate 4 exact rfl))|((with_reducible apply YH);(iterate 4 exact rfl))|((with_reducible apply amT);(iterate 4 exact rfl))|((with_reducible apply amV);(iterate 3 exact rfl);(first|decide|omega);(first|decide|omega);(first|assumption|exact rfl);exact rfl)|((with_reducible apply NV);(iterate 3 exact rfl);(first|decide|omega);(first|decide|omega);(first|assumption|exact rfl);exact rfl)|((with_reducible apply amR);(iterate 4 exact rfl))|((with_reducible apply YE);(iterate 3 exact rfl))|((with_reducible apply YF);exact rfl;exact rfl;kernel_rfl;exact rfl)|((with_reducible apply YX);exact rfl;exact rfl;kernel_rfl;exact rfl)|((with_reducible apply amS);exact rfl;exact rfl;kernel_rfl;exact rfl)|((with_reducible apply amX);exact rfl;exact rfl;kernel_rfl;exact rfl)|((with_reducible apply Y2);(iterate 3 exact rfl))|((with_reducible apply YJ);(iterate 3 exact rfl))|((with_reducible apply wB);(iterate 5 exact rfl);(intro W;go_simp;try rfl);(intro W;go_simp;try rfl);exact rfl;exact rfl)|((with_reducible apply NZ);exact rfl;exact rfl;(intro W;go_simp;try rfl);exact rfl;exact rfl)|((with_reducible apply NT);exact rfl;exact rfl;(intro W;go_simp;try rfl);exact rfl;exact rfl));(with_reducible exact q.h)):P:=h ⟨k⟩
theorem dd{P Q:Prop}(k:Q)(h:qT Q→P:=by intro q;(first|refine iI ?_|((with_reducible apply NW);kernel_rfl)|((with_reducible apply Oe);kernel_rfl;kernel_rfl;exact rfl)|(with_reducible first|apply Of|apply N6|apply Iq|apply dR|apply Ir|apply Is|apply Zr|apply Zt|apply Yi|apply Yj|apply Yk|apply Oc|apply Zq|apply amZ|apply akm)|((with_reducible apply amP);exact rfl)|((with_reducible apply Ob);exact rfl)|((with_reducible apply Oa);exact rfl)|((with_reducible apply Zu);exact rfl;(first|assumption|exact b5 (by omega)|(simp only[qW];(first|done|omega))|exact rfl))|((with_reducible apply N8);exact rfl;(first|assumption|exact b8 (by omega)|(simp only[qW];(first|done|omega))|exact rfl)));(with_reducible exact q.h)):P:=h ⟨k⟩
theorem eI{P Q:Prop}(k:Q)(h:qT Q→P:=by intro q;(repeat refine dd ?_);(with_reducible exact q.h)):P:=h ⟨k⟩
theorem uE{P Q A:Prop}(c:A)(k:Q)(h:A→qT Q→P:=by intro c q;(first|refine NQ rfl rfl (by exact c) rfl ?_|refine Ic rfl rfl rfl (by exact c) rfl ?_|refine Ie rfl rfl rfl rfl (by exact c) rfl ?_|refine Ig rfl rfl rfl rfl rfl (by exact c) rfl ?_|refine NR rfl rfl rfl rfl rfl rfl (by exact c) rfl ?_|refine NS rfl rfl rfl rfl rfl rfl rfl (by exact c) rfl ?_|refine uT (bs:=[_]) (args:=[]) rfl rfl rfl rfl (by exact c) rfl ?_|refine uT (bs:=[_]) (args:=[_]) rfl rfl rfl rfl (by exact c) rfl ?_|refine uT (bs:=[_]) (args:=[_,_]) rfl rfl rfl rfl (by exact c) rfl ?_|refine uT (bs:=[_]) (args:=[_,_,_]) rfl rfl rfl rfl (by exact c) rfl ?_|refine uS (args:=[]) rfl rfl rfl (by exact c) rfl ?_|refine uS (args:=[_]) rfl rfl rfl (by exact c) rfl ?_|refine uS (args:=[_,_]) rfl rfl rfl (by exact c) rfl ?_|refine uS (args:=[_,_,_]) rfl rfl rfl (by exact c) rfl ?_);(with_reducible exact q.h)):P:=h c ⟨k⟩
theorem fs{P Q:Prop}(k:Q)(h:qT Q→P:=by intro q;(first|refine NQ rfl rfl (by first|with_reducible assumption|assumption) rfl ?_|refine Ic rfl rfl rfl (by first|with_reducible assumption|assumption) rfl ?_|refine Ie rfl rfl rfl rfl (by first|with_reducible assumption|assumption) rfl ?_|refine Ig rfl rfl rfl rfl rfl (by first|with_reducible assumption|assumption) rfl ?_|refine NR rfl rfl rfl rfl rfl rfl (by first|with_reducible assumption|assumption) rfl ?_|refine NS rfl rfl rfl rfl rfl rfl rfl (by first|with_reducible assumption|assumption) rfl ?_|refine uT (bs:=[_]) (args:=[]) rfl rfl rfl rfl (by first|with_reducible assumption|assumption) rfl ?_|refine uT (bs:=[_]) (args:=[_]) rfl rfl rfl rfl (by first|with_reducible assumption|assumption) rfl ?_|refine uT (bs:=[_]) (args:=[_,_]) rfl rfl rfl rfl (by first|with_reducible assumption|assumption) rfl ?_|refine uT (bs:=[_]) (args:=[_,_,_]) rfl rfl rfl rfl (by first|with_reducible assumption|assumption) rfl ?_|refine uS (args:=[]) rfl rfl rfl (by first|with_reducible assumption|assumption) rfl ?_|refine uS (args:=[_]) rfl rfl rfl (by first|with_reducible assumption|assumption) rfl ?_|refine uS (args:=[_,_]) rfl rfl rfl (by first|with_reducible assumption|assumption) rfl ?_|refine uS (args:=[_,_,_]) rfl rfl rfl (by first|with_reducible assumption|assumption) rfl ?_);(with_reducible exact q.h)):P:=h ⟨k⟩
theorem cI{P Q:Prop}(k:Q)(h:qT Q→P:=by intro q;(repeat (first|refine dd ?_|refine fs ?_));(with_reducible exact q.h)):P:=h ⟨k⟩
theorem cc{P Q:Prop}(k:Q)(h:qT Q→P:=by intro q;(first|((with_reducible apply eY);exact rfl;(with_reducible apply fY);exact rfl;with_reducible apply dR)|((with_reducible apply QX);kernel_rfl)|(with_reducible first|apply Vm|apply U6|apply Vl|apply kA|apply Me|apply Mg|apply akJ|apply akU|apply ajW|apply ajX|apply ajY|apply Md|apply akI|apply aoQ)|((with_reducible apply aoP);exact rfl)|((with_reducible apply akW);exact rfl;(first|assumption|exact b5 (by omega)|(simp only[qW];(first|done|omega))|exact rfl))|((with_reducible apply akV);exact rfl;(first|assumption|exact b8 (by omega)|(simp only[qW];(first|done|omega))|exact rfl))|((with_reducible apply eY);exact rfl;(repeat refine iI ?_);with_reducible apply dR));(with_reducible exact q.h)):P:=h ⟨k⟩
theorem aR{P Q:Prop}(k:Q)(h:qT Q→P:=by intro q;(repeat refine cc ?_);(with_reducible exact q.h)):P:=h ⟨k⟩
theorem gz{P Q:Prop}(k:Q)(h:qT Q→P:=by intro q;((with_reducible apply eY);exact rfl;(repeat (first|refine iI ?_|refine fs ?_));with_reducible apply dR);(with_reducible exact q.h)):P:=h ⟨k⟩
theorem nU{P Q:Prop}(k:Q)(h:qT Q→P:=by intro q;(repeat (first|refine cc ?_|refine gz ?_));(with_reducible exact q.h)):P:=h ⟨k⟩
theorem aoW{P Q A:Prop}(c:A)(k:Q)(h:A→qT Q→P:=by intro c q;((with_reducible apply eY);exact rfl;(repeat (first|refine uE c ?_|refine iI ?_));with_reducible apply dR);(with_reducible exact q.h)):P:=h c ⟨k⟩
end Go.Proofs.YtklpfooafbjnpaaGreat
namespace Go.Proofs.YtklpfooafbjnpaaGreat
open Go.RowKit
structure dY where
  holds:World→Value→Prop
  ls:World→Value→Nat→Prop
  frame:∀w w' v,holds w v→(∀b,ls w v b→w'.heap[b]?=w.heap[b]?)→holds w' v∧∀b,ls w' v b→ls w v b
  iW:∀w v b,holds w v→ls w v b→b<w.heap.size
  cell:∀w v,holds w v→v.oneCell'=true
inductive AC where
  | c (v:Value)
  | own (k off:Nat)
  | p (R:dY)
inductive bG where
  | one (x:AC)
  | agg (xs:List AC)
inductive ag where
  | w (x:bG)
  | cl (xs:List bG)
def bG.cells:bG→List AC
  | .one x=>[x]
  | .agg xs=>xs
def fX(U:Nat→Prop)(ad:Nat→Nat)(W:World):AC→Value→Prop
  | .c v,x=>x=v∧v.oneCell'=true
  | .own k off,x=>x = .pointer (some ⟨ad k,off,none⟩)
  | .p R,x=>R.holds W x∧∀b,R.ls W x b→U b
def bS(U:Nat→Prop)(ad:Nat→Nat)(W:World)(xs:List AC)(vs:List Value):Prop :=
  xs.length=vs.length∧∀(i:Nat) (x:AC) (v:Value),xs[i]?=some x→vs[i]?=some v→fX U ad W x v
def gV(U:Nat→Prop)(ad:Nat→Nat)(W:World):bG→Value→Prop
  | .one x,v=>fX U ad W x v
  | .agg xs,v=>∃vs:List Value,v = .agg vs.toArray∧bS U ad W xs vs
def cR(U:Nat→Prop)(ad:Nat→Nat)(W:World):ag→Value→Prop
  | .w x,v=>gV U ad W x v
  | .cl xs,v=>∃vs:List Value,v = .tuple vs.toArray∧xs.length=vs.length∧∀(i:Nat) (x:bG) (v:Value),xs[i]?=some x→vs[i]?=some v→gV U ad W x v
def AC.owns:AC→Nat→Prop
  | .own k _,j=>j=k
  | _,_=>False
def bG.owns(x:bG)(j:Nat):Prop:=∃y∈x.cells,y.owns j
def ag.owns:ag→Nat→Prop
  | .w x,j=>x.owns j
  | .cl xs,j=>∃x∈xs,x.owns j
section
variable{U cn:Nat→Prop}{ad aW:Nat→Nat}{W W':World}
theorem fX.cell{x:AC}{v:Value}(h:fX U ad W x v):v.oneCell'=true:=by
  cases x with
  | c u=>obtain⟨rfl,h⟩:=h;exact h
  | own k off=>cases h;rfl
  | p R=>exact R.cell _ _ h.1
theorem fX.map{x:AC}{v:Value}(h:fX U ad W x v)(cX:∀b,U b→b<W.heap.size→cn b∧W'.heap[b]?=W.heap[b]?)(jn:∀j,x.owns j→aW j=ad j):fX cn aW W' x v:=by
  cases x with
  | c u=>exact h
  | own k off=>simp only[fX] at h ⊢;rw[h,jn k rfl]
  | p R =>
    obtain⟨h1,h2⟩:=h;have ar:=R.frame W W' v h1 (fun b aa=>(cX b (h2 b aa) (R.iW _ _ _ h1 aa)).2);exact⟨ar.1,fun b aa=>(cX b (h2 b (ar.2 b aa)) (R.iW _ _ _ h1 (ar.2 b aa))).1⟩
theorem bS.map{xs:List AC}{vs:List Value}(h:bS U ad W xs vs)(cX:∀b,U b→b<W.heap.size→cn b∧W'.heap[b]?=W.heap[b]?)(jn:∀j x,x∈xs→x.owns j→aW j=ad j):bS cn aW W' xs vs :=
  ⟨h.1,fun i x v ab hv=>(h.2 i x v ab hv).map cX fun j af=>jn j x (cN ab) af⟩
theorem gV.map{x:bG}{v:Value}(h:gV U ad W x v)(cX:∀b,U b→b<W.heap.size→cn b∧W'.heap[b]?=W.heap[b]?)(jn:∀j,x.owns j→aW j=ad j):gV cn aW W' x v:=by
  cases x with
  | one x=>exact fX.map h cX fun j af=>jn j ⟨x,by simp[bG.cells],af⟩
  | agg xs =>
    obtain⟨vs,e,h⟩:=h;exact⟨vs,e,h.map cX fun j x ab af=>jn j ⟨x,ab,af⟩⟩
theorem cR.map{x:ag}{v:Value}(h:cR U ad W x v)(cX:∀b,U b→b<W.heap.size→cn b∧W'.heap[b]?=W.heap[b]?)(jn:∀j,x.owns j→aW j=ad j):cR cn aW W' x v:=by
  cases x with
  | w x=>exact gV.map h cX jn
  | cl xs =>
    obtain⟨vs,e,al,h⟩:=h;exact⟨vs,e,al,fun i x v ab hv=>(h i x v ab hv).map cX fun j af=>jn j ⟨x,cN ab,af⟩⟩
theorem gV.cells{x:bG}{v:Value}(h:gV U ad W x v):bS U ad W x.cells v.cells.toList:=by
  cases x with
  | one x =>
    have ak:v.cells = #[v]:=by
      have:=fX.cell h;cases v <;> simp_all [Value.cells,Value.oneCell']
    rw[ak];refine⟨rfl,fun i y u ai hu => ?_⟩;simp only[bG.cells] at ai;cases i with
    | zero=>simp at ai hu;subst ai;subst hu;exact h
    | succ i=>simp at ai
  | agg xs =>
    obtain⟨vs,rfl,h⟩:=h;exact h
end
def upd{α:Type}(f:Nat→Option α)(k:Nat)(v:α):Nat→Option α:=fun j=>bif Nat.beq j k then some v else f j
theorem bX{α:Type}(f:Nat→Option α)(k:Nat)(v:α):upd f k v k=some v:=by simp[upd]
theorem bN{α:Type}(f:Nat→Option α){k j:Nat}(v:α)(h:j≠k):upd f k v j=f j:=by
  have:Nat.beq j k=false:=by
    cases aa:Nat.beq j k with
    | false=>rfl
    | true=>exact absurd (gl aa) h
  simp[upd,this]
theorem V5{α:Type}(f:Nat→Option α){k j:Nat}(v u:α)(h:j≠k):upd (upd f k v) j u=upd (upd f j u) k v:=by
  funext i
  by_cases h1:i=j
  · subst h1;rw[bX,bN _ _ h,bX]
  · by_cases h2:i=k
    · subst h2;rw[bN _ _ h1,bX,bX]
    · rw[bN _ _ h1,bN _ _ h2,bN _ _ h2,bN _ _ h1]
structure aB where
  n:Nat
  tmps:Nat→Option ag
  mem:Nat→Option (List AC)
def aB.put(s:aB)(dst:Option Nat)(v:ag):aB :=
  match dst with
  | some d=>{s with tmps:=upd s.tmps d v}
  | none=>s
def aB.ep(s:aB)(k:Nat)(cs:List AC):aB:={s with mem:=upd s.mem k cs}
def S7:Value→bG
  | .agg cs => .agg (cs.toList.map .c)
  | v => .one (.c v)
def zm:Value→ag
  | .tuple vs => .cl (vs.toList.map S7)
  | v => .w (S7 v)
def aB.look(s:aB):Operand→Option ag
  | .tmp t=>s.tmps t
  | .const v=>if v.oneCell' then some (.w (.one (.c v))) else none
  | .global g=>some (.w (.one (.c (.pointer (some ⟨g,0,none⟩)))))
  | .func f=>some (.w (.one (.c (.func (.func f) #[] #[]))))
def aB.free(s:aB)(A:Nat→Prop)(ad:Nat→Nat)(b:Nat):Prop:=A b∧∀k cs,s.mem k=some cs→ad k≠b
structure aB.bQ (s:aB):Prop where
  dp:∀t av j,s.tmps t=some av→av.owns j→∃cs,s.mem j=some cs
  c4:∀k cs x j,s.mem k=some cs→x∈cs→x.owns j→∃ay,s.mem j=some ay
structure cV where
  W:World
  F:Nat→Prop
  lt:∀b,F b→b<W.heap.size
  N:Nat→Option Nat
  marks:List Deferred:=[]
def cV.all(W:World):cV:=⟨W,fun b=>b<W.heap.size,fun _ h=>h,fun _=>none,[]⟩
def uJ(B:cV)(s:aB)(ad:Nat→Nat):Prop:=∀k b,B.N k=some b→s.n≤k∧ad k=b
structure eR (B:cV) (w:World):Prop where
  os:w.os=B.W.os
  tape:w.tape=B.W.tape
  output:w.output=B.W.output
  size:B.W.heap.size≤w.heap.size
  block:∀b,B.F b→w.heap[b]?=B.W.heap[b]?
theorem eR.then{B:cV}{w w':World}(h:eR B w)(aa:Below w.heap.size w w'):eR B w' :=
  ⟨aa.os.trans h.os,aa.tape.trans h.tape,aa.output.trans h.output,eO h.size aa.size,fun b au=>(aa.block b (jM (B.lt b au) h.size)).trans (h.block b au)⟩
theorem eR.refl(B:cV):eR B B.W:=⟨rfl,rfl,rfl,cF _,fun _ _=>rfl⟩
theorem eR.all{W w:World}(h:eR (cV.all W) w):Below W.heap.size W w:=⟨h.os,h.tape,h.output,h.size,fun k ae=>h.block k ae⟩
structure Rel (B:cV) (A:Nat→Prop) (s:aB) (ad:Nat→Nat) (a:Act) (w:World):Prop where
  kD:a.defers=B.marks
  size:a.tmps.size=s.n
  dp:∀t av,s.tmps t=some av→∃v,a.tmps[t]?=some v∧cR (s.free A ad) ad w av v
  c4:∀k cs,s.mem k=some cs→∃(vs:List Value) (ty:TypeId),w.heap[ad k]?=some (.cells vs.toArray ty (0,0))∧bS (s.free A ad) ad w cs vs∧¬B.F (ad k)
  inj:∀k k' cs ay,s.mem k=some cs→s.mem k'=some ay→ad k=ad k'→k=k'
  below:eR B w
  up:∀b,B.W.heap.size≤b→A b
  fN:uJ B s ad
section
variable{B:cV}{A:Nat→Prop}{s:aB}{ad:Nat→Nat}{a:Act}{w w':World}
theorem aB.abh(s:aB)(dst:Option Nat)(v:ag)(A:Nat→Prop)(ad:Nat→Nat):(s.put dst v).free A ad=s.free A ad:=by cases dst <;> rfl
theorem aB.ze(s:aB)(dst:Option Nat)(v:ag):(s.put dst v).mem=s.mem:=by cases dst <;> rfl
theorem aB.ue(s:aB)(dst:Option Nat)(v:ag):(s.put dst v).n=s.n:=by cases dst <;> rfl
theorem Rel.put{dst:Option Nat}{av:ag}{v:Value}(h:Rel B A s ad a w)(hd:∀d,dst=some d→d<s.n)(hv:cR (s.free A ad) ad w av v):Rel B A (s.put dst av) ad (a.put dst v) w:=by
  cases dst with
  | none=>exact h
  | some d =>
    have a7:=hd d rfl;refine⟨h.kD,by simp[aB.put,Act.put,h.size],fun t bv aC => ?_,h.c4,h.inj,h.below,h.up,h.fN⟩;simp only[aB.put] at aC
    by_cases e:t=d
    · subst e
      rw[bX] at aC;cases aC;exact⟨v,by simp[Act.put,h.size,a7],hv⟩
    · rw[bN _ _ e] at aC
      obtain⟨u,h1,h2⟩:=h.dp t bv aC;exact⟨u,by simp only[Act.put];rw[CO (Ne.symm e)];exact h1,h2⟩
theorem Rel.lt{k:Nat}{cs:List AC}(h:Rel B A s ad a w)(ae:s.mem k=some cs):ad k<w.heap.size:=by
  obtain⟨vs,ty,h1,_⟩:=h.c4 k cs ae;exact(iD.1 h1).1
theorem Rel.call(h:Rel B A s ad a w)(aa:Below w.heap.size w w'):Rel B A s ad a w':=by
  have cX:∀b,s.free A ad b→b<w.heap.size→s.free A ad b∧w'.heap[b]?=w.heap[b]?:=fun b cQ al=>⟨cQ,aa.block b al⟩;refine⟨h.kD,h.size,fun t av aC => ?_,fun k cs ae => ?_,h.inj,h.below.then aa,h.up,h.fN⟩
  · obtain⟨v,h1,h2⟩:=h.dp t av aC
    exact⟨v,h1,h2.map cX fun _ _=>rfl⟩
  · obtain⟨vs,ty,h1,h2,ar⟩:=h.c4 k cs ae
    exact⟨vs,ty,by rw[aa.block _ (h.lt ae)];exact h1,h2.map cX fun _ _ _ _=>rfl,ar⟩
theorem Rel.new{d:Nat}{cs:List AC}{vs:List Value}{ty:TypeId}(h:Rel B A s ad a w)(ok:s.bQ)(et:d<s.n)(hm:s.mem d=none)(hv:bS (s.free A ad) ad w cs vs)(dE:∀x∈cs,∀j,x.owns j→∃ay,s.mem j=some ay) :
    Rel B A (s.ep d cs) (fun k=>if k=d then w.heap.size else ad k) a (w.alloc (.cells vs.toArray ty)):=by
  have cA:∀k ay,s.mem k=some ay→k≠d:=fun k ay ae e=>by subst e;rw[hm] at ae;cases ae
  have cX:∀b,s.free A ad b→b<w.heap.size→(s.ep d cs).free A (fun k=>if k=d then w.heap.size else ad k) b∧(w.alloc (.cells vs.toArray ty)).heap[b]?=w.heap[b]?:=by
    intro b aa al;refine⟨⟨aa.1,fun k ay ae => ?_⟩,Below.heap_alloc _ _ _ al⟩;simp only[aB.ep] at ae
    by_cases e:k=d
    · subst e;simp;omega
    · rw[bN _ _ e] at ae
      simp only[e,if_false];exact aa.2 k ay ae
  have da:∀j,(∃ay,s.mem j=some ay)→(if j=d then w.heap.size else ad j)=ad j:=fun j ⟨ay,af⟩=>by rw[if_neg (cA j ay af)]
  refine⟨h.kD,h.size,fun t av aC => ?_,fun k ay ae => ?_,fun k k' c1 c2 ae eD e => ?_,h.below.then ((Below.refl _ _).alloc (cF _) _),h.up,fun k b ae => ?_⟩
  · obtain⟨v,h1,h2⟩:=h.dp t av aC
    exact⟨v,h1,h2.map cX fun j af=>da j (ok.dp t av j aC af)⟩
  · simp only[aB.ep] at ae
    by_cases e:k=d
    · subst e
      rw[bX] at ae;cases ae;refine⟨vs,ty,?_,hv.map cX fun j x ab af=>da j (dE x ab j af),?_⟩
      · show (w.heap.push _)[if k=k then w.heap.size else ad k]?=_;simp
      · simp only[if_true];exact fun au=>by have:=B.lt _ au;have:=h.below.size;omega
    · rw[bN _ _ e] at ae
      obtain⟨us,t,h1,h2,ar⟩:=h.c4 k ay ae;refine⟨us,t,?_,h2.map cX fun j x ab af=>da j (ok.c4 k ay x j ae ab af),?_⟩
      · simp only[e,if_false];rw[Below.heap_alloc _ _ _ (h.lt ae)];exact h1
      · simp only[e,if_false];exact ar
  · simp only[aB.ep] at ae eD
    by_cases aH:k=d <;> by_cases aN:k'=d
    · rw[aH,aN]
    · rw[bN _ _ aN] at eD
      have:=h.lt eD;simp[aH,aN] at e;omega
    · rw[bN _ _ aH] at ae
      have:=h.lt ae;simp[aH,aN] at e;omega
    · rw[bN _ _ aH] at ae
      rw[bN _ _ aN] at eD;simp[aH,aN] at e;exact h.inj k k' _ _ ae eD e
  · obtain⟨h1,h2⟩:=h.fN k b ae
    refine⟨h1,?_⟩;rw[if_neg (fun e=>by subst e;exact absurd et (Nat.not_lt.2 h1))];exact h2
theorem Rel.set{k:Nat}{cs ds:List AC}{us:List Value}(h:Rel B A s ad a w)(ae:s.mem k=some cs)(hv:bS (s.free A ad) ad w ds us):Rel B A (s.ep k ds) ad a (w.setRow (ad k) us.toArray):=by
  have h3:(s.ep k ds).free A ad=s.free A ad:=by
    funext b;apply propext
    constructor
    · rintro⟨cr,aa⟩
      refine⟨cr,fun j ay af => ?_⟩
      by_cases e:j=k
      · subst e;exact aa j ds (by simp[aB.ep,bX])
      · exact aa j ay (by simp only[aB.ep];rw[bN _ _ e];exact af)
    · rintro⟨cr,aa⟩
      refine⟨cr,fun j ay af => ?_⟩;simp only[aB.ep] at af
      by_cases e:j=k
      · subst e;exact aa j cs ae
      · rw[bN _ _ e] at af;exact aa j ay af
  obtain⟨vs,ty,g1,g2,g3⟩:=h.c4 k cs ae;have lz:(w.setRow (ad k) us.toArray).heap[ad k]?=some (.cells us.toArray ty (0,0)):=setRow_heap w (ad k) vs.toArray us.toArray ty (0,0) g1
  have xe:∀b,b≠ad k→(w.setRow (ad k) us.toArray).heap[b]?=w.heap[b]?:=fun b aa=>by
    simp only[World.setRow,vK];rw[if_neg (Ne.symm aa)]
  have cX:∀b,s.free A ad b→b<w.heap.size→s.free A ad b∧(w.setRow (ad k) us.toArray).heap[b]?=w.heap[b]?:=fun b aa _=>⟨aa,xe b (Ne.symm (aa.2 k cs ae))⟩;refine⟨h.kD,h.size,fun t av aC => ?_,fun j ay af => ?_,fun j e6 c1 c2 af lu e => ?_,?_,h.up,h.fN⟩
  · obtain⟨v,h1,h2⟩:=h.dp t av aC
    exact⟨v,h1,by rw[h3];exact h2.map cX fun _ _=>rfl⟩
  · simp only[aB.ep] at af
    rw[h3]
    by_cases e:j=k
    · subst e
      rw[bX] at af;cases af;exact⟨us,ty,lz,hv.map cX fun _ _ _ _=>rfl,g3⟩
    · rw[bN _ _ e] at af
      obtain⟨x3,amf,h1,h2,ar⟩:=h.c4 j ay af;exact⟨x3,amf,by rw[xe _ (fun e'=>e (h.inj j k _ _ af ae e'))];exact h1,h2.map cX fun _ _ _ _=>rfl,ar⟩
  · have hold:∀i c,(s.ep k ds).mem i=some c→∃c',s.mem i=some c':=fun i c hi=>by
      simp only[aB.ep] at hi
      by_cases e:i=k
      · exact⟨cs,by rw[e];exact ae⟩
      · rw[bN _ _ e] at hi;exact⟨c,hi⟩
    obtain⟨d1,q1⟩:=hold j c1 af;obtain⟨d2,q2⟩:=hold e6 c2 lu;exact h.inj j e6 _ _ q1 q2 e
  · exact⟨h.below.os,h.below.tape,h.below.output,by have:=h.below.size;simpa [World.setRow] using this,fun b aa=>(xe b (fun e=>by subst e;exact g3 aa)).trans (h.below.block b aa)⟩
end
def ag.closed(x:ag):Prop:=∀j,¬x.owns j
def im(U:Nat→Prop)(ad:Nat→Nat)(W:World)(xs:List ag)(vs:List Value):Prop :=
  xs.length=vs.length∧∀(i:Nat) (x:ag) (v:Value),xs[i]?=some x→vs[i]?=some v→cR U ad W x v
structure aP (P:Program) (f:FuncId) (args:List ag) (r:ag):Prop where
  hl:∀x∈args,x.closed
  cq:r.closed
  call:∀(U:Nat→Prop) (W:World) (vs:List Value),im U id W args vs →
    Calls P f vs.toArray W fun e W'=>∃v,e = .returned v∧cR (fun b=>U b∨W.heap.size≤b) id W' r v∧Below W.heap.size W W'
structure yd (P:Program) (look:Operand→Option ag) (o:Oper) (av:ag):Prop where
  ak9:∀cs b,o.op ≠ .select cs b
  ops:∀x∈o.op.operands,∃a,look x=some a
  run:∀(U:Nat→Prop) (ad:Nat→Nat) (W:World) (env:Operand→Value),(∀x∈o.op.operands,∀a,look x=some a→cR U ad W a (env x)) →
    ∃v,(execOp env o).run P W = .ok (.value v) W∧cR U ad W av v
  own:∀j,av.owns j→∃x∈o.op.operands,∃a,look x=some a∧a.owns j
def pick(P:Program)(ty:TypeId)(cs:List AC)(off:Nat):Option bG :=
  match P.underlying ty with
  | some (.struct _)|some (.array _ _)=>(P.info? ty).bind fun i=>if off+i.size≤cs.length then some (.agg ((cs.drop off).take i.size)) else none
  | some _=>(cs[off]?).map .one
  | none=>none
def eP(cs:List AC)(off:Nat)(ds:List AC):List AC:=cs.take off++ds++cs.drop (off+ds.length)
inductive wv (P:Program) (look:Operand→Option ag) (o:Oper):List AC→Prop
  | alloc (ty:TypeId) (i:TypeInfo) (z:Value) (cs:List AC) (aD:o.op = .alloc ty) (hi:P.info? ty=some i) (aT:i.zero=some z) (ak:cs=z.cells.toList.map .c) (h1:(z.cells.toList.all fun v=>v.oneCell')=true):wv P look o cs
  | box (ty:TypeId) (x:Operand) (z:bG) (aD:o.op = .box ty x) (ab:look x=some (.w z)):wv P look o z.cells
def enters(P:Program)(f:FuncId):Bool:=match P.funcs[f]? with
  | some fn => fn.body.isSome && fn.name != "runtime.NumGoroutine"
  | none=>false
def El:Value→Bool
  | .agg cs=>cs.toList.all fun v=>v.oneCell'
  | .tuple _=>false
  | _=>true
def Iz(w:World):AC→Value→Nat→Prop
  | .p R,x,b=>R.ls w x b
  | _,_,_=>False
def l4(fn:Fn)(cs:List AC):dY where
  holds w v:=∃vs:List Value,v = .func fn #[] vs.toArray∧bS (fun _=>True) id w cs vs∧∀x∈cs,∀j,¬x.owns j
  ls w v b:=∃vs:List Value,v = .func fn #[] vs.toArray∧∃(i:Nat) (x:AC) (u:Value),cs[i]?=some x∧vs[i]?=some u∧Iz w x u b
  frame w w' v:=by
    rintro⟨vs,rfl,al,ak⟩ au
    have key:∀(i:Nat) (x:AC) (u:Value),cs[i]?=some x→vs[i]?=some u→fX (fun _=>True) id w' x u∧∀b,Iz w' x u b→Iz w x u b:=by
      intro i x u ab hu;have h:=al.2 i x u ab hu;cases x with
      | c y=>exact⟨h,fun b aa=>aa⟩
      | own k o=>exact⟨h,fun b aa=>aa⟩
      | p R =>
        have:=R.frame w w' u h.1 fun b aa=>au b ⟨vs,rfl,i,_,u,ab,hu,aa⟩;exact⟨⟨this.1,fun _ _=>trivial⟩,this.2⟩
    refine⟨⟨vs,rfl,⟨al.1,fun i x u ab hu=>(key i x u ab hu).1⟩,ak⟩,?_⟩;rintro b ⟨x3,e,i,x,u,ab,hu,aa⟩;have e':vs=x3:=by simpa using e
    subst e';exact⟨vs,rfl,i,x,u,ab,hu,(key i x u ab hu).2 b aa⟩
  iW w v b:=by
    rintro⟨vs,rfl,al,ak⟩ ⟨x3,e,i,x,u,ab,hu,aa⟩;have e':vs=x3:=by simpa using e
    subst e';have h:=al.2 i x u ab hu;cases x with
    | p R=>exact R.iW _ _ _ h.1 aa
    | c y=>cases aa
    | own k o=>cases aa
  cell w v:=by rintro⟨vs,rfl,_⟩;rfl
theorem l4.ZR{U:Nat→Prop}{ad:Nat→Nat}{w:World}{v:Value}{fn:Fn}{cs:List AC}(h:fX U ad w (.p (l4 fn cs)) v):∃vs:List Value,v = .func fn #[] vs.toArray∧bS U id w cs vs:=by
  obtain⟨⟨vs,rfl,al,ak⟩,au⟩:=h;refine⟨vs,rfl,al.1,fun i x u ab hu => ?_⟩;have h:=al.2 i x u ab hu;cases x with
  | c y=>exact h
  | own k o=>exact h
  | p R=>exact⟨h.1,fun b aa=>au b ⟨vs,rfl,i,_,u,ab,hu,aa⟩⟩
structure r0 (P:Program) (look:Operand→Option ag) (o:Oper) (f:FuncId) (args:List ag):Prop where
  ex:∃c g,o.op = .call c∧c.callee = .value g ∧
    ((∃bs:List Value,look g=some (.w (.one (.c (.func (.func f) bs.toArray #[]))))∧bs.map (fun b=>some (zm b))++c.args.toList.map look=args.map some∧bs.all El=true) ∨
     ∃cs:List AC,look g=some (.w (.one (.p (l4 (.func f) cs))))∧c.args.toList.map look++cs.map (fun x=>some (.w (.one x)))=args.map some)
  enters:enters P f=true
structure x7 (P:Program) (look:Operand→Option ag) (o:Oper) (av:ag):Prop where
  ops:∀x∈o.op.operands,∃a,look x=some a
  gX:av.closed
  run:∀(U:Nat→Prop) (ad:Nat→Nat) (W:World) (env:Operand→Value),(∀x∈o.op.operands,∀a,look x=some a→cR U ad W a (env x)) →
    ∃v W',(execOp env o).run P W = .ok (.value v) W'∧cR (fun b=>U b∨W.heap.size≤b) ad W' av v∧Below W.heap.size W W'
inductive mB (P:Program) (s:aB) (o:Oper):aB→Prop
  | fresh (av:ag) (aj:x7 P s.look o av) (hd:∀d,o.dst=some d→d<s.n):mB P s o (s.put o.dst av)
  | quiet (av:ag) (aj:yd P s.look o av) (hd:∀d,o.dst=some d→d<s.n):mB P s o (s.put o.dst av)
  | load (ty:TypeId) (x:Operand) (k off:Nat) (cs:List AC) (av:bG) (aD:o.op = .load ty x) (ab:s.look x=some (.w (.one (.own k off)))) (hm:s.mem k=some cs) (hv:pick P ty cs off=some av) (hd:∀d,o.dst=some d→d<s.n):mB P s o (s.put o.dst (.w av))
  | store (ty:TypeId) (x y:Operand) (k off:Nat) (cs:List AC) (z:bG) (i:TypeInfo) (aD:o.op = .store ty x y) (ab:s.look x=some (.w (.one (.own k off)))) (ai:s.look y=some (.w z)) (hm:s.mem k=some cs) (hi:P.info? ty=some i) (hs:i.size=z.cells.length) (aa:off+z.cells.length≤cs.length) (hd:∀d,o.dst=some d→d<s.n):mB P s o ((s.put o.dst (.cl [])).ep k (eP cs off z.cells))
  | new (cs:List AC) (d:Nat) (dT:o.dst=some d) (hm:s.mem d=none) (aA:wv P s.look o cs) (hd:d<s.n):mB P s o ((s.ep d cs).put (some d) (.w (.one (.own d 0))))
  | call (f:FuncId) (args:List ag) (r:ag) (ak:r0 P s.look o f args) (hp:aP P f args r) (hd:∀d,o.dst=some d→d<s.n):mB P s o (s.put o.dst r)
section
variable{P:Program}{B:cV}{A:Nat→Prop}{s s':aB}{ad:Nat→Nat}{a:Act}{w:World}{o:Oper}{Q:Exit→Act→World→Prop}
theorem cR.undef(U:Nat→Prop):cR U ad w (.cl []) undef:=⟨[],rfl,rfl,fun i x v h=>by simp at h⟩
theorem Rel.look{x:Operand}{av:ag}(h:Rel B A s ad a w)(ab:s.look x=some av):cR (s.free A ad) ad w av (a.eval x):=by
  cases x with
  | tmp t =>
    obtain⟨v,h1,h2⟩:=h.dp t av ab;have:a.eval (.tmp t)=v:=by simp[Act.eval,Array.getD_eq_getD_getElem?,h1]
    rw[this];exact h2
  | const v =>
    simp only[aB.look] at ab
    split at ab
    · rename_i h1;cases ab;exact⟨rfl,h1⟩
    · cases ab
  | global g=>cases ab;exact⟨rfl,rfl⟩
  | func f=>cases ab;exact⟨rfl,rfl⟩
theorem bS.cellAt{U:Nat→Prop}{W:World}{xs:List AC}{vs:List Value}{g:Nat}{ty:TypeId}(h:bS U ad W xs vs)(aw:W.heap[g]?=some (.cells vs.toArray ty (0,0))){i:Nat}{x:AC}(hi:xs[i]?=some x) :
    ∃v,vs[i]?=some v∧W.cell? ⟨g,i,none⟩=some v∧fX U ad W x v:=by
  have a7:i<vs.length:=by
    rw[←h.1];rcases ie i xs.length with q|q
    · exact q
    · rw[qy q] at hi;cases hi
  refine⟨vs[i],bE a7,?_,h.2 i x _ hi (bE a7)⟩;simp[World.cell?,aw,a7]
theorem bS.sub{U:Nat→Prop}{W:World}{xs:List AC}{vs:List Value}(h:bS U ad W xs vs)(off n:Nat):bS U ad W ((xs.drop off).take n) ((vs.drop off).take n):=by
  refine⟨by simp[h.1],fun i x v ab hv => ?_⟩;rw[List.getElem?_take] at ab hv
  split at ab
  · rename_i a7
    rw[if_pos a7] at hv;rw[gR] at ab hv;exact h.2 _ x v ab hv
  · cases ab
theorem bS.eP{U:Nat→Prop}{W:World}{xs ds:List AC}{vs us:List Value}(h:bS U ad W xs vs)(hd:bS U ad W ds us)(off:Nat)(aa:off+ds.length≤xs.length):bS U ad W (eP xs off ds) (vs.take off++us++vs.drop (off+us.length)):=by
  have aH:=h.1;have aN:=hd.1;refine⟨by simp[Proofs.YtklpfooafbjnpaaGreat.eP,aH,aN],fun i x v ab hv => ?_⟩;unfold Proofs.YtklpfooafbjnpaaGreat.eP at ab;have dP:(xs.take off).length=off:=by simp;omega
  have sK:(vs.take off).length=off:=by simp;omega
  by_cases h1:i<off
  · rw[hz,fI (by omega),gm h1] at ab
    rw[hz,fI (by omega),gm h1] at hv;exact h.2 i x v ab hv
  · by_cases h2:i<off+ds.length
    · rw[hz,gn (by omega),fI (by omega),dP] at ab
      rw[hz,gn (by omega),fI (by omega),sK] at hv;exact hd.2 _ x v ab hv
    · rw[gn (by simp;omega),gR] at ab hv
      simp only[cZ,dP,sK] at ab hv;rw[←aN] at hv;have e:off+ds.length+(i-(off+ds.length))=i:=by omega
      rw[e] at ab hv;exact h.2 i x v ab hv
theorem Mb{ty:TypeId}{A:Addr}{v:Value}{d:TypeDesc}(hu:P.underlying ty=some d)(hs:∀bq,d ≠ .struct bq)(aV:∀n e,d ≠ .array n e)(ak:w.cell? A=some v):(loadVar ty A).run P w = .ok v w:=by
  have h1:(isAgg ty).run P w = .ok false w:=by
    unfold isAgg;simp only[Sem.run_bind,run_underlying hu,Result.andThen_ok];cases d <;> first|rfl|(exact absurd rfl (hs _))|(exact absurd rfl (aV _ _))
  unfold loadVar;simp only[Sem.run_bind,h1,Result.andThen_ok,pB,if_false];simp[load,Sem.run,ak]
theorem ij{ty:TypeId}{i:TypeInfo}(hi:P.info? ty=some i):(sizeOf ty).run P w = .ok i.size w:=by
  simp[sizeOf,typeInfo,program,Sem.run_bind,Sem.run,hi,Result.andThen]
theorem Ma{ty:TypeId}{A:Addr}{vs:List Value}{i:TypeInfo}{d:TypeDesc}(hu:P.underlying ty=some d)(hd:(∃bq,d = .struct bq)∨∃n e,d = .array n e)(hi:P.info? ty=some i)(al:vs.length=i.size)(ak:∀j v,vs[j]?=some v→w.cell? (A.add j)=some v) :
    (loadVar ty A).run P w = .ok (.agg vs.toArray) w:=by
  have h1:(isAgg ty).run P w = .ok true w:=by
    unfold isAgg;simp only[Sem.run_bind,run_underlying hu,Result.andThen_ok];rcases hd with ⟨bq,rfl⟩|⟨n,e,rfl⟩ <;> rfl
  unfold loadVar;simp only[Sem.run_bind,h1,Result.andThen_ok,if_true,ij hi,←al,run_loadCells_list w A vs ak];rfl
end
section
variable{P:Program}{B:cV}{A:Nat→Prop}{s s':aB}{ad:Nat→Nat}{a:Act}{w:World}{o:Oper}{Q:Exit→Act→World→Prop}
theorem TW{U:Nat→Prop}{ty:TypeId}{cs:List AC}{off g:Nat}{av:bG}{vs:List Value}{t:TypeId}(hv:pick P ty cs off=some av)(aw:w.heap[g]?=some (.cells vs.toArray t (0,0)))(al:bS U ad w cs vs) :
    ∃v,(loadVar ty ⟨g,off,none⟩).run P w = .ok v w∧gV U ad w av v:=by
  unfold pick at hv
  have key:∀d,P.underlying ty=some d→((∃bq,d = .struct bq)∨∃n e,d = .array n e)→((P.info? ty).bind fun i=>if off+i.size≤cs.length then some (bG.agg ((cs.drop off).take i.size)) else none)=some av→∃v,(loadVar ty ⟨g,off,none⟩).run P w = .ok v w∧gV U ad w av v:=by
    intro d hu hd h;cases hi:P.info? ty with
    | none=>rw[hi] at h;cases h
    | some i =>
      rw[hi] at h;simp only[lW] at h
      split at h
      · rename_i hle
        cases h;have hs:=al.sub off i.size;have hlen:((vs.drop off).take i.size).length=i.size:=by have:=al.1;simp;omega
        refine⟨_,Ma hu hd hi hlen (fun j v af => ?_),_,rfl,hs⟩;have lu:j<i.size:=by rw[←hlen];exact(bt.1 af).1
        rw[gm lu,gR] at af;have lQ:(⟨g,off,none⟩:Addr).add j=⟨g,off+j,none⟩:=by unfold Addr.add;split <;> simp_all
        rw[lQ];simp only[World.cell?,aw];simpa using af
      · cases h
  have KZ:∀d,P.underlying ty=some d→(∀bq,d ≠ .struct bq)→(∀n e,d ≠ .array n e)→(cs[off]?).map bG.one=some av→∃v,(loadVar ty ⟨g,off,none⟩).run P w = .ok v w∧gV U ad w av v:=by
    intro d hu h1 h2 h;cases ab:cs[off]? with
    | none=>rw[ab] at h;cases h
    | some x =>
      rw[ab] at h;cases h;obtain⟨v,q1,q2,q3⟩:=al.cellAt aw ab;exact⟨v,Mb hu h1 h2 q2,q3⟩
  cases hu:P.underlying ty with
  | none=>rw[hu] at hv;cases hv
  | some d =>
    rw[hu] at hv;cases d <;> first|exact key _ hu (.inl ⟨_,rfl⟩) hv|exact key _ hu (.inr ⟨_,_,rfl⟩) hv|exact KZ _ hu (fun _ h=>by cases h) (fun _ _ h=>by cases h) hv
theorem yy{f:FuncId}{args:Array Value}(h:enters P f=true):(callFunc f args).run P w = .ok (.enter f args) w:=by
  unfold enters at h;cases au:P.funcs[f]? with
  | none=>rw[au] at h;cases h
  | some fn =>
    rw[au] at h;simp only[ef,bne_iff_ne,ne_eq] at h;obtain⟨h1,h2⟩:=h;simp[callFunc,program,Sem.run_bind,Sem.run,au,Result.andThen,h2];intro ar;rw[ar] at h1;cases h1
def l8(ro:Option Nat):Fence:={Fence.wide with round:=ro}
theorem ZO{ro:Option Nat}{n:Nat}{P:Program}{f:FuncId}{args:Array Value}{w:World}{R:Ending→World→Prop}(h:Calls P f args w R):CallsIn (l8 ro) n P f args w R:=callsIn_wide.2 h
theorem aks{ro:Option Nat}{n:Nat}{P:Program}{row:String}{args:Array Value}{w:World}{R:Value→World→Prop}(h:Rows P row args w R):RowsIn (l8 ro) n P row args w R:=fun c cs _=>by
  obtain⟨v,w',ao,hs⟩:=h c cs;exact⟨v,w',ao,stepsIn_wide.2 hs⟩
theorem zj{P:Program}{ad:Operand→Value}{o:Oper}{w w':World}{x:Next}(h:(execOp ad o).run P w = .ok x w')(ab:∀d,x ≠ .defer d):∀c,o.op ≠ .defer c:=fun c ak=>by
  simp only[execOp,ak,Sem.run_bind] at h;cases ao:(resolve ad c o.type).run P w with
  | ok d w2=>rw[ao] at h;simp only[Result.andThen_ok,Sem.run_pure,Result.ok.injEq] at h;exact ab d h.1.symm
  | halt r w2=>rw[ao] at h;simp[Result.andThen] at h
theorem Oper.Wv{ro:Option Nat}{n:Nat}{P:Program}{o:Oper}{a:Act}{w:World}{K:Act→World→Prop}{Q:Exit→Act→World→Prop}(h:o.wp P a w K Q)(hd:∀c,o.op ≠ .defer c):o.wpIn (l8 ro) n P a w K Q:=by
  refine⟨fun _ _=>trivial,?_⟩;rw[Oper.semAt_eq _ _ _ hd];unfold Oper.wp at h;generalize (execOp a.eval o).run P w=r at *;have aA:(l8 ro).depth.isSome=true→1≤n:=fun h=>by simp[l8,Fence.wide] at h
  cases r with
  | ok x w'=>cases x <;> first|exact h|exact⟨aA,ZO h⟩|exact⟨aA,aks h⟩|exact h.elim
  | halt x w'=>cases x <;> exact h
def lc(P:Program)(c:Code)(Q:Exit→Act→World→Prop)(a:Act)(w:World):Prop:=∀ro,c.wpIn (l8 ro) 0 P Q a w
section
variable{P:Program}{Q Ao:Exit→Act→World→Prop}{a:Act}{w:World}{c x y:Code}
theorem lc.top(h:lc P c Q a w):c.wp P Q a w:=wpIn_wide.1 (h none)
theorem rW(h:lc P c Q a w)(aj:∀e a w,Q e a w→Ao e a w):lc P c Ao a w:=fun ro=>wpIn_mono (h ro) aj
theorem Wm(h:lc P x (Exit.then (lc P y Q) Q) a w):lc P (.seq x y) Q a w:=fun ro=>wpIn_seq (wpIn_mono (h ro) fun e a w aj=>by cases e <;> first|exact aj ro|exact aj)
theorem Wn(h:Q .normal a w):lc P .skip Q a w:=fun ro=>wpIn_skip h
theorem Wh{id:Nat}(h:Q (.exit id) a w):lc P (.exit id) Q a w:=fun ro=>wpIn_exit h
theorem Wl(h:Q .ret a w):lc P .ret Q a w:=fun ro=>wpIn_ret h
theorem Wg{c:Operand}{t:Bool}(ak:a.eval c = .bool t)(h:lc P (if t then x else y) Q a w):lc P (.cond c x y) Q a w:=fun ro=>wpIn_cond ak (h ro)
theorem Wf{id:Nat}(h:lc P c (Exit.inBlock id Q) a w):lc P (.block id c) Q a w:=fun ro=>wpIn_block (h ro)
theorem Wj{id:Nat}{ops:Array Oper}(h:∀ro,wpOpsIn (l8 ro) 0 P ops Q (List.range ops.size) a w):lc P (.region id ops false) Q a w:=fun ro=>wpIn_region (h ro)
theorem Wk{id:Nat}{ops:Array Oper}(hm:P.follows .mixedOrders=true)(h:∀ro,wpAnyIn (l8 ro) 0 P .any ops Q ops.size (Array.replicate ops.size false) a {w with drawn:=w.drawn+1}):lc P (.region id ops true) Q a w:=fun ro=>wpIn_region_any hm (h ro)
end
theorem Oper.te{v:Value}{w':World}{next:Act→World→Prop}(h:(execOp a.eval o).run P w = .ok (.value v) w')(aA:next (a.put o.dst v) w'):o.wp P a w next Q:=by
  unfold Oper.wp;rw[h];exact aA
theorem Rel.Ri{U:Nat→Prop}{x:ag}{v:Value}(ak:x.closed)(h:cR U ad w x v):cR U id w x v:=h.map (fun b aa _=>⟨aa,rfl⟩) fun j af=>absurd af (ak j)
theorem UX{U:Nat→Prop}{v:Value}(h:El v=true):cR U ad w (zm v) v:=by
  cases v with
  | agg cs =>
    refine⟨cs.toList,by simp,by simp,fun i x u ab hu => ?_⟩;rw[dG,hu] at ab;cases ab;exact⟨rfl,b6.1 h u (cN hu)⟩
  | tuple vs=>cases h
  | _=>exact⟨rfl,rfl⟩
theorem mB.SO(h:mB P s o s')(an:Rel B A s ad a w):∀c,o.op ≠ .defer c:=by
  cases h with
  | quiet av aj hd =>
    obtain⟨v,h1,h2⟩:=aj.run (s.free A ad) ad w a.eval (fun x ab b aa=>an.look aa);exact zj h1 (fun d h=>by cases h)
  | fresh av aj hd =>
    obtain⟨v,W',h1,h2,aa⟩:=aj.run (s.free A ad) ad w a.eval (fun x ab b aa=>an.look aa);exact zj h1 (fun d h=>by cases h)
  | load ty x k off cs av aD=>intro c ak;rw[aD] at ak;cases ak
  | store ty x y k off cs z i aD=>intro c ak;rw[aD] at ak;cases ak
  | new cs d dT hm aA hd =>
    intro c ak;cases aA with
    | alloc ty i z cs aD=>rw[aD] at ak;cases ak
    | box ty x z aD=>rw[aD] at ak;cases ak
  | call f args r ak hp hd =>
    intro c pp;obtain⟨⟨c',g,aD,_⟩,_⟩:=ak;rw[aD] at pp;cases pp
theorem mB.sound(h:mB P s o s')(an:Rel B A s ad a w)(ok:s.bQ):o.wp P a w (fun a' w'=>∃aW,Rel B A s' aW a' w') Q:=by
  cases h with
  | quiet av aj hd =>
    obtain⟨v,h1,h2⟩:=aj.run (s.free A ad) ad w a.eval (fun x ab b aa=>an.look aa);exact Oper.te h1 ⟨ad,an.put hd h2⟩
  | fresh av aj hd =>
    obtain⟨v,W',h1,h2,aa⟩:=aj.run (s.free A ad) ad w a.eval (fun x ab b aa=>an.look aa);refine Oper.te h1 ⟨ad,(an.call aa).put hd (h2.map (fun b cQ al=>⟨?_,rfl⟩) fun j af=>rfl)⟩;rcases cQ with h|h
    · exact h
    · refine⟨an.up b (eO an.below.size h),fun k cs ae e => ?_⟩
      have:=an.lt ae;omega
  | load ty x k off cs av aD ab hm hv hd =>
    obtain⟨vs,t,g1,g2,g3⟩:=an.c4 k cs hm;obtain⟨v,h1,h2⟩:=TW hv g1 g2;have hp:a.eval x = .pointer (some ⟨ad k,off,none⟩):=an.look ab;refine Oper.te (v:=v) (w':=w) ?_ ⟨ad,an.put hd h2⟩;simp only[execOp,aD,Instr.loadAt,hp,Instr.sureAddr,Sem.run_bind,Sem.run_pure,Result.andThen_ok,h1]
  | store ty x y k off cs z i aD ab ai hm hi hs aa hd =>
    obtain⟨vs,t,g1,g2,g3⟩:=an.c4 k cs hm;have hp:a.eval x = .pointer (some ⟨ad k,off,none⟩):=an.look ab;have aT:gV (s.free A ad) ad w z (a.eval y):=an.look ai;have qh:=aT.cells;have xh:(a.eval y).cells.size=z.cells.length:=by have:=qh.1;simp at this;exact this.symm
    have gi:(storeVar ty ⟨ad k,off,none⟩ (a.eval y)).run P w = .ok () (w.setRow (ad k) (vs.take off++(a.eval y).cells.toList++vs.drop (off+(a.eval y).cells.toList.length)).toArray):=by
      unfold storeVar;have cA:¬((a.eval y).cells.size≠i.size):=by rw[xh,hs];simp
      simp only[Sem.run_bind,ij hi,Result.andThen_ok,if_neg cA]
      have dw:∀v∈(a.eval y).cells.toList,v.oneCell'=true:=fun v hv=>by
        obtain⟨j,af⟩:=kF hv;have a7:j<z.cells.length:=by rw[qh.1];exact(bt.1 af).1
        exact(qh.2 j _ v (bE a7) af).cell
      have:=run_storeCells_at (P:=P) (ad k) off t (a.eval y).cells.toList 0 vs.toArray w g1 (by have:=g2.1;simp;omega) dw;simpa using this
    have hrel:=(Rel.set (k:=k) (ds:=eP cs off z.cells) (an.put (dst:=o.dst) hd (cR.undef _)) (by rw[aB.ze];exact hm) (by rw[aB.abh];exact g2.eP qh off aa));unfold Oper.wp
    have fB:(execOp a.eval o).run P w = .ok .skip (w.setRow (ad k) (vs.take off++(a.eval y).cells.toList++vs.drop (off+(a.eval y).cells.toList.length)).toArray):=by
      simp only[execOp,aD,Instr.storeAt,hp,Instr.sureAddr,Sem.run_bind,Sem.run_pure,Result.andThen_ok,gi]
    rw[fB];exact⟨ad,hrel⟩
  | new cs d dT hm aA hd =>
    have main:∀(vs:List Value) (ty:TypeId),bS (s.free A ad) ad w cs vs→(∀x∈cs,∀j,x.owns j→∃ay,s.mem j=some ay)→(execOp a.eval o).run P w = .ok (.value (.pointer (some ⟨w.heap.size,0,none⟩))) (w.alloc (.cells vs.toArray ty)) →
        o.wp P a w (fun a' w'=>∃aW,Rel B A ((s.ep d cs).put (some d) (.w (.one (.own d 0)))) aW a' w') Q:=by
      intro vs ty al da fB;refine Oper.te fB ⟨fun k=>if k=d then w.heap.size else ad k,?_⟩;rw[dT];refine(an.new ok hd hm al da).put (fun d' e=>by cases e;exact hd) ?_;show Value.pointer _=Value.pointer _;simp
    cases aA with
    | alloc ty i z cs aD hi aT ak h1 =>
      subst ak;refine main z.cells.toList ty ⟨by simp,fun j x v ab hv => ?_⟩ (fun x ab j af => ?_) ?_
      · rw[dG,hv] at ab
        cases ab;exact⟨rfl,b6.1 h1 v (cN hv)⟩
      · obtain⟨v,_,rfl⟩:=fS.1 ab
        cases af
      · have tW:(zeroValue ty).run P w = .ok z w:=by simp[zeroValue,typeInfo,program,Sem.run_bind,Sem.run,hi,Result.andThen,aT]
        simp only[execOp,aD,Instr.alloc,Sem.run_bind,tW,Result.andThen_ok,newVar,newRow,newObj,Sem.run];rfl
    | box ty x z aD ab =>
      have aT:gV (s.free A ad) ad w z (a.eval x):=an.look ab;refine main (a.eval x).cells.toList ty aT.cells (fun y ai j af => ?_) ?_
      · cases x with
        | tmp t=>exact ok.dp t _ j ab ⟨y,ai,af⟩
        | const v =>
          simp only[aB.look] at ab
          split at ab
          · cases ab;simp[bG.cells] at ai;subst ai;cases af
          · cases ab
        | global g=>cases ab;simp[bG.cells] at ai;subst ai;cases af
        | func g=>cases ab;simp[bG.cells] at ai;subst ai;cases af
      · simp only[execOp,aD,Instr.box,newVar,newRow,newObj,Sem.run_bind,Sem.run,Result.andThen_ok]
        rfl
  | call f args r ak hp hd =>
    obtain⟨⟨c,g,aD,Bv,aZ⟩,Bx⟩:=ak;have dz:∀ {y:Operand} {x:ag},x∈args→s.look y=some x→cR (s.free A ad) id w x (a.eval y):=fun{y x} ab ai=>Rel.Ri (ad:=ad) (hp.hl x ab) (an.look ai)
    obtain⟨us,cM,fB⟩:∃us:List Value,im (s.free A ad) id w args us∧(execOp a.eval o).run P w = .ok (.enter f us.toArray) w:=by
      rcases aZ with ⟨bs,aw,qa,Fw⟩|⟨cs,aw,qa⟩
      · have jA:a.eval g = .func (.func f) bs.toArray #[]:=(an.look aw).1
        refine⟨bs++c.args.toList.map a.eval,?_,?_⟩
        · refine⟨by have:=congrArg List.length qa;simpa using this.symm,fun i x v ab hv => ?_⟩
          have h1:(bs.map (fun b=>some (zm b))++c.args.toList.map s.look)[i]?=some (some x):=by rw[qa,dG,ab];rfl
          rcases ie i bs.length with a7|iT
          · rw[fI (by simpa using a7),dG] at h1
            rw[fI a7] at hv;rw[hv] at h1;simp only[gD,iE] at h1;subst h1;exact UX (b6.1 Fw v (cN hv))
          · rw[gn (by simpa using iT),dG] at h1
            rw[gn iT,dG] at hv;simp only[jN] at h1;cases ai:c.args.toList[i-bs.length]? with
            | none=>rw[ai] at hv;cases hv
            | some y =>
              rw[ai] at h1 hv;simp only[gD,iE] at h1 hv;subst hv;exact dz (cN ab) h1
        · have e:bs.toArray++c.args.map a.eval ++ #[]=(bs++c.args.toList.map a.eval).toArray:=by
            rw[Array.append_empty];apply Array.ext';simp
          simp only[execOp,aD,resolve,Bv,Deferred.ofValue,jA];simp only[Sem.run_bind,Sem.run_pure,Result.andThen_ok,invoke];rw[e];exact yy Bx
      · obtain⟨vs,jA,ct⟩:=l4.ZR (ad:=ad) (an.look aw)
        refine⟨c.args.toList.map a.eval++vs,?_,?_⟩
        · refine⟨by have:=congrArg List.length qa;have h2:=ct.1;simp at this ⊢;omega,fun i x v ab hv => ?_⟩
          have h1:(c.args.toList.map s.look++cs.map (fun x=>some (.w (.one x))))[i]?=some (some x):=by rw[qa,dG,ab];rfl
          rcases ie i c.args.toList.length with a7|iT
          · rw[fI (by simpa using a7),dG] at h1
            rw[fI (by simpa using a7),dG] at hv;cases ai:c.args.toList[i]? with
            | none=>rw[ai] at hv;cases hv
            | some y =>
              rw[ai] at h1 hv;simp only[gD,iE] at h1 hv;subst hv;exact dz (cN ab) h1
          · rw[gn (by simpa using iT),dG] at h1
            rw[gn (by simpa using iT)] at hv;simp only[jN] at h1 hv;cases ai:cs[i-c.args.toList.length]? with
            | none=>rw[ai] at h1;cases h1
            | some y =>
              rw[ai] at h1;simp only[gD,iE] at h1;subst h1;exact ct.2 _ y v ai hv
        · have e:(#[]:Array Value)++c.args.map a.eval++vs.toArray=(c.args.toList.map a.eval++vs).toArray:=by
            apply Array.ext';simp
          simp only[execOp,aD,resolve,Bv,Deferred.ofValue,jA];simp only[Sem.run_bind,Sem.run_pure,Result.andThen_ok,invoke];rw[e];exact yy Bx
    unfold Oper.wp;rw[fB];refine(hp.call (s.free A ad) w _ cM).mono ?_;rintro e w' ⟨v,rfl,hv,aa⟩;refine⟨ad,(an.call aa).put hd (hv.map (fun b cQ al=>⟨?_,rfl⟩) fun j af=>absurd af (hp.cq j))⟩;rcases cQ with h|h
    · exact h
    · refine⟨an.up b (eO an.below.size h),fun k cs ae e => ?_⟩
      have:=an.lt ae;omega
end
def amm:ag := .cl []
def want(ops:Array Oper)(o:Oper)(s:aB):Option Bool :=
  match o.guard with
  | none=>some true
  | some (g,b) =>
    match (ops[g]?).bind (·.dst) with
    | some d=>match s.tmps d with
      | some (.w (.one (.c (.bool x))))=>some (some x==some b)
      | some (.cl _)=>some false
      | _=>none
    | none=>none
def nI(o:Oper):Nat :=
  match o.op with
  | .load .. => 1
  | .store .. => 2
  | _=>0
def xo(x y:Oper):Bool := !(nI x==2&&nI y != 0) && !(nI x != 0&&nI y==2)
def addrOf(o:Oper):Option Operand :=
  match o.op with
  | .load _ x=>some x
  | .store _ x _=>some x
  | _=>none
def AJ:ag→ag→Bool
  | .w (.one (.own k _)),.w (.one (.own j _)) => !Nat.beq k j
  | .w (.one (.own _ _)),.w (.one (.p _))=>true
  | .w (.one (.p _)),.w (.one (.own _ _))=>true
  | _,_=>false
theorem Im{k j o p:Nat}(h:AJ (.w (.one (.own k o))) (.w (.one (.own j p)))=true):k≠j:=fun e=>by
  subst e;simp[AJ,qz] at h
def Al(s:aB)(x y:Oper):Prop:=xo x y=true∨∃a b u v,addrOf x=some a∧addrOf y=some b∧s.look a=some u∧s.look b=some v∧AJ u v=true
section
variable{P:Program}{B:cV}{A:Nat→Prop}{s s1 s2 s':aB}{ad:Nat→Nat}{a:Act}{w:World}{o bA bH:Oper}{ops:Array Oper}
theorem Sf{x:Operand}{dst:Option Nat}{v:ag}(h:∀d,dst=some d→x ≠ .tmp d):(s.put dst v).look x=s.look x:=by
  cases dst with
  | none=>rfl
  | some d =>
    cases x with
    | tmp t=>simp only[aB.look,aB.put];exact bN _ _ (fun e=>h d rfl (by rw[e]))
    | _=>rfl
theorem agr{x:Operand}{k:Nat}{cs:List AC}:(s.ep k cs).look x=s.look x:=by cases x <;> rfl
theorem yd.congr{look hb:Operand→Option ag}{av:ag}(h:yd P look o av)(e:∀x∈o.op.operands,hb x=look x):yd P hb o av :=
  ⟨h.ak9,fun x ab=>by rw[e x ab];exact h.ops x ab,fun U ad W env he=>h.run U ad W env fun x ab a aV=>he x ab a (by rw[e x ab];exact aV),fun j af=>by
    obtain⟨x,ab,a,aV,acD⟩:=h.own j af;exact⟨x,ab,a,by rw[e x ab];exact aV,acD⟩⟩
theorem x7.congr{look hb:Operand→Option ag}{av:ag}(h:x7 P look o av)(e:∀x∈o.op.operands,hb x=look x):x7 P hb o av :=
  ⟨fun x ab=>by rw[e x ab];exact h.ops x ab,h.gX,fun U ad W env he=>h.run U ad W env fun x ab a aV=>he x ab a (by rw[e x ab];exact aV)⟩
theorem wv.congr{look hb:Operand→Option ag}{cs:List AC}(h:wv P look o cs)(e:∀x∈o.op.operands,hb x=look x):wv P hb o cs:=by
  cases h with
  | alloc ty i z cs aD hi aT ak h1=>exact .alloc ty i z cs aD hi aT ak h1
  | box ty x z aD ab=>exact .box ty x z aD (by rw[e x (by simp[aD,Op.operands])];exact ab)
theorem r0.congr{look hb:Operand→Option ag}{f:FuncId}{args:List ag}(h:r0 P look o f args)(e:∀x∈o.op.operands,hb x=look x):r0 P hb o f args:=by
  obtain⟨⟨c,g,aD,ak,aZ⟩,he⟩:=h;have EK:hb g=look g:=e g (by simp[aD,Op.operands,Call.operands,ak]);have jz:c.args.toList.map hb=c.args.toList.map look:=nN fun x ab=>e x (by simp[aD,Op.operands,Call.operands,ak];exact .inr (by simpa using ab));refine⟨⟨c,g,aD,ak,?_⟩,he⟩;rcases aZ with ⟨bs,aw,aV,aa⟩|⟨cs,aw,aV⟩
  · exact .inl ⟨bs,by rw[EK];exact aw,by rw[jz];exact aV,aa⟩
  · exact .inr ⟨cs,by rw[EK];exact aw,by rw[jz];exact aV⟩
theorem aB.put_comm(s:aB){x y:Option Nat}(v u:ag)(h:∀d,x=some d→y≠some d):(s.put x v).put y u=(s.put y u).put x v:=by
  cases x with
  | none=>rfl
  | some d =>
    cases y with
    | none=>rfl
    | some e =>
      have cA:e≠d:=fun he=>h d rfl (by rw[he]);simp only[aB.put];rw[V5 _ _ _ cA]
theorem aB.zr(s:aB)(x:Option Nat)(v:ag)(k:Nat)(cs:List AC):(s.put x v).ep k cs=(s.ep k cs).put x v:=by cases x <;> rfl
theorem aB.alb(s:aB){k j:Nat}(cs ds:List AC)(h:j≠k):(s.ep k cs).ep j ds=(s.ep j ds).ep k cs:=by
  simp only[aB.ep];rw[V5 _ _ _ h]
structure cC where
  v:ag
  m:Option (Nat×List AC)
def cC.on(e:cC)(dst:Option Nat)(s:aB):aB :=
  match e.m with
  | some (k,cs)=>(s.ep k cs).put dst e.v
  | none=>s.put dst e.v
inductive fa (P:Program) (n:Nat) (look:Operand→Option ag) (mem:Nat→Option (List AC)) (o:Oper):Bool→cC→Prop
  | skip:fa P n look mem o false ⟨.cl [],none⟩
  | quiet (av:ag) (aj:yd P look o av):fa P n look mem o true ⟨av,none⟩
  | fresh (av:ag) (aj:x7 P look o av):fa P n look mem o true ⟨av,none⟩
  | load (ty:TypeId) (x:Operand) (k off:Nat) (cs:List AC) (av:bG) (aD:o.op = .load ty x) (ab:look x=some (.w (.one (.own k off)))) (hm:mem k=some cs) (hv:pick P ty cs off=some av):fa P n look mem o true ⟨.w av,none⟩
  | store (ty:TypeId) (x y:Operand) (k off:Nat) (cs:List AC) (z:bG) (i:TypeInfo) (aD:o.op = .store ty x y) (ab:look x=some (.w (.one (.own k off)))) (ai:look y=some (.w z)) (hm:mem k=some cs) (hi:P.info? ty=some i) (hs:i.size=z.cells.length) (aa:off+z.cells.length≤cs.length):fa P n look mem o true ⟨.cl [],some (k,eP cs off z.cells)⟩
  | new (cs:List AC) (d:Nat) (dT:o.dst=some d) (hm:mem d=none) (aA:wv P look o cs):fa P n look mem o true ⟨.w (.one (.own d 0)),some (d,cs)⟩
  | call (f:FuncId) (args:List ag) (r:ag) (ak:r0 P look o f args) (hp:aP P f args r):fa P n look mem o true ⟨r,none⟩
theorem fa.step{e:cC}(h:fa P s.n s.look s.mem o true e)(hd:∀d,o.dst=some d→d<s.n):mB P s o (e.on o.dst s):=by
  cases h with
  | quiet av aj=>exact .quiet av aj hd
  | fresh av aj=>exact .fresh av aj hd
  | load ty x k off cs av aD ab hm hv=>exact .load ty x k off cs av aD ab hm hv hd
  | store ty x y k off cs z i aD ab ai hm hi hs aa =>
    have:=mB.store (P:=P) (s:=s) ty x y k off cs z i aD ab ai hm hi hs aa hd;rw[aB.zr] at this;exact this
  | new cs d dT hm aA =>
    have:=mB.new (P:=P) (s:=s) cs d dT hm aA (hd d dT);rw[←dT] at this;exact this
  | call f args r ak hp=>exact .call f args r ak hp hd
theorem cC.sT(e:cC)(dst:Option Nat)(s:aB):(e.on dst s).mem=match e.m with|some (k,cs)=>upd s.mem k cs|none=>s.mem:=by
  unfold cC.on
  split
  · rename_i h;rw[aB.ze];simp[aB.ep]
  · rename_i h;rw[aB.ze]
theorem cC.sS(e:cC)(dst:Option Nat)(s:aB){x:Operand}(h:∀d,dst=some d→x ≠ .tmp d):(e.on dst s).look x=s.look x:=by
  unfold cC.on
  split
  · rw[Sf h,agr]
  · rw[Sf h]
theorem cC.vC(e:cC)(dst:Option Nat)(s:aB):(e.on dst s).n=s.n:=by
  unfold cC.on
  split
  · rw[aB.ue];rfl
  · rw[aB.ue]
theorem cC.CC(e f:cC)(x y:Option Nat)(s:aB)(h:∀d,x=some d→y≠some d)(ae:∀k cs j ds,e.m=some (k,cs)→f.m=some (j,ds)→j≠k):f.on y (e.on x s)=e.on x (f.on y s):=by
  unfold cC.on;cases he:e.m with
  | none =>
    cases au:f.m with
    | none=>simp only[he,au];exact aB.put_comm s _ _ h
    | some q=>obtain⟨j,ds⟩:=q;simp only[he,au];rw[aB.zr];exact aB.put_comm _ _ _ h
  | some p =>
    obtain⟨k,cs⟩:=p;cases au:f.m with
    | none=>simp only[he,au];rw[aB.zr];exact aB.put_comm _ _ _ h
    | some q =>
      obtain⟨j,ds⟩:=q;simp only[he,au];rw[aB.zr,aB.zr,aB.alb s _ _ (ae k cs j ds he au)];exact aB.put_comm _ _ _ h
theorem vv{x:Operand}{d:Nat}{y:Oper}(h:d∉y.looksAt ops)(ab:x∈y.op.operands):x ≠ .tmp d:=fun e=>h (by
  subst e;exact sW _ (List.mem_filterMap.2 ⟨.tmp d,by simpa using ab,rfl⟩))
theorem fa.swap{b c:Bool}{e f:cC}(ok:s.bQ)(he:fa P s.n s.look s.mem bA b e)(au:fa P (e.on bA.dst s).n (e.on bA.dst s).look (e.on bA.dst s).mem bH c f)(tK:bA.apart ops bH=true)(oh:Al s bA bH) :
    fa P s.n s.look s.mem bH c f∧fa P (f.on bH.dst s).n (f.on bH.dst s).look (f.on bH.dst s).mem bA b e∧f.on bH.dst (e.on bA.dst s)=e.on bA.dst (f.on bH.dst s):=by
  obtain⟨a1,a2,a3⟩:=Oper.apart_spec tK;have ov:∀x∈bH.op.operands,(e.on bA.dst s).look x=s.look x:=fun x ab=>cC.sS _ _ _ fun d hd=>vv (a1 d hd) ab;have cG:=cC.sT e bA.dst s
 
  have w8:∀k cs,e.m=some (k,cs)→(∃ay,s.mem k=some ay)∨s.mem k=none:=fun k cs _=>by
    cases h:s.mem k with
    | none=>exact .inr rfl
    | some c=>exact .inl ⟨c,rfl⟩
  have Tj:∀x k off,s.look x=some (.w (.one (.own k off)))→∃cs,s.mem k=some cs:=fun x k off ab=>by
    cases x with
    | tmp t=>exact ok.dp t _ k ab ⟨.own k off,by simp[bG.cells],rfl⟩
    | const v=>simp only[aB.look] at ab;split at ab <;> cases ab
    | global g=>cases ab
    | func g=>cases ab
 
  have Su:∀x k off,addrOf bH=some x→nI bH≠0→s.look x=some (.w (.one (.own k off)))→(e.on bA.dst s).mem k=s.mem k:=by
    intro x k off JG J6 ab;rw[cG];cases he with
    | skip=>rfl
    | quiet av aj=>rfl
    | fresh av aj=>rfl
    | load=>rfl
    | call=>rfl
    | store ty x' y' k' S8 cs z i aD kC ai hm hi hs aa =>
      rcases oh with oh|⟨a,b,q,p,aV,cQ,jz,np,cA⟩
      · exfalso
        have:nI bA=2:=by simp[nI,aD]
        simp[xo,this,J6] at oh
      · simp only[addrOf,aD,iE] at aV
        subst aV;rw[kC] at jz;cases jz;rw[JG] at cQ;cases cQ;rw[ab] at np;cases np;show upd s.mem k' _ k=s.mem k;exact bN _ _ (Ne.symm (Im cA))
    | new cs d dT hm aA =>
      obtain⟨c,ak⟩:=Tj x k off ab;show upd s.mem d cs k=s.mem k;exact bN _ _ (fun e=>by subst e;rw[hm] at ak;cases ak)
  have oL:fa P s.n s.look s.mem bH c f:=by
    cases au with
    | skip=>exact .skip
    | quiet av aj=>exact .quiet av (aj.congr fun x ab=>(ov x ab).symm)
    | fresh av aj=>exact .fresh av (aj.congr fun x ab=>(ov x ab).symm)
    | load ty x k off cs av aD ab hm hv =>
      have kC:s.look x=some (.w (.one (.own k off))):=by rw[←ov x (by simp[aD,Op.operands])];exact ab
      exact .load ty x k off cs av aD kC (by rw[←Su x k off (by simp[addrOf,aD]) (by simp[nI,aD]) kC];exact hm) hv
    | store ty x y k off cs z i aD ab ai hm hi hs aa =>
      have kC:s.look x=some (.w (.one (.own k off))):=by rw[←ov x (by simp[aD,Op.operands])];exact ab
      exact .store ty x y k off cs z i aD kC (by rw[←ov y (by simp[aD,Op.operands])];exact ai) (by rw[←Su x k off (by simp[addrOf,aD]) (by simp[nI,aD]) kC];exact hm) hi hs aa
    | new cs d dT hm aA =>
      refine .new cs d dT ?_ (aA.congr fun x ab=>(ov x ab).symm);rw[cG] at hm;cases oc:e.m with
      | none=>rw[oc] at hm;exact hm
      | some p =>
        obtain⟨k,c⟩:=p;rw[oc] at hm
        by_cases hZ:d=k
        · subst hZ
          change upd s.mem d c d=none at hm
          rw[bX] at hm;cases hm
        · change upd s.mem k c d=none at hm
          rwa [bN _ _ hZ] at hm
    | call g args r ak hp=>exact .call g args r (ak.congr fun x ab=>(ov x ab).symm) hp
  have mr:∀x∈bA.op.operands,(f.on bH.dst s).look x=s.look x:=fun x ab=>cC.sS _ _ _ fun d hd=>vv (a3 d hd) ab;have Sp:=cC.sT f bH.dst s
  have sx:fa P (f.on bH.dst s).n (f.on bH.dst s).look (f.on bH.dst s).mem bA b e:=by
    have Ss:∀x k off,addrOf bA=some x→nI bA≠0→s.look x=some (.w (.one (.own k off)))→(f.on bH.dst s).mem k=s.mem k:=by
      intro x k off JG J6 ab;rw[Sp];cases oL with
      | skip=>rfl
      | quiet av aj=>rfl
      | fresh av aj=>rfl
      | load=>rfl
      | call=>rfl
      | store ty x' y' k' S8 cs z i aD kC ai hm hi hs aa =>
        rcases oh with oh|⟨a,b,q,p,aV,cQ,jz,np,cA⟩
        · exfalso
          have:nI bH=2:=by simp[nI,aD]
          simp[xo,this,J6] at oh
        · simp only[addrOf,aD,iE] at cQ
          subst cQ;rw[kC] at np;cases np;rw[JG] at aV;cases aV;rw[ab] at jz;cases jz;show upd s.mem k' _ k=s.mem k;exact bN _ _ (Im cA)
      | new cs d dT hm aA =>
        obtain⟨c,ak⟩:=Tj x k off ab;show upd s.mem d cs k=s.mem k;exact bN _ _ (fun e=>by subst e;rw[hm] at ak;cases ak)
    cases he with
    | skip=>exact .skip
    | quiet av aj=>exact .quiet av (aj.congr fun x ab=>mr x ab)
    | fresh av aj=>exact .fresh av (aj.congr fun x ab=>mr x ab)
    | load ty x k off cs av aD ab hm hv=>exact .load ty x k off cs av aD (by rw[mr x (by simp[aD,Op.operands])];exact ab) (by rw[Ss x k off (by simp[addrOf,aD]) (by simp[nI,aD]) ab];exact hm) hv
    | store ty x y k off cs z i aD ab ai hm hi hs aa=>exact .store ty x y k off cs z i aD (by rw[mr x (by simp[aD,Op.operands])];exact ab) (by rw[mr y (by simp[aD,Op.operands])];exact ai) (by rw[Ss x k off (by simp[addrOf,aD]) (by simp[nI,aD]) ab];exact hm) hi hs aa
    | new cs d dT hm aA =>
      refine .new cs d dT ?_ (aA.congr fun x ab=>mr x ab);rw[Sp];cases oL with
      | skip=>exact hm
      | quiet av aj=>exact hm
      | fresh av aj=>exact hm
      | load=>exact hm
      | call=>exact hm
      | store ty x' y' k' S8 ay z i aD kC ai eM hi hs aa =>
        show upd s.mem k' _ d=none;rw[bN _ _ (fun e=>by subst e;rw[hm] at eM;cases eM)];exact hm
      | new ay d' ac3 eM BH =>
        show upd s.mem d' _ d=none;rw[bN _ _ (fun e=>a2 d dT (by rw[ac3,e]))];exact hm
    | call g args r ak hp=>exact .call g args r (ak.congr fun x ab=>mr x ab) hp
  refine⟨oL,sx,cC.CC e f bA.dst bH.dst s a2 ?_⟩;intro k cs j ds h1 h2 aaQ;subst aaQ;cases he with
  | skip=>cases h1
  | quiet=>cases h1
  | fresh=>cases h1
  | load=>cases h1
  | call=>cases h1
  | store ty x y k' off ay z i aD ab ai hm hi hs aa =>
    cases h1;cases oL with
    | skip=>cases h2
    | quiet=>cases h2
    | fresh=>cases h2
    | load=>cases h2
    | call=>cases h2
    | store amg dj mA cp ahx ga z2 i2 yV KF =>
      cases h2;rcases oh with oh|⟨a,b,q,p,aV,cQ,jz,np,cA⟩
      · simp[xo,nI,aD,yV] at oh
      · simp only[addrOf,aD,yV,iE] at aV cQ
        subst aV;subst cQ;rw[ab] at jz;rw[KF] at np;cases jz;cases np;exact Im cA rfl
    | new ga d2 Qk og Kc=>cases h2;rw[og] at hm;cases hm
  | new ay d dT hm aA =>
    cases h1;cases oL with
    | skip=>cases h2
    | quiet=>cases h2
    | fresh=>cases h2
    | load=>cases h2
    | call=>cases h2
    | store amg dj mA cp ahx ga z2 i2 yV KF KG og=>cases h2;rw[og] at hm;cases hm
    | new ga d2 Qk og Kc=>cases h2;exact a2 _ dT Qk
end
section
variable{P:Program}{B:cV}{A:Nat→Prop}{s s1 s2 s':aB}{ad:Nat→Nat}{a:Act}{w:World}{o bA bH:Oper}{ops:Array Oper}{md:Region.Mode}
theorem look_ok{x:Operand}{av:ag}{j:Nat}(ok:s.bQ)(ab:s.look x=some av)(af:av.owns j):∃cs,s.mem j=some cs:=by
  have none:∀v,¬(ag.w (.one (.c v))).owns j:=fun v ⟨y,ai,h⟩=>by simp[bG.cells] at ai;subst ai;cases h
  cases x with
  | tmp t=>exact ok.dp t av j ab af
  | const v =>
    simp only[aB.look] at ab
    split at ab
    · cases ab;exact absurd af (none _)
    · cases ab
  | global g=>cases ab;exact absurd af (none _)
  | func g=>cases ab;exact absurd af (none _)
theorem aB.bQ.put{dst:Option Nat}{av:ag}(ok:s.bQ)(h:∀j,av.owns j→∃cs,s.mem j=some cs):(s.put dst av).bQ:=by
  cases dst with
  | none=>exact ok
  | some d =>
    refine⟨fun t bv j aC af => ?_,ok.c4⟩;simp only[aB.put] at aC ⊢
    by_cases e:t=d
    · subst e;rw[bX] at aC;cases aC;exact h j af
    · rw[bN _ _ e] at aC;exact ok.dp t bv j aC af
theorem aB.bQ.ep{k:Nat}{cs:List AC}(ok:s.bQ)(h:∀x∈cs,∀j,x.owns j→∃ay,s.mem j=some ay):(s.ep k cs).bQ:=by
  have up:∀j,(∃c,s.mem j=some c)→∃c,(s.ep k cs).mem j=some c:=fun j ⟨c,ak⟩=>by
    by_cases e:j=k
    · exact⟨cs,by rw[e];exact bX _ _ _⟩
    · exact⟨c,by simp only[aB.ep];rw[bN _ _ e];exact ak⟩
  refine⟨fun t bv j aC af=>up j (ok.dp t bv j aC af),fun k' c x j ae ab af=>up j ?_⟩;simp only[aB.ep] at ae
  by_cases e:k'=k
  · subst e;rw[bX] at ae;cases ae;exact h x ab j af
  · rw[bN _ _ e] at ae;exact ok.c4 k' c x j ae ab af
theorem ajC{ty:TypeId}{cs:List AC}{off:Nat}{av:bG}(h:pick P ty cs off=some av):∀x∈av.cells,x∈cs:=by
  unfold pick at h
  split at h
  · cases hi:P.info? ty with
    | none=>rw[hi] at h;cases h
    | some i =>
      rw[hi] at h;simp only[lW] at h
      split at h
      · cases h;exact fun x ab=>oA (o4 ab)
      · cases h
  · cases hi:P.info? ty with
    | none=>rw[hi] at h;cases h
    | some i =>
      rw[hi] at h;simp only[lW] at h
      split at h
      · cases h;exact fun x ab=>oA (o4 ab)
      · cases h
  · cases ab:cs[off]? with
    | none=>rw[ab] at h;cases h
    | some y=>rw[ab] at h;cases h;intro x kC;simp[bG.cells] at kC;subst kC;exact cN ab
  · cases h
theorem mB.ok(h:mB P s o s')(ok:s.bQ):s'.bQ:=by
  cases h with
  | quiet av aj hd =>
    refine ok.put fun j af => ?_;obtain⟨x,ab,b,aa,acI⟩:=aj.own j af;exact look_ok ok aa acI
  | fresh av aj hd=>exact ok.put fun j af=>absurd af (aj.gX j)
  | load ty x k off cs av aD ab hm hv hd =>
    refine ok.put fun j af => ?_;obtain⟨y,ai,nF⟩:=af;exact ok.c4 k cs y j hm (ajC hv y ai) nF
  | store ty x y k off cs z i aD ab ai hm hi hs aa hd =>
    rw[aB.zr];refine aB.bQ.put (ok.ep fun x ab j af => ?_) fun j af=>(by obtain⟨y,ai,_⟩:=af;cases ai);unfold eP at ab;simp only[kg] at ab;rcases ab with (h1|h1)|h1
    · exact ok.c4 k cs x j hm (o4 h1) af
    · exact look_ok ok ai ⟨x,h1,af⟩
    · exact ok.c4 k cs x j hm (oA h1) af
  | new cs d dT hm aA hd =>
    refine aB.bQ.put (ok.ep fun x ab j af => ?_) fun j af => ?_
    · cases aA with
      | alloc ty i z cs aD hi aT ak h1=>subst ak;obtain⟨v,_,rfl⟩:=fS.1 ab;cases af
      | box ty y z aD ai=>exact look_ok ok ai ⟨x,ab,af⟩
    · obtain⟨y,ai,nF⟩:=af
      simp[bG.cells] at ai;subst ai;cases nF;exact⟨cs,bX _ _ _⟩
  | call f args r ak hp hd=>exact ok.put fun j af=>absurd af (hp.cq j)
def tp(P:Program)(ops:Array Oper)(o:Oper)(K:aB→Prop)(s:aB):Prop :=
  ∃b,want ops o s=some b∧∃e,fa P s.n s.look s.mem o b e∧(∀d,o.dst=some d→d<s.n)∧K (e.on o.dst s)
def wy(P:Program)(md:Region.Mode)(ops:Array Oper)(K:aB→Prop):Nat→Array Bool→aB→Prop
  | 0,listed,s=>Region.ready md ops listed=[]∧K s
  | eW+1,listed,s=>(Region.ready md ops listed=[]→K s) ∧
    ∀i∈Region.ready md ops listed,∀o,ops[i]?=some o→tp P ops o (wy P md ops K eW (listed.setIfInBounds i true)) s
theorem MT{b:Bool}(h:want ops o s=some b)(an:Rel B A s ad a w):Region.wanted o (yielded ops a.tmps)=b:=by
  unfold want at h;unfold Region.wanted
  split at h
  · rename_i aw;rw[aw];cases h;rfl
  · rename_i g b0 aw
    rw[aw]
    split at h
    · rename_i d hd
      split at h
      · rename_i x ab
        cases h;obtain⟨v,h1,h2⟩:=an.dp d _ ab;obtain⟨rfl,_⟩:=h2;simp[yielded,hd,h1]
      · rename_i xs ab
        cases h;obtain⟨v,h1,h2⟩:=an.dp d _ ab;obtain⟨vs,rfl,_⟩:=h2;simp[yielded,hd,h1]
      · cases h
    · cases h
theorem AY{b:Bool}{e:cC}(ok:s.bQ)(he:fa P s.n s.look s.mem o b e)(hd:∀d,o.dst=some d→d<s.n):(e.on o.dst s).bQ:=by
  cases b with
  | true=>exact(he.step hd).ok ok
  | false=>cases he;exact ok.put fun j af=>(by obtain⟨y,ai,_⟩:=af;cases ai)
theorem D1{ro:Option Nat}{K:aB→Prop}{K':Act→World→Prop}{Q:Exit→Act→World→Prop}{i:Nat}(hi:ops[i]?=some o)(ok:s.bQ)(an:Rel B A s ad a w)(h:tp P ops o K s)
    (fc:∀s' aW a' w',s'.bQ→Rel B A s' aW a' w'→K s'→K' a' w'):wpOpIn (l8 ro) 0 P ops Q i K' a w:=by
  obtain⟨b,hw,e,he,hd,ae⟩:=h;have nE:=MT hw an;unfold wpOpIn;simp only[hi];cases b with
  | true =>
    rw[nE];simp only[if_true];have bV:=(he.step hd).ok ok;exact Oper.Wv (Oper.wp_mono (fun a' w' ⟨aW,ao⟩=>fc _ aW a' w' bV ao ae) (mB.sound (he.step hd) an ok)) ((he.step hd).SO an)
  | false =>
    rw[nE];simp only[pB,if_false];cases he;exact⟨fun _ _=>trivial,fc _ ad _ _ (ok.put fun j af=>(by obtain⟨y,ai,_⟩:=af;cases ai)) (an.put hd (cR.undef _)) ae⟩
theorem H7{ro:Option Nat}{K:aB→Prop}{Q:Exit→Act→World→Prop}(nv:∀s' aW a' w',s'.bQ→Rel B A s' aW a' w'→K s'→Q .normal a' w'):∀(eW:Nat) (listed:Array Bool) (s:aB) (ad:Nat→Nat) (a:Act) (w:World),s.bQ→Rel B A s ad a w →
    wy P md ops K eW listed s→wpAnyIn (l8 ro) 0 P md ops Q eW listed a w
  | 0,_,_,_,_,_,ok,an,h=>⟨h.1,nv _ _ _ _ ok an h.2⟩
  | eW+1,listed,s,ad,a,w,ok,an,h=>⟨fun aF=>nv _ _ _ _ ok an (h.1 aF),fun i hi=>by
      obtain⟨aF,o,aD,_⟩:=mem_ready.1 hi;exact D1 aD ok an (h.2 i hi o aD) fun s' aW a' w' bV bu ae=>H7 nv eW _ s' aW a' w' bV bu ae⟩
theorem zV{b:Option Bool}{e:cC}{dst:Option Nat}(al:∀d,dst=some d→d∉o.looksAt ops):want ops o (e.on dst s)=want ops o s:=by
  have aC:∀d,(∀d',dst=some d'→d≠d')→(e.on dst s).tmps d=s.tmps d:=fun d h=>by
    have:=cC.sS e dst s (x := .tmp d) (fun d' tL e'=>h d' tL (by cases e';rfl));exact this
  unfold want;cases aw:o.guard with
  | none=>rfl
  | some p =>
    obtain⟨g,b0⟩:=p;simp only;cases hd:(ops[g]?).bind (·.dst) with
    | none=>rfl
    | some d =>
      simp only
      rw[aC d (fun d' tL e'=>al d' tL (by
        subst e';unfold Oper.looksAt;rw[aw];exact xD _ (by simp[hd])))]
theorem Ye{b:Bool}{e:cC}{K:aB→Prop}(ok:s.bQ)(hw:want ops bA s=some b)(he:fa P s.n s.look s.mem bA b e)(vi:∀d,bA.dst=some d→d<s.n)(tK:bA.apart ops bH=true)(oh:Al s bA bH)(h:tp P ops bH K (e.on bA.dst s)) :
    tp P ops bH (fun t=>(want ops bA t=some b∧fa P t.n t.look t.mem bA b e∧(∀d,bA.dst=some d→d<t.n)∧t.bQ)∧K (e.on bA.dst t)) s:=by
  obtain⟨a1,a2,a3⟩:=Oper.apart_spec tK;obtain⟨c,tV,f,au,sw,ae⟩:=h;obtain⟨h1,h2,ar⟩:=fa.swap ok he au tK oh;rw[zV (b:=none) a1] at tV;have wZ:∀d,bH.dst=some d→d<s.n:=fun d hd=>by have:=sw d hd;rwa [cC.vC] at this
  refine⟨c,tV,f,h1,wZ,⟨?_,h2,fun d hd=>by rw[cC.vC];exact vi d hd,AY ok h1 wZ⟩,by rw[←ar];exact ae⟩;rw[zV (b:=none) a3];exact hw
theorem NH{K K':aB→Prop}(h:∀s,K s→K' s)(aZ:tp P ops o K s):tp P ops o K' s :=
  let ⟨b,h1,e,h2,ar,aJ⟩:=aZ
  ⟨b,h1,e,h2,ar,h _ aJ⟩
def qS(ops:Array Oper)(listed:Array Bool)(x y:Oper)(s:aB):Prop :=
  xo x y=true∨∃t u o p,addrOf x=some (.tmp t)∧addrOf y=some (.tmp u)∧s.tmps t=some o∧s.tmps u=some p∧AJ o p=true ∧
    ∀i bA,ops[i]?=some bA→listed.getD i true=false→bA.dst≠some t∧bA.dst≠some u
theorem qS.sep{listed:Array Bool}(h:qS ops listed bA bH s):Al s bA bH:=by
  rcases h with h|⟨t,u,o,p,h1,h2,ar,aJ,bR,_⟩
  · exact .inl h
  · exact .inr ⟨_,_,o,p,h1,h2,ar,aJ,bR⟩
theorem cC.zn{e:cC}{dst:Option Nat}{t:Nat}(h:dst≠some t):(e.on dst s).tmps t=s.tmps t:=by
  have:=cC.sS e dst s (x := .tmp t) (fun d hd e'=>by cases e';exact h hd);exact this
theorem qS.on{listed:Array Bool}{f:cC}{o:Oper}{i:Nat}(h:qS ops listed bA bH s)(aD:ops[i]?=some o)(h8:listed.getD i true=false):qS ops (listed.setIfInBounds i true) bA bH (f.on o.dst s):=by
  rcases h with h|⟨t,u,q,p,h1,h2,ar,aJ,bR,fb⟩
  · exact .inl h
  · obtain⟨fG,gC⟩:=fb i o aD h8
    refine .inr ⟨t,u,q,p,h1,h2,by rw[cC.zn fG];exact ar,by rw[cC.zn gC];exact aJ,bR,fun fg fh h6 vt=>fb fg fh h6 ?_⟩
    by_cases e:i=fg
    · subst e;exact h8
    · rwa [getD_set_ne true e] at vt
theorem Yf{b:Bool}{e:cC}{K:aB→Prop}(ok:s.bQ)(hw:want ops bA s=some b)(he:fa P s.n s.look s.mem bA b e)(vi:∀d,bA.dst=some d→d<s.n)(tK:bA.apart ops bH=true)(oh:Al s bA bH)(h:tp P ops bH K (e.on bA.dst s)) :
    tp P ops bH (fun t=>(∃f:cC,t=f.on bH.dst s)∧(want ops bA t=some b∧fa P t.n t.look t.mem bA b e∧(∀d,bA.dst=some d→d<t.n)∧t.bQ)∧K (e.on bA.dst t)) s:=by
  obtain⟨c,h1,f,h2,ar,aJ⟩:=Ye ok hw he vi tK oh h;exact⟨c,h1,f,h2,ar,⟨f,rfl⟩,aJ⟩
def waits(md:Region.Mode)(ops:Array Oper):Nat→Nat→Nat→Bool
  | 0,_,_=>false
  | f+1,j,i=>match ops[j]? with
    | some o=>o.after.any fun e=>Region.binds md e&&(e.on==i||waits md ops f e.on i)
    | none=>false
def Down(md:Region.Mode)(ops:Array Oper)(listed:Array Bool):Prop:=∀k o,listed.getD k false=true→ops[k]?=some o→∀e∈o.after,Region.binds md e=true→listed.getD e.on false=true
theorem zU{listed:Array Bool}(hd:Down md ops listed):∀(f j i:Nat) (o:Oper),ops[j]?=some o→(∀e∈o.after,Region.binds md e=true→listed.getD e.on false=true)→waits md ops f j i=true→listed.getD i false=true
  | 0,_,_,_,_,_,h=>by cases h
  | f+1,j,i,o,aD,dw,h=>by
    simp only[waits,aD] at h;obtain⟨e,he,aa⟩:=Array.any_eq_true'.1 h;simp only[ef,pC,beq_iff_eq] at aa;obtain⟨h1,h2⟩:=aa;have al:=dw e he h1;rcases h2 with h2|h2
    · rw[←h2];exact al
    · cases h6:ops[e.on]? with
      | none=>cases f <;> simp[waits,h6] at h2
      | some fh=>exact zU hd f e.on i fh h6 (fun e' sx cQ=>hd e.on fh al h6 e' sx cQ) h2
theorem Down.set{listed:Array Bool}(hd:Down md ops listed){j:Nat}(af:j∈Region.ready md ops listed):Down md ops (listed.setIfInBounds j true):=by
  intro k o ae aD e he aa;obtain⟨_,bH,jl,dw⟩:=mem_ready.1 af
  by_cases e':j=k
  · subst e'
    rw[jl] at aD;cases aD;exact getD_set_true (dw e he aa)
  · refine getD_set_true (hd k o ?_ aD e he aa)
    have:(listed.setIfInBounds j true).getD k false=listed.getD k false:=by simp[CO e']
    rwa [this] at ae
theorem Yd{K:aB→Prop}{i:Nat}{b:Bool}{e:cC}(hi:ops[i]?=some bA):∀(eW:Nat) (listed:Array Bool) (s:aB),
      (∀j bH,ops[j]?=some bH→j≠i→listed.getD j true=false→(∀e∈bH.after,Region.binds md e=true→e.on≠i)→waits md ops 4 j i=false→bA.apart ops bH=true∧qS ops listed bA bH s) →
      Down md ops listed→i∈Region.ready md ops listed→s.bQ→want ops bA s=some b→fa P s.n s.look s.mem bA b e→(∀d,bA.dst=some d→d<s.n) →
      wy P md ops K eW (listed.setIfInBounds i true) (e.on bA.dst s)→wy P md ops K (eW+1) listed s:=by
  intro eW
  induction eW with
  | zero =>
    intro listed s _ et ao ok hw he hd H;refine⟨fun h=>(by rw[h] at ao;cases ao),fun j af bH jl => ?_⟩
    by_cases gY:j=i
    · subst gY;rw[hi] at jl;cases jl;exact⟨b,hw,e,he,hd,H⟩
    · have:=ready_mono af gY
      rw[H.1] at this;cases this
  | succ eW bY =>
    intro listed s h3 et ao ok hw he hd H;refine⟨fun h=>(by rw[h] at ao;cases ao),fun j af bH jl => ?_⟩
    by_cases gY:j=i
    · subst gY;rw[hi] at jl;cases jl;exact⟨b,hw,e,he,hd,H⟩
    · have h1:=H.2 j (ready_mono af gY) bH jl
      obtain⟨w7,ahy,BM,dw⟩:=mem_ready.1 af;rw[jl] at BM;cases BM
      have tP:∀e∈bH.after,Region.binds md e=true→e.on≠i:=fun e he aa gw=>by
        have h1:=dw e he aa;have aF:=(mem_ready.1 ao).1;rw[gw] at h1;rcases ie i listed.size with aK|aK
        · simp[aK] at aF h1;rw[aF] at h1;cases h1
        · simp[zu aK] at h1
      have mm:waits md ops 4 j i=false:=by
        cases tV:waits md ops 4 j i with
        | false=>rfl
        | true =>
          have h1:=zU et 4 j i bH jl dw tV;have aF:=(mem_ready.1 ao).1;rcases ie i listed.size with aK|aK
          · simp[aK] at aF h1;rw[aF] at h1;cases h1
          · simp[zu aK] at h1
      obtain⟨g1,g2⟩:=h3 j bH jl gY w7 tP mm;have h2:=Yf ok hw he hd g1 g2.sep h1;refine NH (fun t ar => ?_) h2;obtain⟨⟨f,rfl⟩,ar⟩:=ar
      have JU:∀k ok,ops[k]?=some ok→k≠i→(listed.setIfInBounds j true).getD k true=false →
          (∀e∈ok.after,Region.binds md e=true→e.on≠i)→waits md ops 4 k i=false→bA.apart ops ok=true∧qS ops (listed.setIfInBounds j true) bA ok (f.on bH.dst s):=fun k ok ae jk h8 ly KE=>by
        have vt:listed.getD k true=false:=by
          by_cases kw:j=k
          · subst kw;exact w7
          · rwa [getD_set_ne true kw] at h8
        obtain⟨q1,q2⟩:=h3 k ok ae jk vt ly KE;exact⟨q1,q2.on jl w7⟩
      refine bY (listed.setIfInBounds j true) _ JU (et.set af) (ready_mono ao (Ne.symm gY)) ar.1.2.2.2 ar.1.1 ar.1.2.1 ar.1.2.2.1 ?_;rw[Array.setIfInBounds_comm _ _ gY];exact ar.2
def bm(P:Program)(ops:Array Oper)(K:aB→Prop):List Oper→aB→Prop
  | [],s=>K s
  | o::rest,s=>tp P ops o (bm P ops K rest) s
def LK(x y:Oper):Option (Nat×Nat) :=
  match addrOf x,addrOf y with
  | some (.tmp t),some (.tmp u)=>some (t,u)
  | _,_=>none
def qp(ops:Array Oper)(listed:Array Bool)(t:Nat):Bool:=(List.range ops.size).all fun j=>listed.getD j true||match ops[j]? with
  | some o=>o.dst != some t
  | none=>true
def nQ(s:aB)(p:Nat×Nat):Bool :=
  match s.tmps p.1,s.tmps p.2 with
  | some x,some y=>AJ x y
  | _,_=>false
def Gc(md:Region.Mode)(ops:Array Oper)(prs:List (Nat×Nat))(listed:Array Bool)(i:Nat):Bool :=
  match ops[i]? with
  | none=>false
  | some bA=>(List.range ops.size).all fun j=>j==i||listed.getD j true||match ops[j]? with
      | some bH=>xo bA bH||waits md ops 4 j i||match LK bA bH with
        | some (t,u)=>prs.contains (t,u)&&qp ops listed t&&qp ops listed u
        | none=>false
      | none=>true
theorem Gp{listed:Array Bool}{t:Nat}(h:qp ops listed t=true)(j:Nat)(o:Oper)(aD:ops[j]?=some o)(h8:listed.getD j true=false):o.dst≠some t:=by
  unfold qp at h;simp only[b6,nO] at h;have:=h j (iD.1 aD).1;simp only[aD,h8,Bool.false_or,bne_iff_ne,ne_eq] at this;exact this
theorem Sq{i:Nat}{prs:List (Nat×Nat)}{listed:Array Bool}(hi:ops[i]?=some bA)(h:Gc md ops prs listed i=true)(hs:∀p∈prs,qp ops listed p.1=true→qp ops listed p.2=true→nQ s p=true)(j:Nat)(bH:Oper)
    (af:ops[j]?=some bH) (cA:j≠i) (h8:listed.getD j true=false) (ly:waits md ops 4 j i=false):qS ops listed bA bH s:=by
  simp only[Gc,hi,b6,nO] at h;have h1:=h j (iD.1 af).1;simp only[af,pC,beq_iff_eq,cA,false_or,h8,pB] at h1;rcases h1 with (h1|h1)|h1
  · exact .inl h1
  · rw[ly] at h1;cases h1
  · split at h1
    · rename_i t u hp
      simp only[ef] at h1;obtain⟨⟨c1,c2⟩,jg⟩:=h1;have nD:=hs (t,u) (by simpa using c1) c2 jg;unfold LK at hp
      split at hp
      · rename_i kM rP aH aN
        cases hp;unfold nQ at nD
        split at nD
        · rename_i o fH q1 q2
          exact .inr ⟨t,u,o,fH,aH,aN,q1,q2,nD,fun fg fh h6 vt=>⟨Gp c2 fg fh h6 vt,Gp jg fg fh h6 vt⟩⟩
        · cases nD
      · cases hp
    · cases h1
def xm(md:Region.Mode)(ops:Array Oper)(prs:List (Nat×Nat)):List Nat→Array Bool→Bool
  | [],listed=>(Region.ready md ops listed).isEmpty
  | k::ord,listed=>(Region.ready md ops listed).contains k&&Region.free md ops listed k&&Gc md ops prs listed k&&xm md ops prs ord (listed.setIfInBounds k true)
def getAll(l:List Oper):List Nat→Option (List Oper)
  | []=>some []
  | i::ord=>match l[i]?,getAll l ord with
    | some o,some r=>some (o::r)
    | _,_=>none
theorem E3{l:List Oper}:∀(ord:List Nat) (r:List Oper),getAll l ord=some r→r.length=ord.length∧∀(j:Nat),r[j]?=(ord[j]?).bind (l[·]?)
  | [],r,h=>by cases h;exact⟨rfl,fun j=>by simp⟩
  | i::ord,r,h=>by
    simp only[getAll] at h
    split at h
    · rename_i o bb aD ao
      cases h;obtain⟨h1,h2⟩:=E3 ord bb ao;refine⟨by simp[h1],fun j => ?_⟩;cases j with
      | zero=>simp[aD]
      | succ j=>simpa using h2 j
    · cases h
theorem NF{K:aB→Prop}:∀(l:List Oper) (s:aB),bm P ops K l s→∃s',K s'∧∀t,(∀o∈l,o.dst≠some t)→s'.tmps t=s.tmps t
  | [],s,h=>⟨s,h,fun _ _=>rfl⟩
  | o::l,s,⟨b,hw,e,he,hd,fc⟩=>by
    obtain⟨s',h1,h2⟩:=NF l _ fc;exact⟨s',h1,fun t aC=>(h2 t fun fh h6=>aC fh (by simp[h6])).trans (cC.zn (aC o (by simp)))⟩
theorem DY{K:aB→Prop}{prs:List (Nat×Nat)}:∀(ord:List Nat) (l:List Oper) (listed:Array Bool) (s:aB),l.length=ord.length→(∀(j:Nat),l[j]?=(ord[j]?).bind (ops[·]?))→(∀k∈ord,listed.getD k true=false)→(∀k,k<ops.size→listed.getD k true=false→k∈ord)→ord.Nodup→Down md ops listed→s.bQ →
    xm md ops prs ord listed=true→bm P ops (fun s=>prs.all (nQ s)=true∧K s) l s→wy P md ops K l.length listed s
  | [],[],_,_,_,_,_,_,_,_,_,cY,h=>⟨by simpa [xm] using cY,h.2⟩
  | [],_::_,_,_,hlen,_,_,_,_,_,_,_,_=>by cases hlen
  | _::_,[],_,_,hlen,_,_,_,_,_,_,_,_=>by cases hlen
  | k::ord,o::l,listed,s,hlen,al,h8,JS,h5,et,ok,cY,h=>by
    have aF:ops[k]?=some o:=by simpa using (al 0).symm
    have pr:=NF _ _ h;simp only[xm,ef] at cY;obtain⟨⟨⟨ao,au⟩,hm⟩,Jt⟩:=cY;obtain⟨b,hw,e,he,hd,fc⟩:=h
    have hs:∀p∈prs,qp ops listed p.1=true→qp ops listed p.2=true→nQ s p=true:=fun p hp fG gC=>by
      obtain⟨s',⟨h1,_⟩,h2⟩:=pr
      have gQ:∀t,qp ops listed t=true→∀fh∈o::l,fh.dst≠some t:=fun t aC fh h6=>by
        obtain⟨j,af⟩:=kF h6;rw[al j] at af;cases aj:(k::ord)[j]? with
        | none=>rw[aj] at af;cases af
        | some q=>rw[aj] at af;exact Gp aC q fh af (h8 _ (cN aj))
      have:=b6.1 h1 p hp;unfold nQ at this ⊢;rw[h2 p.1 (gQ _ fG),h2 p.2 (gQ _ gC)] at this;exact this
    rw[List.nodup_cons] at h5;have cA:∀q∈ord,k≠q:=fun q aj e=>h5.1 (by rw[e];exact aj);refine Yd aF l.length listed s (fun j bH h1 h2 ar aJ bR=>⟨Region.free_spec aF au j bH h1 h2 ar aJ,Sq aF hm hs j bH h1 h2 ar bR⟩) et (by simpa using ao) ok hw he hd ?_;refine DY ord l _ _ (by simpa using hlen) (fun j=>by simpa using al (j+1)) (fun q aj=>by rw[getD_set_ne true (cA q aj)];exact h8 q (by simp[aj])) (fun q aj xa => ?_) h5.2 (et.set (by simpa using ao)) (AY ok he hd) Jt fc
    by_cases e':k=q
    · subst e'
      have:k<listed.size:=by
        have:=h8 k (by simp);rcases ie k listed.size with aK|aK
        · exact aK
        · simp[zu aK] at this
      simp[this] at xa
    · rw[getD_set_ne true e'] at xa
      rcases fi.1 (JS q aj xa) with aK|aK
      · exact absurd aK.symm e'
      · exact aK
def xt(ops:Array Oper)(ord:List Nat):List (Nat×Nat) :=
  match ord with
  | []=>[]
  | i::rest=>(match ops[i]? with
    | some bA=>bif nI bA != 0 then rest.filterMap fun j=>match ops[j]? with
        | some bH=>bif xo bA bH||waits .any ops 4 j i then none else LK bA bH
        | none=>none
      else []
    | none=>[])++xt ops rest
def early(o:Oper):Bool:=(match o.op with | .alloc _=>true|_=>false)&&o.after.isEmpty&&o.guard.isNone
def mu(l:List Oper):List Nat:=((List.range l.length).filter fun i=>match l[i]? with|some o=>early o|none=>false)++(List.range l.length).filter fun i=>match l[i]? with|some o => !early o|none=>false
def fz(P:Program)(c:Code)(Q:Exit→aB→Prop)(s:aB):Prop :=
  s.bQ→∀B A ad a w,Rel B A s ad a w→lc P c (fun e a' w'=>∃s' aW,s'.bQ∧Rel B A s' aW a' w'∧Q e s') a w
def zg:List Nat→Bool
  | []=>true
  | x::xs => !xs.contains x&&zg xs
theorem Gj:∀(l:List Nat),zg l=true→l.Nodup
  | [],_=>List.nodup_nil
  | x::xs,h=>by
    simp only[zg,ef,ul,List.contains_eq_mem,kG] at h;exact List.nodup_cons.2 ⟨h.1,Gj xs h.2⟩
def O0(l:List Oper):Bool:=Nat.beq (mu l).length l.length&&zg (mu l)&&(List.range l.length).all (fun i=>(mu l).contains i)&&(mu l).all (fun i=>Nat.blt i l.length)&&xm .any l.toArray (xt l.toArray (mu l)) (mu l) (Array.replicate l.length false)
theorem Oe{id:Nat}{l hr:List Oper}{Q:Exit→aB→Prop}(hm:P.follows .mixedOrders=true)(cY:O0 l=true)(al:getAll l (mu l)=some hr)
    (h:bm P l.toArray (fun s=>(xt l.toArray (mu l)).all (nQ s)=true∧Q .normal s) hr s):fz P (.region id l.toArray true) Q s:=by
  intro ok B A ad a w an;refine Wk hm fun ro => ?_;unfold O0 at cY;simp only[ef,b6,nO,List.contains_eq_mem,cU] at cY;obtain⟨⟨⟨⟨iP,b1⟩,b2⟩,dO⟩,dh⟩:=cY;obtain⟨g1,g2⟩:=E3 _ _ al;have hd:Rel B A s ad a {w with drawn:=w.drawn+1}:=an.call ((Below.refl _ w).drew);refine H7 (K:=Q .normal) (fun s' aW a' w' bV bu ae=>⟨s',aW,bV,bu,ae⟩) _ _ s ad a _ ok hd ?_;have nd:=Gj _ b1;have hlen:(mu l).length=l.length:=gl iP;have:=DY (md := .any) (ops:=l.toArray) (mu l) hr (Array.replicate l.length false) s g1 (by simpa using g2) (fun q aj=>by have:=dO q aj;simp[lC] at this;simp[this]) (fun q aj _=>b2 q (by simpa using aj)) nd (fun k o ae=>by exfalso;rcases ie k l.length with q|q <;> simp[Array.getElem?_replicate,q] at ae) ok dh h;rw[g1,hlen] at this;simpa using this
theorem NG{ro:Option Nat}{K:aB→Prop}{Q:Exit→Act→World→Prop}(nv:∀s' aW a' w',s'.bQ→Rel B A s' aW a' w'→K s'→Q .normal a' w'):∀(l:List Oper) (k:Nat) (s:aB) (ad:Nat→Nat) (a:Act) (w:World),(∀(j:Nat),l[j]?=ops[k+j]?)→s.bQ→Rel B A s ad a w →
    bm P ops K l s→wpOpsIn (l8 ro) 0 P ops Q ((List.range l.length).map (k + ·)) a w
  | [],_,_,_,_,_,_,ok,an,h=>nv _ _ _ _ ok an h
  | o::l,k,s,ad,a,w,al,ok,an,h=>by
    have aF:ops[k]?=some o:=by simpa using (al 0).symm
    have e:(List.range (o::l).length).map (k + ·)=k::(List.range l.length).map (k+1 + ·):=by
      rw[hP,List.range_succ_eq_map,hQ,List.map_map];congr 1;apply nN;intro j _;simp[oB,oC 1 j]
    rw[e,wpOpsIn_cons];refine D1 aF ok an h fun s' aW a' w' bV bu ae=>NG nv l (k+1) s' aW a' w' (fun j=>by have:=al (j+1);simpa [oB,oC 1 j] using this) bV bu ae
theorem Iq{id:Nat}{l:List Oper}{Q:Exit→aB→Prop}(h:bm P l.toArray (Q .normal) l s):fz P (.region id l.toArray false) Q s:=by
  intro ok B A ad a w an;refine Wj fun ro => ?_;have:=NG (ro:=ro) (ops:=l.toArray) (K:=Q .normal) (Q:=fun e a' w'=>∃s' aW,s'.bQ∧Rel B A s' aW a' w'∧Q e s') (fun s' aW a' w' bV bu ae=>⟨s',aW,bV,bu,ae⟩) l 0 s ad a w (by simp) ok an h;simpa using this
end
section
variable{P:Program}{B:cV}{A:Nat→Prop}{s s1 s2 s':aB}{ad:Nat→Nat}{a:Act}{w:World}{Q:Exit→aB→Prop}{x y:Code}
def tr(next:aB→Prop)(Q:Exit→aB→Prop):Exit→aB→Prop
  | .normal,s=>next s
  | e,s=>Q e s
theorem Of(h:fz P x (tr (fun s'=>fz P y Q s') Q) s):fz P (.seq x y) Q s:=by
  intro ok B A ad a w an;refine Wm (rW (h ok B A ad a w an) ?_);rintro e a' w' ⟨s',aW,bV,bu,aj⟩;cases e <;> first|exact aj bV B A aW a' w' bu|exact⟨s',aW,bV,bu,aj⟩
theorem Is(h:Q .normal s):fz P .skip Q s:=fun ok B A ad a w an=>Wn ⟨s,ad,ok,an,h⟩
theorem Oc{id:Nat}(h:Q (.exit id) s):fz P (.exit id) Q s:=fun ok B A ad a w an=>Wh ⟨s,ad,ok,an,h⟩
theorem Ir(h:Q .ret s):fz P .ret Q s:=fun ok B A ad a w an=>Wl ⟨s,ad,ok,an,h⟩
theorem N7{c:Operand}{t:Bool}(ak:s.look c=some (.w (.one (.c (.bool t)))))(h1:t=true→fz P x Q s)(aF:t=false→fz P y Q s):fz P (.cond c x y) Q s:=by
  intro ok B A ad a w an;have hv:a.eval c = .bool t:=(an.look ak).1;refine Wg hv ?_;cases t with
  | true=>exact h1 rfl ok B A ad a w an
  | false=>exact aF rfl ok B A ad a w an
theorem Ob{c:Operand}(ak:s.look c=some (.w (.one (.c (.bool true)))))(h1:fz P x Q s):fz P (.cond c x y) Q s:=N7 ak (fun _=>h1) (fun e=>by cases e)
theorem Oa{c:Operand}(ak:s.look c=some (.w (.one (.c (.bool false)))))(aF:fz P y Q s):fz P (.cond c x y) Q s:=N7 ak (fun e=>by cases e) (fun _=>aF)
def yl(id:Nat)(Q:Exit→aB→Prop):Exit→aB→Prop
  | .exit iB,s=>bif Nat.beq iB id then Q .normal s else Q (.exit iB) s
  | e,s=>Q e s
theorem Zt{id:Nat}(h:fz P x (yl id Q) s):fz P (.block id x) Q s:=by
  intro ok B A ad a w an;refine Wf (rW (h ok B A ad a w an) ?_);rintro e a' w' ⟨s',aW,bV,bu,aj⟩;cases e with
  | exit iB =>
    simp only[Exit.inBlock];simp only[yl] at aj;cases aa:Nat.beq iB id with
    | true=>rw[aa] at aj;rw[if_pos (gl aa)];exact⟨s',aW,bV,bu,aj⟩
    | false =>
      rw[aa] at aj;have:iB≠id:=fun e=>by subst e;rw[qz] at aa;cases aa
      rw[if_neg this];exact⟨s',aW,bV,bu,aj⟩
  | _=>exact⟨s',aW,bV,bu,aj⟩
structure aB.aU (s s':aB):Prop where
  n:s'.n=s.n
  dp:∀t av,s'.tmps t=some av→s.tmps t=some av
  c4:∀k cs,s'.mem k=some cs→s.mem k=some cs
theorem Rel.le(h:Rel B A s ad a w)(l:s.aU s'):Rel B A s' ad a w:=by
  have au:∀b,s.free A ad b→b<w.heap.size→s'.free A ad b∧w.heap[b]?=w.heap[b]?:=fun b aa _=>⟨⟨aa.1,fun k cs ae=>aa.2 k cs (l.c4 k cs ae)⟩,rfl⟩;refine⟨h.kD,by rw[l.n];exact h.size,fun t av aC => ?_,fun k cs ae => ?_,fun k k' c c' ae eD e=>h.inj k k' c c' (l.c4 _ _ ae) (l.c4 _ _ eD) e,h.below,h.up,fun k b ae=>by rw[l.n];exact h.fN k b ae⟩
  · obtain⟨v,h1,h2⟩:=h.dp t av (l.dp t av aC)
    exact⟨v,h1,h2.map au fun _ _=>rfl⟩
  · obtain⟨vs,ty,h1,h2,ar⟩:=h.c4 k cs (l.c4 k cs ae)
    exact⟨vs,ty,h1,h2.map au fun _ _ _ _=>rfl,ar⟩
theorem Wi{c:Code}{Q:Exit→Act→World→Prop}(I:Nat→Act→World→Prop){n:Nat}(h₀:I n a w)
    (round:∀n a w,I n a w→lc P c (Exit.then (fun a' w'=>∃m,m<n∧I m a' w') Q) a w):lc P (Code.loop c) Q a w:=by
  intro ro b k cs ha aa j9
  have key:∀n a w,I n a w →
      ∃e a' w',Q e a' w'∧ArrivesIn (Machine.fenced P (l8 ro)) P (lone (b.atR a (.code c :: .inLoop c::k)) cs w) b k cs e a' w':=by
    intro n
    induction n using Nat.strongRecOn with
    | _ n bY =>
      intro a w bh;obtain⟨e,pg,pO,aj,mO⟩:=round n a w bh ro b (.inLoop c::k) cs ha aa j9;cases e with
      | normal =>
        obtain⟨m,a7,Jx⟩:=aj;obtain⟨I7,It,MW,Kr,JI⟩:=bY m a7 pg pO Jx;exact⟨I7,It,MW,Kr,.of_steps (StepsIn.trans mO (.one (fenced_calm aa j9 rfl) stepR_inLoop)) JI⟩
      | exit id=>exact⟨_,pg,pO,aj,.pass (x := .inLoop c) rfl (fun _ _ => .inl (by simp)) mO⟩
      | goto l=>exact⟨_,pg,pO,aj,.pass (x := .inLoop c) rfl (fun _ _ => .inl (by simp)) mO⟩
      | ret=>exact⟨_,pg,pO,aj,.pass (x := .inLoop c) rfl (fun _ _ => .inl (by simp)) mO⟩
      | panic ch=>exact⟨_,pg,pO,aj,.pass (x := .inLoop c) rfl (fun _ _ => .inl (by simp)) mO⟩
      | outgrown=>exact⟨_,pg,pO,aj,.pass (x := .inLoop c) rfl (fun _ _ => .inl (by simp)) mO⟩
  obtain⟨e,a',w',aj,mO⟩:=key _ a w h₀;exact⟨e,a',w',aj,.of_steps (.one (fenced_calm aa j9 rfl) stepR_loop) mO⟩
theorem Od(I:Nat→aB→Prop)(n:Nat)(eH:aB)(mo:s.aU eH)(ahz:eH.bQ)(aF:I n eH)
    (round:∀n s,I n s→fz P x (tr (fun s'=>∃m,m<n∧∃C5,s'.aU C5∧C5.bQ∧I m C5) Q) s):fz P (.loop x) Q s:=by
  intro ok B A ad a w an;refine Wi (fun n a w=>∃s ad,s.bQ∧Rel B A s ad a w∧I n s) ⟨eH,ad,ahz,an.le mo,aF⟩ ?_;rintro n a w ⟨s,ad,ok,an,bh⟩;refine rW (round n s bh ok B A ad a w an) ?_;rintro e a' w' ⟨s',aW,bV,bu,aj⟩;cases e with
  | normal =>
    obtain⟨m,hm,C5,al,xy,cd⟩:=aj;exact⟨m,hm,C5,aW,xy,bu.le al,cd⟩
  | _=>exact⟨s',aW,bV,bu,aj⟩
def ag.aU(x y:ag):Prop:=∀U ad W v,cR U ad W x v→cR U ad W y v
theorem ag.aU.refl(x:ag):x.aU x:=fun _ _ _ _ h=>h
theorem ag.aU.of_eq{x y:ag}(h:x=y):x.aU y:=by subst h;exact .refl x
def gS(P:Program)(s:aB):ResultVar→Option bG
  | .tmp t=>match s.tmps t with
    | some (.w x)=>some x
    | _=>none
  | .cell a ty=>match s.tmps a with
    | some (.w (.one (.own k off)))=>(s.mem k).bind (pick P ty · off)
    | _=>none
def packed:List bG→ag
  | [x] => .w x
  | xs => .cl xs
def wC(P:Program)(fn:Func)(r:ag):Exit→aB→Prop
  | .normal,s | .ret,s=>∃xs,fn.results.toList.map (gS P s)=xs.map some∧(packed xs).aU r
  | _,_=>False
theorem Vd{α:Type}{f:α→Sem Value}:∀(l:List α) (vs:List Value),l.length=vs.length→(∀(i:Nat) x v,l[i]?=some x→vs[i]?=some v→(f x).run P w = .ok v w)→(l.mapM f).run P w = .ok vs w
  | [],[],_,_=>rfl
  | [],_::_,h,_=>by cases h
  | _::_,[],h,_=>by cases h
  | x::l,v::vs,al,h=>by
    have aF:=h 0 x v rfl rfl;have bY:=Vd l vs (by simpa using al) (fun i x v ab hv=>h (i+1) x v (by simpa using ab) (by simpa using hv));rw[List.mapM_cons];simp only[Sem.run_bind,aF,Result.andThen_ok,bY];rfl
def CR(a:Act):ResultVar→Sem Value
  | .tmp t=>pure (a.tmps.getD t undef)
  | .cell b t=>do loadVar t (←asAddr (a.tmps.getD b undef))
theorem aj4(fn:Func)(a:Act):results fn a.tmps=(do let vs ←fn.results.mapM (CR a);pure (if h:vs.size=1 then vs[0] else .tuple vs)):=rfl
theorem aj3{v:ResultVar}{z:bG}(an:Rel B A s ad a w)(h:gS P s v=some z):∃u,(CR a v).run P w = .ok u w∧gV (s.free A ad) ad w z u:=by
  cases v with
  | tmp t =>
    simp only[gS] at h
    split at h
    · rename_i x ab
      cases h;obtain⟨v,h1,h2⟩:=an.dp t _ ab;refine⟨v,?_,h2⟩;simp[CR,Array.getD_eq_getD_getElem?,h1]
    · cases h
  | cell b ty =>
    simp only[gS] at h
    split at h
    · rename_i k off ab
      cases hm:s.mem k with
      | none=>rw[hm] at h;cases h
      | some cs =>
        rw[hm] at h;obtain⟨vs,t,g1,g2,g3⟩:=an.c4 k cs hm;obtain⟨u,h1,h2⟩:=TW h g1 g2;obtain⟨p,q1,q2⟩:=an.dp b _ ab;cases q2;refine⟨u,?_,h2⟩;simp only[CR,Array.getD_eq_getD_getElem?,q1,Option.getD_some,asAddr,Sem.run_bind,Sem.run_pure,Result.andThen_ok,h1]
    · cases h
theorem CT{fn:Func}{xs:List bG}(an:Rel B A s ad a w)(h:fn.results.toList.map (gS P s)=xs.map some):∃v,(results fn a.tmps).run P w = .ok v w∧cR (s.free A ad) ad w (packed xs) v:=by
  have key:∀(l:List ResultVar) (xs:List bG),l.map (gS P s)=xs.map some→∃vs:List Value,vs.length=xs.length∧l.length=vs.length∧(∀(i:Nat) r u,l[i]?=some r→vs[i]?=some u→(CR a r).run P w = .ok u w)∧∀(i:Nat) x u,xs[i]?=some x→vs[i]?=some u→gV (s.free A ad) ad w x u:=by
    intro l
    induction l with
    | nil=>intro xs h;cases xs with
      | nil=>exact⟨[],rfl,rfl,fun i r u h=>by simp at h,fun i x u h=>by simp at h⟩
      | cons=>cases h
    | cons r l bY =>
      intro xs h;cases xs with
      | nil=>cases h
      | cons x xs =>
        simp only[hQ,List.cons.injEq] at h;obtain⟨vs,aH,aN,ck,eg⟩:=bY xs h.2;obtain⟨u,q1,q2⟩:=aj3 an h.1;refine⟨u::vs,by simp[aH],by simp[aN],fun i bb rP h1 h2 => ?_,fun i x' rP h1 h2 => ?_⟩
        · cases i with
          | zero=>simp at h1 h2;subst h1;subst h2;exact q1
          | succ i=>exact ck i bb rP (by simpa using h1) (by simpa using h2)
        · cases i with
          | zero=>simp at h1 h2;subst h1;subst h2;exact q2
          | succ i=>exact eg i x' rP (by simpa using h1) (by simpa using h2)
  obtain⟨vs,aH,aN,ck,eg⟩:=key _ _ h;have hm:=Vd (P:=P) (w:=w) _ vs aN ck
  have fB:(results fn a.tmps).run P w = .ok (if h:vs.toArray.size=1 then vs.toArray[0] else .tuple vs.toArray) w:=by
    rw[aj4,Array.mapM_eq_mapM_toList];simp only[map_eq_pure_bind,bind_assoc,Sem.run_bind];rw[hm];simp only[Result.andThen_ok,Sem.run_bind,Sem.run_pure]
  refine⟨_,fB,?_⟩
  match vs,xs,aH,eg with
  | [],[],_,_=>exact⟨[],rfl,rfl,fun i x v h=>by simp at h⟩
  | [v],[x],_,eg=>exact eg 0 x v rfl rfl
  | v1::v2::vs,de::dj::xs,aH,eg =>
    rw[dif_neg (by simp)];exact⟨v1::v2::vs,rfl,aH.symm,eg⟩
def start(n:Nat)(args:List ag):aB:=⟨n,fun t=>args[t]?,fun _=>none⟩
def uI(P:Program)(c:Code)(Q:Exit→aB→Prop)(s:aB):Prop :=
  s.bQ→∀W A ad a w,Rel (cV.all W) A s ad a w→c.wp P (fun e a' w'=>∃s' aW,s'.bQ∧Rel (cV.all W) A s' aW a' w'∧Q e s') a w
theorem TV{f:FuncId}{fn:Func}{c:Code}{args:List ag}{r:ag}(au:P.funcs[f]?=some fn)(aa:fn.body=some c)(aA:args.length≤fn.ntmps)(hl:∀x∈args,x.closed)(cq:r.closed)
    (h:uI P c (wC P fn r) (start fn.ntmps args)):aP P f args r:=by
  refine⟨hl,cq,fun U W vs cM => ?_⟩;have al:=cM.1
 
  refine calls_of_wp au aa ?_;have ok:(start fn.ntmps args).bQ:=⟨fun t av j aC af=>absurd af (hl av (cN aC) j),fun k cs x j ae=>by cases ae⟩
  have an:Rel (cV.all W) (fun b=>U b∨W.heap.size≤b) (start fn.ntmps args) id {tmps:=vs.toArray++Array.replicate (fn.ntmps-vs.toArray.size) undef,defers:=[]} W:=by
    refine⟨rfl,by simp[start];omega,fun t av aC => ?_,(fun k cs ae=>by cases ae),(fun k k' cs ay ae=>by cases ae),eR.refl (cV.all W),fun b aa => .inr aa,fun k b ae=>(by cases ae)⟩;have a7:t<vs.length:=by rw[←al];exact(bt.1 aC).1
    refine⟨vs[t],by simp[Array.getElem?_append,a7],?_⟩;exact(cM.2 t av _ aC (bE a7)).map (fun b aa _=>⟨⟨.inl aa,fun k cs ae=>by cases ae⟩,rfl⟩) fun _ _=>rfl
  refine wp_mono (h ok W _ id _ W an) ?_;rintro e a' w' ⟨s',aW,bV,bu,aj⟩
  have fin:(∃xs,fn.results.toList.map (gS P s')=xs.map some∧(packed xs).aU r)→a'.defers=[]∧∃v,(results fn a'.tmps).run P w' = .ok v w'∧∃u,Ending.returned v = .returned u∧cR (fun b=>U b∨W.heap.size≤b) id w' r u∧Below W.heap.size W w':=by
    rintro⟨xs,h1,h2⟩;obtain⟨v,q1,q2⟩:=CT bu h1;exact⟨bu.kD,v,q1,v,rfl,(h2 _ _ _ _ q2).map (fun b aa _=>⟨aa.1,rfl⟩) fun j af=>absurd af (cq j),bu.below.all⟩
  cases e with
  | normal=>exact fin aj
  | ret=>exact fin aj
  | _=>exact aj.elim
theorem aju{f:FuncId}{fn:Func}{c:Code}{args:List ag}{r:ag}(au:P.funcs[f]?=some fn)(aa:fn.body=some c)(aA:args.length≤fn.ntmps)(hl:∀x∈args,x.closed)(cq:r.closed)
    (h:fz P c (wC P fn r) (start fn.ntmps args)):aP P f args r :=
  TV au aa aA hl cq fun ok W A ad a w an=>(h ok (cV.all W) A ad a w an).top
end
def nJ(P:Program)(c:Code)(Q:Exit→Act→World→Prop)(a:Act)(w:World):Prop :=
 ∀(b:Frame) (k:List Item) (cs:List Frame),b.kind = .normal→∃e a' w',Q e a' w'∧Arrives P (lone (b.at a (.code c::k)) cs w) b k cs e a' w'
section
variable{P:Program}{Q Ao:Exit→Act→World→Prop}{a:Act}{w:World}{c x y:Code}
theorem SD(h:c.wp P Q a w):nJ P c Q a w:=fun b k cs _=>h b k cs
theorem xr(h:nJ P c Q a w)(aj:∀e a w,Q e a w→Ao e a w):nJ P c Ao a w:=fun b k cs aa=>by
 obtain⟨e,a1,w1,g,r⟩:=h b k cs aa;exact⟨e,a1,w1,aj e a1 w1 g,r⟩
theorem VZ{next:Act→World→Prop}{e:Exit}(he:e ≠ .normal):Exit.then next Q e a w=Q e a w:=by
 cases e <;> first|rfl|exact absurd rfl he
theorem ag4(h:nJ P x (Exit.then (nJ P y Q) Q) a w):nJ P (.seq x y) Q a w:=fun b k cs aa=>by
 obtain⟨e,a1,w1,g,r⟩:=h b (.code y::k) cs aa
 by_cases he:e = .normal
 ·subst he;obtain⟨aN,a2,w2,g2,dH⟩:=g b k cs aa;exact⟨aN,a2,w2,g2,dH.of_steps (Steps.head step_seq r)⟩
 ·rw[VZ he] at g;exact⟨e,a1,w1,g,(r.pass (x := .code y) rfl fun _ _ => .inl he).of_steps (.one step_seq)⟩
theorem ag1{o:Operand}{t:Bool}(ak:a.eval o = .bool t)(h:nJ P (if t then x else y) Q a w):nJ P (.cond o x y) Q a w:=fun b k cs aa=>by
 obtain⟨e,a1,w1,g,r⟩:=h b k cs aa;exact⟨e,a1,w1,g,r.of_steps (.one (step_cond ak))⟩
theorem ag0{id:Nat}(h:nJ P c (Exit.inBlock id Q) a w):nJ P (.block id c) Q a w:=fun b k cs aa=>by
 obtain⟨e,a1,w1,g,r⟩:=h b (.inBlock id::k) cs aa;have cf:=r.of_steps (.one (step_block (P:=P) (b:=b) (a:=a) (k:=k) (cs:=cs) (w:=w) (id:=id) (c:=c)));cases e with
 | normal=>exact⟨.normal,a1,w1,g,Steps.trans cf (.one step_inBlock)⟩
 | exit j =>
  by_cases q:j=id
  ·subst q;have c3:Q .normal a1 w1:=by simpa [Exit.inBlock] using g
   exact⟨.normal,a1,w1,c3,cf k (by simp[exitTo])⟩
  ·have c3:Q (.exit j) a1 w1:=by simpa [Exit.inBlock,q] using g
   refine⟨.exit j,a1,w1,c3,fun k' ae=>cf k' ?_⟩;have:(id==j)=false:=by simpa using fun e=>q e.symm
   simp[exitTo,this,ae]
 | goto l=>exact⟨_,a1,w1,g,fun k' ae=>cf k' (by simp[gotoIn,ae])⟩
 | ret=>exact⟨_,a1,w1,g,cf⟩
 | panic ch=>exact⟨_,a1,w1,g,cf⟩
 | outgrown=>exact⟨.outgrown,a1,w1,g,cf⟩
theorem ag2(I:Nat→Act→World→Prop){n:Nat}(aF:I n a w)(round:∀n a w,I n a w→nJ P c (Exit.then (fun a' w'=>∃m,m<n∧I m a' w') Q) a w):nJ P (.loop c) Q a w:=fun b k cs aa=>by
 have key:∀n a w,I n a w→∃e a' w',Q e a' w'∧Arrives P (lone (b.at a (.code c :: .inLoop c::k)) cs w) b k cs e a' w':=by
  intro n
  induction n using Nat.strongRecOn with
  | _ n bY =>
   intro a w bh;obtain⟨e,a1,w1,g,r⟩:=round n a w bh b (.inLoop c::k) cs aa
   by_cases he:e = .normal
   ·subst he;obtain⟨m,hm,ace⟩:=g;obtain⟨aN,a2,w2,g2,dH⟩:=bY m hm a1 w1 ace;exact⟨aN,a2,w2,g2,dH.of_steps (Steps.trans r (.one step_inLoop))⟩
   ·rw[VZ he] at g;exact⟨e,a1,w1,g,r.pass (x := .inLoop c) rfl fun _ _ => .inl he⟩
 obtain⟨e,a1,w1,g,r⟩:=key n a w aF;exact⟨e,a1,w1,g,r.of_steps (.one step_loop)⟩
theorem Ow{f:FuncId}{fn:Func}{args:Array Value}{R:Ending→World→Prop}(au:P.funcs[f]?=some fn)(aa:fn.body=some c)
  (h:nJ P c (bodyPost P fn R) {tmps:=args++Array.replicate (fn.ntmps-args.size) undef,defers:=[]} w):Calls P f args w R:=by
 intro cs;obtain⟨e,a1,w1,g,r⟩:=h {(default:Frame) with fn:=f,kind := .normal} [] cs rfl;rw[show ({(default:Frame) with fn:=f,kind := .normal}:Frame).at {tmps:=args++Array.replicate (fn.ntmps-args.size) undef,defers:=[]} [.code c]=Frame.enter P f args .normal by simp[Frame.enter,Frame.at,au,aa]] at r;cases e with
 | normal =>
  obtain⟨hd,v,hv,an⟩:=g;exact⟨.returned v,w1,_,an,Steps.trans r (.one step_end),rfl,rfl,hd,rfl,fn,au,hv⟩
 | ret =>
  obtain⟨hd,v,hv,an⟩:=g;obtain⟨todo,hs⟩:=r;exact⟨.returned v,w1,_,an,hs,rfl,rfl,hd,rfl,fn,au,hv⟩
 | panic chain =>
  obtain⟨hd,an⟩:=g;obtain⟨todo,hs⟩:=r;exact⟨.panicked chain,w1,_,an,hs,rfl,rfl,hd,fn,au⟩
 | outgrown=>exact⟨.outgrown,w1,{(default:Frame) with fn:=f,kind := .normal},g,r.resolve_left (by simp),rfl,trivial⟩
 | exit id=>exact g.elim
 | goto l=>exact g.elim
def ry(P:Program)(ops:Array Oper)(Q:Exit→Act→World→Prop)(l:List Nat)(a:Act)(w:World):Prop :=
 ∀(b:Frame) (k:List Item) (cs:List Frame),b.kind = .normal→∃e a' w',Q e a' w'∧Arrives P (lone (b.at a (.inRegion ops l::k)) cs w) b k cs e a' w'
theorem ag3{id:Nat}{ops:Array Oper}(h:ry P ops Q (List.range ops.size) a w):nJ P (.region id ops false) Q a w:=fun b k cs aa=>by
 obtain⟨e,a1,w1,g,r⟩:=h b k cs aa;exact⟨e,a1,w1,g,r.of_steps (.one step_region)⟩
theorem agY{ops:Array Oper}(h:Q .normal a w):ry P ops Q [] a w:=fun b k cs _=>⟨.normal,a,w,h,.one step_region_end⟩
theorem xq{ops:Array Oper}{i:Nat}{l:List Nat}{a1:Act}{w1:World}(hs:∀(b:Frame) (k:List Item) (cs:List Frame),b.kind = .normal→step P (lone (b.at a (.inRegion ops (i::l)::k)) cs w) = .next (lone (b.at a1 (.inRegion ops l::k)) cs w1))(h:ry P ops Q l a1 w1):ry P ops Q (i::l) a w:=fun b k cs aa=>by
 obtain⟨e,a2,w2,g,r⟩:=h b k cs aa;exact⟨e,a2,w2,g,r.of_steps (.one (hs b k cs aa))⟩
theorem Ct{ops:Array Oper}{i:Nat}{l:List Nat}{o:Oper}(aD:ops[i]?=some o)(hw:Region.wanted o (yielded ops a.tmps)=true)(h:o.wp P a w (ry P ops Q l) Q)(aj:∀a w,¬Q .outgrown a w):ry P ops Q (i::l) a w:=by
 have fin:∀(b:Frame) (k:List Item) v,(b.at a (.inRegion ops (i::l)::k)).finish v=b.at (a.put o.dst v) (.inRegion ops l::k):=fun b k v=>by rw[Frame.finish_at,aD];rfl
 have zK:=fun(b:Frame) (k:List Item) (cs:List Frame)=>stepG_op (P:=P) (b:=b) (k:=k) (cs:=cs) (w:=w) (rest:=l) aD hw;unfold Oper.wp at h;generalize ao:(execOp a.eval o).run P w=aj2 at h;cases aj2 with
 | halt t w1 =>
  cases t with
  | panic v=>exact fun b k cs _=>⟨_,a,w1,h,.inRegion ops (i::l)::k,.one (step_lone_go (by rw[zK,←Frame.raise_at];simp[stepG.apply,ao]))⟩
  | _=>exact h.elim
 | ok n w1 =>
  cases n with
  | value v=>exact xq (fun b k cs _=>step_lone_go (by rw[zK,←fin];simp[stepG.apply,ao])) h
  | skip=>exact xq (fun b k cs _=>step_lone_go (by rw[zK,←fin];simp[stepG.apply,ao])) h
  | defer d =>
   refine xq (fun b k cs _=>step_lone_go ?_) h
   have e:({b.at a (.inRegion ops (i::l)::k) with defers:=d::a.defers}:Frame).finish undef=b.at ({a with defers:=d::a.defers}.put o.dst undef) (.inRegion ops l::k):=by
    have:=Frame.finish_at b {a with defers:=d::a.defers} ops i l k undef;rw[aD] at this;exact this
   rw[zK];simp only[stepG.apply,Sem.runT_eq,ao,GStep.bare_after];exact congrArg (fun u5=>GStep.go {frame:=u5,callers:=cs,status := .running,dying:=none} w1) e
  | enter f args =>
   intro b k cs aa;obtain⟨e,w2,u5,an,hs,_,al⟩:=h (b.at a (.inRegion ops (i::l)::k)::cs);have he:step P (lone (b.at a (.inRegion ops (i::l)::k)) cs w) = .next (lone (Frame.enter P f args .normal) (b.at a (.inRegion ops (i::l)::k)::cs) w1):=step_lone_go (by rw[zK];simp[stepG.apply,ao,Frame.at])
   cases e with
   | returned v =>
    obtain⟨e,a3,w3,g,r⟩:=an b k cs aa;refine⟨e,a3,w3,g,r.of_steps (Steps.head he (Steps.trans hs (.one ?_)))⟩;rw[←fin];exact step_leave_returned al
   | panicked chain =>
    refine⟨.panic chain,a,w2,an,.inRegion ops (i::l)::k,Steps.head he (Steps.trans hs (.one ?_))⟩;rw[←Frame.raise_at];exact step_leave_panicked al
   | outgrown =>
    obtain⟨a0,Wc,q⟩:=an;exact absurd q (aj a0 Wc)
  | row row args =>
   intro b k cs aa;obtain⟨v,w2,an,hs⟩:=h (b.at a (.inRegion ops (i::l)::k)) cs;have he:step P (lone (b.at a (.inRegion ops (i::l)::k)) cs w) = .next (lone (Frame.ofRow P row args .normal) (b.at a (.inRegion ops (i::l)::k)::cs) w1):=step_lone_go (by rw[zK];simp[stepG.apply,ao,Frame.at])
   obtain⟨e,a3,w3,g,r⟩:=an b k cs aa;refine⟨e,a3,w3,g,r.of_steps (Steps.head he ?_)⟩;rw[←fin];exact hs
  | _=>exact h.elim
theorem agZ{ops:Array Oper}{i:Nat}{l:List Nat}{o:Oper}(aD:ops[i]?=some o)(hw:Region.wanted o (yielded ops a.tmps)=false)(h:ry P ops Q l (a.put o.dst undef) w):ry P ops Q (i::l) a w:=by
 refine xq (fun b k cs _ => ?_) h;have:=step_op_skip (P:=P) (b:=b) (a:=a) (k:=k) (cs:=cs) (w:=w) (ops:=ops) (i:=i) (rest:=l) (by simp[aD,hw]);rw[aD] at this;exact this
end
end Go.Proofs.YtklpfooafbjnpaaGreat
