/-
  My own texts,without what this claim does not need. My own text.
-/
import Derived.Tactics
import Derived.IntWalk
import Derived.ProofKit
import Derived.Below
import Derived.Still
import Derived.OrdersIn
import Derived.Laws.CopyRow
import Derived.Laws.Cells
import Derived.Calls
set_option maxRecDepth 100000
set_option maxHeartbeats 64000000
set_option linter.unusedVariables false
set_option linter.unusedSimpArgs false
set_option linter.unusedSectionVars false
namespace Go.Proofs.YtklpfooafbjnpaaGreat
theorem bt:type_of% @List.getElem?_eq_some_iff := @List.getElem?_eq_some_iff
theorem bF:type_of% @List.getElem?_eq_getElem := @List.getElem?_eq_getElem
theorem b4:type_of% @List.all_eq_true := @List.all_eq_true
theorem b8:type_of% @Nat.le_of_ble_eq_true := @Nat.le_of_ble_eq_true
theorem cb:type_of% @decide_eq_false := @decide_eq_false
theorem cd:type_of% @decide_eq_true := @decide_eq_true
theorem cF:type_of% @Nat.le_refl := @Nat.le_refl
theorem cP:type_of% @List.mem_of_getElem? := @List.mem_of_getElem?
theorem cV:type_of% @decide_eq_true_eq := @decide_eq_true_eq
theorem c3:type_of% @List.length_append := @List.length_append
theorem du:type_of% @Nat.zero_le := @Nat.zero_le
theorem dD:type_of% @List.getElem?_map := @List.getElem?_map
theorem dX:type_of% @List.length_take := @List.length_take
theorem ef:type_of% @Bool.and_eq_true := @Bool.and_eq_true
theorem eI:type_of% @Nat.le_trans := @Nat.le_trans
theorem fg:type_of% @List.mem_cons := @List.mem_cons
theorem fM:type_of% @List.getElem?_append_left := @List.getElem?_append_left
theorem fV:type_of% @List.mem_map := @List.mem_map
theorem gp:type_of% @Nat.eq_of_beq_eq_true := @Nat.eq_of_beq_eq_true
theorem gq:type_of% @List.getElem?_take_of_lt := @List.getElem?_take_of_lt
theorem gr:type_of% @List.getElem?_append_right := @List.getElem?_append_right
theorem gB:type_of% @List.take_of_length_le := @List.take_of_length_le
theorem gJ:type_of% @Nat.zero_lt_succ := @Nat.zero_lt_succ
theorem gU:type_of% @List.getElem?_drop := @List.getElem?_drop
theorem hk:type_of% @Option.map_some := @Option.map_some
theorem hD:type_of% @List.append_assoc := @List.append_assoc
theorem hE:type_of% @List.mem_cons_self := @List.mem_cons_self
theorem hX:type_of% @List.length_cons := @List.length_cons
theorem hY:type_of% @List.map_cons := @List.map_cons
theorem hZ:type_of% @Nat.zero_add := @Nat.zero_add
theorem h0:type_of% @Int.mul_nonneg := @Int.mul_nonneg
theorem iv:type_of% @Nat.lt_or_ge := @Nat.lt_or_ge
theorem iw:type_of% @Nat.mul_le_mul_right := @Nat.mul_le_mul_right
theorem iN:type_of% @Array.getElem?_eq_some_iff := @Array.getElem?_eq_some_iff
theorem iO:type_of% @List.length_drop := @List.length_drop
theorem jd:type_of% @Option.some.injEq := @Option.some.injEq
theorem je:type_of% @List.mem_singleton := @List.mem_singleton
theorem jE:type_of% @Int.pow_pos := @Int.pow_pos
theorem jT:type_of% @List.length_map := @List.length_map
theorem jU:type_of% @List.drop_eq_getElem_cons := @List.drop_eq_getElem_cons
theorem kg:type_of% @Nat.lt_of_lt_of_le := @Nat.lt_of_lt_of_le
theorem kh:type_of% @List.mem_append := @List.mem_append
theorem ki:type_of% @List.take_append_drop := @List.take_append_drop
theorem kj:type_of% @List.pairwise_cons := @List.pairwise_cons
theorem kJ:type_of% @List.getElem?_of_mem := @List.getElem?_of_mem
theorem kK:type_of% @decide_eq_false_iff_not := @decide_eq_false_iff_not
theorem kL:type_of% @Int.toNat_natCast := @Int.toNat_natCast
theorem kM:type_of% @List.all_cons := @List.all_cons
theorem k6:type_of% @Option.bind_some := @Option.bind_some
theorem k7:type_of% @Nat.blt_eq := @Nat.blt_eq
theorem k8:type_of% @List.mem_cons_of_mem := @List.mem_cons_of_mem
theorem k9:type_of% @Int.mul_comm := @Int.mul_comm
theorem la:type_of% @Prod.ext := @Prod.ext
theorem lb:type_of% @Int.mul_assoc := @Int.mul_assoc
theorem lH:type_of% @List.take_succ_eq_append_getElem := @List.take_succ_eq_append_getElem
theorem lI:type_of% @Rat.mul_nonneg := @Rat.mul_nonneg
theorem l3:type_of% @Option.some.inj := @Option.some.inj
theorem l4:type_of% @Nat.add_mul := @Nat.add_mul
theorem nj:type_of% @List.eq_nil_of_length_eq_zero := @List.eq_nil_of_length_eq_zero
theorem nk:type_of% @List.append_nil := @List.append_nil
theorem nV:type_of% @List.map_congr_left := @List.map_congr_left
theorem nW:type_of% @List.mem_range := @List.mem_range
theorem nX:type_of% @List.all_nil := @List.all_nil
theorem oE:type_of% @List.mem_of_mem_drop := @List.mem_of_mem_drop
theorem oF:type_of% @Nat.add_assoc := @Nat.add_assoc
theorem oG:type_of% @Nat.add_comm := @Nat.add_comm
theorem oH:type_of% @Int.eq_ofNat_of_zero_le := @Int.eq_ofNat_of_zero_le
theorem o5:type_of% @List.mem_of_mem_take := @List.mem_of_mem_take
theorem o6:type_of% @Int.le_refl := @Int.le_refl
theorem o7:type_of% @Bool.eq_iff_iff := @Bool.eq_iff_iff
theorem o8:type_of% @Int.emod_lt_of_pos := @Int.emod_lt_of_pos
theorem o9:type_of% @Int.ediv_nonneg := @Int.ediv_nonneg
theorem pF:type_of% @Bool.or_eq_true := @Bool.or_eq_true
theorem pG:type_of% @List.map_nil := @List.map_nil
theorem pH:type_of% @Int.emod_nonneg := @Int.emod_nonneg
theorem pI:type_of% @Int.le_of_lt := @Int.le_of_lt
theorem pJ:type_of% @Int.le_ediv_iff_mul_le := @Int.le_ediv_iff_mul_le
theorem pK:type_of% @Bool.true_and := @Bool.true_and
theorem qC:type_of% @List.getElem?_eq_none := @List.getElem?_eq_none
theorem qD:type_of% @Nat.beq_refl := @Nat.beq_refl
theorem qE:type_of% @Nat.min_eq_left := @Nat.min_eq_left
theorem qF:type_of% @Int.mul_le_mul_of_nonneg_right := @Int.mul_le_mul_of_nonneg_right
theorem qG:type_of% @Int.lt_or_le := @Int.lt_or_le
theorem rA:type_of% @List.mem_append_left := @List.mem_append_left
theorem rB:type_of% @Option.map_none := @Option.map_none
theorem rC:type_of% @Int.mul_ediv_add_emod := @Int.mul_ediv_add_emod
theorem rD:type_of% @List.drop_of_length_le := @List.drop_of_length_le
theorem sL:type_of% @List.map_append := @List.map_append
theorem sM:type_of% @List.flatMap_append := @List.flatMap_append
theorem sN:type_of% @List.not_mem_nil := @List.not_mem_nil
theorem sO:type_of% @Int.mul_le_mul_of_nonneg_left := @Int.mul_le_mul_of_nonneg_left
theorem ub:type_of% @Bool.not_eq_true' := @Bool.not_eq_true'
theorem uc:type_of% @List.foldl_cons := @List.foldl_cons
theorem ud:type_of% @List.cons_append := @List.cons_append
theorem ue:type_of% @Classical.byContradiction := @Classical.byContradiction
theorem uf:type_of% @List.nil_append := @List.nil_append
theorem ug:type_of% @Int.mul_eq_zero := @Int.mul_eq_zero
theorem uh:type_of% @Int.mul_le_mul := @Int.mul_le_mul
theorem ui:type_of% @Rat.intCast_add := @Rat.intCast_add
theorem vG:type_of% @Array.getElem?_modify := @Array.getElem?_modify
theorem vD:type_of% @List.mem_append_right := @List.mem_append_right
theorem vE:type_of% @decide_eq_decide := @decide_eq_decide
theorem vF:type_of% @List.getD_eq_getElem?_getD := @List.getD_eq_getElem?_getD
theorem xw:type_of% @List.getElem?_range := @List.getElem?_range
theorem xx:type_of% @Nat.eq_zero_or_pos := @Nat.eq_zero_or_pos
theorem xy:type_of% @List.getElem?_cons_zero := @List.getElem?_cons_zero
theorem zl:type_of% @Array.getElem?_eq_none := @Array.getElem?_eq_none
theorem zm:type_of% @Int.ediv_ediv_of_nonneg := @Int.ediv_ediv_of_nonneg
theorem CE:type_of% @Array.getElem?_setIfInBounds_ne := @Array.getElem?_setIfInBounds_ne
theorem CF:type_of% @List.take_append_of_le_length := @List.take_append_of_le_length
end Go.Proofs.YtklpfooafbjnpaaGreat
namespace Go.Proofs.YtklpfooafbjnpaaGreat
theorem r2:(∀b:Bool,((!b)=true)=(b=false))∧(∀b:Bool,((!b)=false)=(b=true))∧(∀(p:Prop) [Decidable p],(decide p=true)=p)∧∀(p:Prop) [Decidable p],(decide p=false)=¬p:=⟨by simp,by simp,by simp,by simp⟩
end Go.Proofs.YtklpfooafbjnpaaGreat
namespace Go.Proofs.YtklpfooafbjnpaaGreat
structure qX (Q:Prop):Prop where
  h:Q
theorem gW{P Q:Prop}(k:Q)(h:qX Q→P:=by intro q;(first|((with_reducible apply gd);exact rfl)|((with_reducible apply ye);(iterate 5 exact rfl))|((with_reducible apply H8);(iterate 5 exact rfl))|((with_reducible apply NJ);(iterate 3 exact rfl))|((with_reducible apply Au);(iterate 3 exact rfl);(first|decide|omega);(first|decide|omega);(first|assumption|exact rfl);exact rfl)|((with_reducible apply NK);(iterate 3 exact rfl);omega;omega;exact rfl)|((with_reducible apply YO);(iterate 3 exact rfl))|((with_reducible apply Yo);(iterate 4 exact rfl))|((with_reducible apply Yn);(iterate 4 exact rfl))|((with_reducible apply YM);(iterate 4 exact rfl))|((with_reducible apply wv);(iterate 3 exact rfl);(first|exact jx (by omega)|assumption|rfl);exact rfl)|((with_reducible apply Y2);(iterate 3 exact rfl);(first|exact jx (by omega)|assumption|rfl);exact rfl)|((with_reducible apply YI);(iterate 3 exact rfl);(first|exact jx (by omega)|assumption|rfl);exact rfl)|((with_reducible apply YJ);exact rfl;exact rfl;(first|exact jx (by omega)|assumption|rfl);exact rfl)|((with_reducible apply NO);(iterate 3 exact rfl);(first|assumption|omega);(first|assumption|omega);exact rfl)|((with_reducible apply Ym);exact rfl;exact rfl;(first|exact jx (by omega)|assumption|rfl);exact rfl)|((with_reducible apply YF);(iterate 4 exact rfl))|((with_reducible apply YE);(iterate 4 exact rfl))|((with_reducible apply rZ);(iterate 3 exact rfl))|((with_reducible apply YZ);(iterate 3 exact rfl);(first|assumption|omega);(first|assumption|omega);(first|assumption|exact rfl);(first|assumption|exact rfl);exact rfl)|((with_reducible apply YX);(iterate 3 exact rfl);(first|assumption|omega);(first|assumption|omega);(first|assumption|exact rfl);(first|assumption|exact rfl);exact rfl)|((with_reducible apply Y0);(iterate 4 exact rfl);(first|assumption|omega);(first|assumption|omega);(first|assumption|omega);(first|assumption|exact rfl);(first|assumption|exact rfl);exact rfl)|((with_reducible apply NE);(iterate 10 exact rfl))|((with_reducible apply amx);exact rfl;exact(fun W=>rfl);exact rfl)|((with_reducible apply YG);(iterate 4 exact rfl))|((with_reducible apply Yu);(iterate 4 exact rfl))|((with_reducible apply amv);(iterate 4 exact rfl))|((with_reducible apply amw);(iterate 3 exact rfl);(first|decide|omega);(first|decide|omega);(first|assumption|exact rfl);exact rfl)|((with_reducible apply NL);(iterate 3 exact rfl);(first|decide|omega);(first|decide|omega);(first|assumption|exact rfl);exact rfl)|((with_reducible apply amt);(iterate 4 exact rfl))|((with_reducible apply Yr);(iterate 3 exact rfl))|((with_reducible apply Ys);exact rfl;exact rfl;kernel_rfl;exact rfl)|((with_reducible apply YK);exact rfl;exact rfl;kernel_rfl;exact rfl)|((with_reducible apply amu);exact rfl;exact rfl;kernel_rfl;exact rfl)|((with_reducible apply amy);exact rfl;exact rfl;kernel_rfl;exact rfl)|((with_reducible apply YQ);(iterate 3 exact rfl))|((with_reducible apply Yw);(iterate 3 exact rfl))|((with_reducible apply yc);(iterate 5 exact rfl);(intro W;go_simp;try rfl);(intro W;go_simp;try rfl);exact rfl;exact rfl)|((with_reducible apply NP);exact rfl;exact rfl;(intro W;go_simp;try rfl);exact rfl;exact rfl)|((with_reducible apply NI);exact rfl;exact rfl;(intro W;go_simp;try rfl);exact rfl;exact rfl));(with_reducible exact q.h)):P:=h ⟨k⟩
theorem dd{P Q:Prop}(k:Q)(h:qX Q→P:=by intro q;(first|refine gW ?_|((with_reducible apply NM);kernel_rfl)|((with_reducible apply N4);kernel_rfl;kernel_rfl;exact rfl)|(with_reducible first|apply N5|apply NW|apply Ih|apply dC|apply Ii|apply Ij|apply Zf|apply Zh|apply X6|apply X7|apply X8|apply N2|apply Ze|apply amA|apply ajY)|((with_reducible apply amr);exact rfl)|((with_reducible apply N1);exact rfl)|((with_reducible apply N0);exact rfl)|((with_reducible apply Zi);exact rfl;(first|assumption|exact cd (by omega)|(simp only[r2];(first|done|omega))|exact rfl))|((with_reducible apply NY);exact rfl;(first|assumption|exact cb (by omega)|(simp only[r2];(first|done|omega))|exact rfl)));(with_reducible exact q.h)):P:=h ⟨k⟩
theorem fi{P Q:Prop}(k:Q)(h:qX Q→P:=by intro q;(repeat refine dd ?_);(with_reducible exact q.h)):P:=h ⟨k⟩
theorem lM{P Q A:Prop}(c:A)(k:Q)(h:A→qX Q→P:=by intro c q;(first|refine NF rfl rfl (by exact c) rfl ?_|refine H4 rfl rfl rfl (by exact c) rfl ?_|refine H5 rfl rfl rfl rfl (by exact c) rfl ?_|refine H6 rfl rfl rfl rfl rfl (by exact c) rfl ?_|refine NG rfl rfl rfl rfl rfl rfl (by exact c) rfl ?_|refine NH rfl rfl rfl rfl rfl rfl rfl (by exact c) rfl ?_|refine uI (bs:=[_]) (args:=[]) rfl rfl rfl rfl (by exact c) rfl ?_|refine uI (bs:=[_]) (args:=[_]) rfl rfl rfl rfl (by exact c) rfl ?_|refine uI (bs:=[_]) (args:=[_,_]) rfl rfl rfl rfl (by exact c) rfl ?_|refine uI (bs:=[_]) (args:=[_,_,_]) rfl rfl rfl rfl (by exact c) rfl ?_|refine uH (args:=[]) rfl rfl rfl (by exact c) rfl ?_|refine uH (args:=[_]) rfl rfl rfl (by exact c) rfl ?_|refine uH (args:=[_,_]) rfl rfl rfl (by exact c) rfl ?_|refine uH (args:=[_,_,_]) rfl rfl rfl (by exact c) rfl ?_);(with_reducible exact q.h)):P:=h c ⟨k⟩
theorem fX{P Q:Prop}(k:Q)(h:qX Q→P:=by intro q;(first|refine NF rfl rfl (by first|with_reducible assumption|assumption) rfl ?_|refine H4 rfl rfl rfl (by first|with_reducible assumption|assumption) rfl ?_|refine H5 rfl rfl rfl rfl (by first|with_reducible assumption|assumption) rfl ?_|refine H6 rfl rfl rfl rfl rfl (by first|with_reducible assumption|assumption) rfl ?_|refine NG rfl rfl rfl rfl rfl rfl (by first|with_reducible assumption|assumption) rfl ?_|refine NH rfl rfl rfl rfl rfl rfl rfl (by first|with_reducible assumption|assumption) rfl ?_|refine uI (bs:=[_]) (args:=[]) rfl rfl rfl rfl (by first|with_reducible assumption|assumption) rfl ?_|refine uI (bs:=[_]) (args:=[_]) rfl rfl rfl rfl (by first|with_reducible assumption|assumption) rfl ?_|refine uI (bs:=[_]) (args:=[_,_]) rfl rfl rfl rfl (by first|with_reducible assumption|assumption) rfl ?_|refine uI (bs:=[_]) (args:=[_,_,_]) rfl rfl rfl rfl (by first|with_reducible assumption|assumption) rfl ?_|refine uH (args:=[]) rfl rfl rfl (by first|with_reducible assumption|assumption) rfl ?_|refine uH (args:=[_]) rfl rfl rfl (by first|with_reducible assumption|assumption) rfl ?_|refine uH (args:=[_,_]) rfl rfl rfl (by first|with_reducible assumption|assumption) rfl ?_|refine uH (args:=[_,_,_]) rfl rfl rfl (by first|with_reducible assumption|assumption) rfl ?_);(with_reducible exact q.h)):P:=h ⟨k⟩
theorem cR{P Q:Prop}(k:Q)(h:qX Q→P:=by intro q;(repeat (first|refine dd ?_|refine fX ?_));(with_reducible exact q.h)):P:=h ⟨k⟩
theorem bQ{P Q:Prop}(k:Q)(h:qX Q→P:=by intro q;(first|((with_reducible apply eH);exact rfl;(with_reducible apply gd);exact rfl;with_reducible apply dC)|((with_reducible apply QP);kernel_rfl)|(with_reducible first|apply Ve|apply UX|apply Vd|apply kD|apply L3|apply L5|apply akj|apply akv|apply ajx|apply ajy|apply ajz|apply L2|apply aki|apply aos)|((with_reducible apply aor);exact rfl)|((with_reducible apply akx);exact rfl;(first|assumption|exact cd (by omega)|(simp only[r2];(first|done|omega))|exact rfl))|((with_reducible apply akw);exact rfl;(first|assumption|exact cb (by omega)|(simp only[r2];(first|done|omega))|exact rfl))|((with_reducible apply eH);exact rfl;(repeat refine gW ?_);with_reducible apply dC));(with_reducible exact q.h)):P:=h ⟨k⟩
theorem aQ{P Q:Prop}(k:Q)(h:qX Q→P:=by intro q;(repeat refine bQ ?_);(with_reducible exact q.h)):P:=h ⟨k⟩
theorem fO{P Q:Prop}(k:Q)(h:qX Q→P:=by intro q;((with_reducible apply eH);exact rfl;(repeat (first|refine gW ?_|refine fX ?_));with_reducible apply dC);(with_reducible exact q.h)):P:=h ⟨k⟩
theorem mD{P Q:Prop}(k:Q)(h:qX Q→P:=by intro q;(repeat (first|refine bQ ?_|refine fO ?_));(with_reducible exact q.h)):P:=h ⟨k⟩
theorem n2{P Q A:Prop}(c:A)(k:Q)(h:A→qX Q→P:=by intro c q;((with_reducible apply eH);exact rfl;(repeat (first|refine lM c ?_|refine gW ?_));with_reducible apply dC);(with_reducible exact q.h)):P:=h c ⟨k⟩
end Go.Proofs.YtklpfooafbjnpaaGreat
namespace Go.Proofs.YtklpfooafbjnpaaGreat
open Go.RowKit
structure dS where
  holds:World→Value→Prop
  lv:World→Value→Nat→Prop
  frame:∀w w' v,holds w v→(∀b,lv w v b→w'.heap[b]?=w.heap[b]?)→holds w' v∧∀b,lv w' v b→lv w v b
  iZ:∀w v b,holds w v→lv w v b→b<w.heap.size
  cell:∀w v,holds w v→v.oneCell'=true
inductive AC where
  | c (v:Value)
  | own (k off:Nat)
  | p (R:dS)
inductive bH where
  | one (x:AC)
  | agg (xs:List AC)
inductive ag where
  | w (x:bH)
  | cj (xs:List bH)
def bH.cells:bH→List AC
  | .one x=>[x]
  | .agg xs=>xs
def gb(U:Nat→Prop)(ad:Nat→Nat)(W:World):AC→Value→Prop
  | .c v,x=>x=v∧v.oneCell'=true
  | .own k off,x=>x = .pointer (some ⟨ad k,off,none⟩)
  | .p R,x=>R.holds W x∧∀b,R.lv W x b→U b
def bS(U:Nat→Prop)(ad:Nat→Nat)(W:World)(xs:List AC)(vs:List Value):Prop :=
  xs.length=vs.length∧∀(i:Nat) (x:AC) (v:Value),xs[i]?=some x→vs[i]?=some v→gb U ad W x v
def gZ(U:Nat→Prop)(ad:Nat→Nat)(W:World):bH→Value→Prop
  | .one x,v=>gb U ad W x v
  | .agg xs,v=>∃vs:List Value,v = .agg vs.toArray∧bS U ad W xs vs
def cS(U:Nat→Prop)(ad:Nat→Nat)(W:World):ag→Value→Prop
  | .w x,v=>gZ U ad W x v
  | .cj xs,v=>∃vs:List Value,v = .tuple vs.toArray∧xs.length=vs.length∧∀(i:Nat) (x:bH) (v:Value),xs[i]?=some x→vs[i]?=some v→gZ U ad W x v
def AC.owns:AC→Nat→Prop
  | .own k _,j=>j=k
  | _,_=>False
def bH.owns(x:bH)(j:Nat):Prop:=∃y∈x.cells,y.owns j
def ag.owns:ag→Nat→Prop
  | .w x,j=>x.owns j
  | .cj xs,j=>∃x∈xs,x.owns j
section
variable{U ck:Nat→Prop}{ad aU:Nat→Nat}{W W':World}
theorem gb.cell{x:AC}{v:Value}(h:gb U ad W x v):v.oneCell'=true:=by
  cases x with
  | c u=>obtain⟨rfl,h⟩:=h;exact h
  | own k off=>cases h;rfl
  | p R=>exact R.cell _ _ h.1
theorem gb.map{x:AC}{v:Value}(h:gb U ad W x v)(cQ:∀b,U b→b<W.heap.size→ck b∧W'.heap[b]?=W.heap[b]?)(jw:∀j,x.owns j→aU j=ad j):gb ck aU W' x v:=by
  cases x with
  | c u=>exact h
  | own k off=>simp only[gb] at h ⊢;rw[h,jw k rfl]
  | p R =>
    obtain⟨h1,h2⟩:=h;have ar:=R.frame W W' v h1 (fun b aa=>(cQ b (h2 b aa) (R.iZ _ _ _ h1 aa)).2);exact⟨ar.1,fun b aa=>(cQ b (h2 b (ar.2 b aa)) (R.iZ _ _ _ h1 (ar.2 b aa))).1⟩
theorem bS.map{xs:List AC}{vs:List Value}(h:bS U ad W xs vs)(cQ:∀b,U b→b<W.heap.size→ck b∧W'.heap[b]?=W.heap[b]?)(jw:∀j x,x∈xs→x.owns j→aU j=ad j):bS ck aU W' xs vs :=
  ⟨h.1,fun i x v ab hv=>(h.2 i x v ab hv).map cQ fun j af=>jw j x (cP ab) af⟩
theorem gZ.map{x:bH}{v:Value}(h:gZ U ad W x v)(cQ:∀b,U b→b<W.heap.size→ck b∧W'.heap[b]?=W.heap[b]?)(jw:∀j,x.owns j→aU j=ad j):gZ ck aU W' x v:=by
  cases x with
  | one x=>exact gb.map h cQ fun j af=>jw j ⟨x,by simp[bH.cells],af⟩
  | agg xs =>
    obtain⟨vs,e,h⟩:=h;exact⟨vs,e,h.map cQ fun j x ab af=>jw j ⟨x,ab,af⟩⟩
theorem cS.map{x:ag}{v:Value}(h:cS U ad W x v)(cQ:∀b,U b→b<W.heap.size→ck b∧W'.heap[b]?=W.heap[b]?)(jw:∀j,x.owns j→aU j=ad j):cS ck aU W' x v:=by
  cases x with
  | w x=>exact gZ.map h cQ jw
  | cj xs =>
    obtain⟨vs,e,al,h⟩:=h;exact⟨vs,e,al,fun i x v ab hv=>(h i x v ab hv).map cQ fun j af=>jw j ⟨x,cP ab,af⟩⟩
theorem gZ.cells{x:bH}{v:Value}(h:gZ U ad W x v):bS U ad W x.cells v.cells.toList:=by
  cases x with
  | one x =>
    have ak:v.cells = #[v]:=by
      have:=gb.cell h;cases v <;> simp_all [Value.cells,Value.oneCell']
    rw[ak];refine⟨rfl,fun i y u ai hu => ?_⟩;simp only[bH.cells] at ai;cases i with
    | zero=>simp at ai hu;subst ai;subst hu;exact h
    | succ i=>simp at ai
  | agg xs =>
    obtain⟨vs,rfl,h⟩:=h;exact h
end
def upd{α:Type}(f:Nat→Option α)(k:Nat)(v:α):Nat→Option α:=fun j=>bif Nat.beq j k then some v else f j
theorem bZ{α:Type}(f:Nat→Option α)(k:Nat)(v:α):upd f k v k=some v:=by simp[upd]
theorem bP{α:Type}(f:Nat→Option α){k j:Nat}(v:α)(h:j≠k):upd f k v j=f j:=by
  have:Nat.beq j k=false:=by
    cases aa:Nat.beq j k with
    | false=>rfl
    | true=>exact absurd (gp aa) h
  simp[upd,this]
theorem VW{α:Type}(f:Nat→Option α){k j:Nat}(v u:α)(h:j≠k):upd (upd f k v) j u=upd (upd f j u) k v:=by
  funext i
  by_cases h1:i=j
  · subst h1;rw[bZ,bP _ _ h,bZ]
  · by_cases h2:i=k
    · subst h2;rw[bP _ _ h1,bZ,bZ]
    · rw[bP _ _ h1,bP _ _ h2,bP _ _ h2,bP _ _ h1]
structure aB where
  n:Nat
  tmps:Nat→Option ag
  mem:Nat→Option (List AC)
def aB.put(s:aB)(dst:Option Nat)(v:ag):aB :=
  match dst with
  | some d=>{s with tmps:=upd s.tmps d v}
  | none=>s
def aB.eb(s:aB)(k:Nat)(cs:List AC):aB:={s with mem:=upd s.mem k cs}
def SY:Value→bH
  | .agg cs => .agg (cs.toList.map .c)
  | v => .one (.c v)
def zd:Value→ag
  | .tuple vs => .cj (vs.toList.map SY)
  | v => .w (SY v)
def aB.look(s:aB):Operand→Option ag
  | .tmp t=>s.tmps t
  | .const v=>if v.oneCell' then some (.w (.one (.c v))) else none
  | .global g=>some (.w (.one (.c (.pointer (some ⟨g,0,none⟩)))))
  | .func f=>some (.w (.one (.c (.func (.func f) #[] #[]))))
def aB.free(s:aB)(A:Nat→Prop)(ad:Nat→Nat)(b:Nat):Prop:=A b∧∀k cs,s.mem k=some cs→ad k≠b
structure aB.bR (s:aB):Prop where
  dw:∀t av j,s.tmps t=some av→av.owns j→∃cs,s.mem j=some cs
  c5:∀k cs x j,s.mem k=some cs→x∈cs→x.owns j→∃au,s.mem j=some au
structure cW where
  W:World
  F:Nat→Prop
  lt:∀b,F b→b<W.heap.size
  N:Nat→Option Nat
  marks:List Deferred:=[]
def cW.all(W:World):cW:=⟨W,fun b=>b<W.heap.size,fun _ h=>h,fun _=>none,[]⟩
def uy(B:cW)(s:aB)(ad:Nat→Nat):Prop:=∀k b,B.N k=some b→s.n≤k∧ad k=b
structure eR (B:cW) (w:World):Prop where
  os:w.os=B.W.os
  tape:w.tape=B.W.tape
  output:w.output=B.W.output
  size:B.W.heap.size≤w.heap.size
  block:∀b,B.F b→w.heap[b]?=B.W.heap[b]?
theorem eR.then{B:cW}{w w':World}(h:eR B w)(aa:Below w.heap.size w w'):eR B w' :=
  ⟨aa.os.trans h.os,aa.tape.trans h.tape,aa.output.trans h.output,eI h.size aa.size,fun b ay=>(aa.block b (kg (B.lt b ay) h.size)).trans (h.block b ay)⟩
theorem eR.refl(B:cW):eR B B.W:=⟨rfl,rfl,rfl,cF _,fun _ _=>rfl⟩
theorem eR.all{W w:World}(h:eR (cW.all W) w):Below W.heap.size W w:=⟨h.os,h.tape,h.output,h.size,fun k ae=>h.block k ae⟩
structure Rel (B:cW) (A:Nat→Prop) (s:aB) (ad:Nat→Nat) (a:Act) (w:World):Prop where
  kG:a.defers=B.marks
  size:a.tmps.size=s.n
  dw:∀t av,s.tmps t=some av→∃v,a.tmps[t]?=some v∧cS (s.free A ad) ad w av v
  c5:∀k cs,s.mem k=some cs→∃(vs:List Value) (ty:TypeId),w.heap[ad k]?=some (.cells vs.toArray ty (0,0))∧bS (s.free A ad) ad w cs vs∧¬B.F (ad k)
  inj:∀k k' cs au,s.mem k=some cs→s.mem k'=some au→ad k=ad k'→k=k'
  below:eR B w
  up:∀b,B.W.heap.size≤b→A b
  fQ:uy B s ad
section
variable{B:cW}{A:Nat→Prop}{s:aB}{ad:Nat→Nat}{a:Act}{w w':World}
theorem aB.aaY(s:aB)(dst:Option Nat)(v:ag)(A:Nat→Prop)(ad:Nat→Nat):(s.put dst v).free A ad=s.free A ad:=by cases dst <;> rfl
theorem aB.y5(s:aB)(dst:Option Nat)(v:ag):(s.put dst v).mem=s.mem:=by cases dst <;> rfl
theorem aB.tT(s:aB)(dst:Option Nat)(v:ag):(s.put dst v).n=s.n:=by cases dst <;> rfl
theorem Rel.put{dst:Option Nat}{av:ag}{v:Value}(h:Rel B A s ad a w)(hd:∀d,dst=some d→d<s.n)(hv:cS (s.free A ad) ad w av v):Rel B A (s.put dst av) ad (a.put dst v) w:=by
  cases dst with
  | none=>exact h
  | some d =>
    have bc:=hd d rfl;refine⟨h.kG,by simp[aB.put,Act.put,h.size],fun t bv aE => ?_,h.c5,h.inj,h.below,h.up,h.fQ⟩;simp only[aB.put] at aE
    by_cases e:t=d
    · subst e
      rw[bZ] at aE;cases aE;exact⟨v,by simp[Act.put,h.size,bc],hv⟩
    · rw[bP _ _ e] at aE
      obtain⟨u,h1,h2⟩:=h.dw t bv aE;exact⟨u,by simp only[Act.put];rw[CE (Ne.symm e)];exact h1,h2⟩
theorem Rel.lt{k:Nat}{cs:List AC}(h:Rel B A s ad a w)(ae:s.mem k=some cs):ad k<w.heap.size:=by
  obtain⟨vs,ty,h1,_⟩:=h.c5 k cs ae;exact(iN.1 h1).1
theorem Rel.call(h:Rel B A s ad a w)(aa:Below w.heap.size w w'):Rel B A s ad a w':=by
  have cQ:∀b,s.free A ad b→b<w.heap.size→s.free A ad b∧w'.heap[b]?=w.heap[b]?:=fun b cL al=>⟨cL,aa.block b al⟩;refine⟨h.kG,h.size,fun t av aE => ?_,fun k cs ae => ?_,h.inj,h.below.then aa,h.up,h.fQ⟩
  · obtain⟨v,h1,h2⟩:=h.dw t av aE
    exact⟨v,h1,h2.map cQ fun _ _=>rfl⟩
  · obtain⟨vs,ty,h1,h2,ar⟩:=h.c5 k cs ae
    exact⟨vs,ty,by rw[aa.block _ (h.lt ae)];exact h1,h2.map cQ fun _ _ _ _=>rfl,ar⟩
theorem Rel.new{d:Nat}{cs:List AC}{vs:List Value}{ty:TypeId}(h:Rel B A s ad a w)(ok:s.bR)(eu:d<s.n)(hm:s.mem d=none)(hv:bS (s.free A ad) ad w cs vs)(dp:∀x∈cs,∀j,x.owns j→∃au,s.mem j=some au) :
    Rel B A (s.eb d cs) (fun k=>if k=d then w.heap.size else ad k) a (w.alloc (.cells vs.toArray ty)):=by
  have cr:∀k au,s.mem k=some au→k≠d:=fun k au ae e=>by subst e;rw[hm] at ae;cases ae
  have cQ:∀b,s.free A ad b→b<w.heap.size→(s.eb d cs).free A (fun k=>if k=d then w.heap.size else ad k) b∧(w.alloc (.cells vs.toArray ty)).heap[b]?=w.heap[b]?:=by
    intro b aa al;refine⟨⟨aa.1,fun k au ae => ?_⟩,Below.heap_alloc _ _ _ al⟩;simp only[aB.eb] at ae
    by_cases e:k=d
    · subst e;simp;omega
    · rw[bP _ _ e] at ae
      simp only[e,if_false];exact aa.2 k au ae
  have c9:∀j,(∃au,s.mem j=some au)→(if j=d then w.heap.size else ad j)=ad j:=fun j ⟨au,af⟩=>by rw[if_neg (cr j au af)]
  refine⟨h.kG,h.size,fun t av aE => ?_,fun k au ae => ?_,fun k k' c1 c2 ae eD e => ?_,h.below.then ((Below.refl _ _).alloc (cF _) _),h.up,fun k b ae => ?_⟩
  · obtain⟨v,h1,h2⟩:=h.dw t av aE
    exact⟨v,h1,h2.map cQ fun j af=>c9 j (ok.dw t av j aE af)⟩
  · simp only[aB.eb] at ae
    by_cases e:k=d
    · subst e
      rw[bZ] at ae;cases ae;refine⟨vs,ty,?_,hv.map cQ fun j x ab af=>c9 j (dp x ab j af),?_⟩
      · show (w.heap.push _)[if k=k then w.heap.size else ad k]?=_;simp
      · simp only[if_true];exact fun ay=>by have:=B.lt _ ay;have:=h.below.size;omega
    · rw[bP _ _ e] at ae
      obtain⟨us,t,h1,h2,ar⟩:=h.c5 k au ae;refine⟨us,t,?_,h2.map cQ fun j x ab af=>c9 j (ok.c5 k au x j ae ab af),?_⟩
      · simp only[e,if_false];rw[Below.heap_alloc _ _ _ (h.lt ae)];exact h1
      · simp only[e,if_false];exact ar
  · simp only[aB.eb] at ae eD
    by_cases aI:k=d <;> by_cases aO:k'=d
    · rw[aI,aO]
    · rw[bP _ _ aO] at eD
      have:=h.lt eD;simp[aI,aO] at e;omega
    · rw[bP _ _ aI] at ae
      have:=h.lt ae;simp[aI,aO] at e;omega
    · rw[bP _ _ aI] at ae
      rw[bP _ _ aO] at eD;simp[aI,aO] at e;exact h.inj k k' _ _ ae eD e
  · obtain⟨h1,h2⟩:=h.fQ k b ae
    refine⟨h1,?_⟩;rw[if_neg (fun e=>by subst e;exact absurd eu (Nat.not_lt.2 h1))];exact h2
theorem Rel.set{k:Nat}{cs ds:List AC}{us:List Value}(h:Rel B A s ad a w)(ae:s.mem k=some cs)(hv:bS (s.free A ad) ad w ds us):Rel B A (s.eb k ds) ad a (w.setRow (ad k) us.toArray):=by
  have ie:(s.eb k ds).free A ad=s.free A ad:=by
    funext b;apply propext
    constructor
    · rintro⟨cp,aa⟩
      refine⟨cp,fun j au af => ?_⟩
      by_cases e:j=k
      · subst e;exact aa j ds (by simp[aB.eb,bZ])
      · exact aa j au (by simp only[aB.eb];rw[bP _ _ e];exact af)
    · rintro⟨cp,aa⟩
      refine⟨cp,fun j au af => ?_⟩;simp only[aB.eb] at af
      by_cases e:j=k
      · subst e;exact aa j cs ae
      · rw[bP _ _ e] at af;exact aa j au af
  obtain⟨vs,ty,g1,g2,g3⟩:=h.c5 k cs ae;have lD:(w.setRow (ad k) us.toArray).heap[ad k]?=some (.cells us.toArray ty (0,0)):=setRow_heap w (ad k) vs.toArray us.toArray ty (0,0) g1
  have w5:∀b,b≠ad k→(w.setRow (ad k) us.toArray).heap[b]?=w.heap[b]?:=fun b aa=>by
    simp only[World.setRow,vG];rw[if_neg (Ne.symm aa)]
  have cQ:∀b,s.free A ad b→b<w.heap.size→s.free A ad b∧(w.setRow (ad k) us.toArray).heap[b]?=w.heap[b]?:=fun b aa _=>⟨aa,w5 b (Ne.symm (aa.2 k cs ae))⟩;refine⟨h.kG,h.size,fun t av aE => ?_,fun j au af => ?_,fun j e5 c1 c2 af ly e => ?_,?_,h.up,h.fQ⟩
  · obtain⟨v,h1,h2⟩:=h.dw t av aE
    exact⟨v,h1,by rw[ie];exact h2.map cQ fun _ _=>rfl⟩
  · simp only[aB.eb] at af
    rw[ie]
    by_cases e:j=k
    · subst e
      rw[bZ] at af;cases af;exact⟨us,ty,lD,hv.map cQ fun _ _ _ _=>rfl,g3⟩
    · rw[bP _ _ e] at af
      obtain⟨xT,alP,h1,h2,ar⟩:=h.c5 j au af;exact⟨xT,alP,by rw[w5 _ (fun e'=>e (h.inj j k _ _ af ae e'))];exact h1,h2.map cQ fun _ _ _ _=>rfl,ar⟩
  · have hold:∀i c,(s.eb k ds).mem i=some c→∃c',s.mem i=some c':=fun i c hi=>by
      simp only[aB.eb] at hi
      by_cases e:i=k
      · exact⟨cs,by rw[e];exact ae⟩
      · rw[bP _ _ e] at hi;exact⟨c,hi⟩
    obtain⟨d1,q1⟩:=hold j c1 af;obtain⟨d2,q2⟩:=hold e5 c2 ly;exact h.inj j e5 _ _ q1 q2 e
  · exact⟨h.below.os,h.below.tape,h.below.output,by have:=h.below.size;simpa [World.setRow] using this,fun b aa=>(w5 b (fun e=>by subst e;exact g3 aa)).trans (h.below.block b aa)⟩
end
def ag.closed(x:ag):Prop:=∀j,¬x.owns j
def iB(U:Nat→Prop)(ad:Nat→Nat)(W:World)(xs:List ag)(vs:List Value):Prop :=
  xs.length=vs.length∧∀(i:Nat) (x:ag) (v:Value),xs[i]?=some x→vs[i]?=some v→cS U ad W x v
structure aP (P:Program) (f:FuncId) (args:List ag) (r:ag):Prop where
  gE:∀x∈args,x.closed
  cm:r.closed
  call:∀(U:Nat→Prop) (W:World) (vs:List Value),iB U id W args vs →
    Calls P f vs.toArray W fun e W'=>∃v,e = .returned v∧cS (fun b=>U b∨W.heap.size≤b) id W' r v∧Below W.heap.size W W'
structure x3 (P:Program) (look:Operand→Option ag) (o:Oper) (av:ag):Prop where
  akK:∀cs b,o.op ≠ .select cs b
  ops:∀x∈o.op.operands,∃a,look x=some a
  run:∀(U:Nat→Prop) (ad:Nat→Nat) (W:World) (env:Operand→Value),(∀x∈o.op.operands,∀a,look x=some a→cS U ad W a (env x)) →
    ∃v,(execOp env o).run P W = .ok (.value v) W∧cS U ad W av v
  own:∀j,av.owns j→∃x∈o.op.operands,∃a,look x=some a∧a.owns j
def pick(P:Program)(ty:TypeId)(cs:List AC)(off:Nat):Option bH :=
  match P.underlying ty with
  | some (.struct _)|some (.array _ _)=>(P.info? ty).bind fun i=>if off+i.size≤cs.length then some (.agg ((cs.drop off).take i.size)) else none
  | some _=>(cs[off]?).map .one
  | none=>none
def eP(cs:List AC)(off:Nat)(ds:List AC):List AC:=cs.take off++ds++cs.drop (off+ds.length)
inductive wk (P:Program) (look:Operand→Option ag) (o:Oper):List AC→Prop
  | alloc (ty:TypeId) (i:TypeInfo) (z:Value) (cs:List AC) (aD:o.op = .alloc ty) (hi:P.info? ty=some i) (aT:i.zero=some z) (ak:cs=z.cells.toList.map .c) (h1:(z.cells.toList.all fun v=>v.oneCell')=true):wk P look o cs
  | box (ty:TypeId) (x:Operand) (z:bH) (aD:o.op = .box ty x) (ab:look x=some (.w z)):wk P look o z.cells
def enters(P:Program)(f:FuncId):Bool:=match P.funcs[f]? with
  | some fn => fn.body.isSome && fn.name != "runtime.NumGoroutine"
  | none=>false
def Ef:Value→Bool
  | .agg cs=>cs.toList.all fun v=>v.oneCell'
  | .tuple _=>false
  | _=>true
def Ir(w:World):AC→Value→Nat→Prop
  | .p R,x,b=>R.lv w x b
  | _,_,_=>False
def l9(fn:Fn)(cs:List AC):dS where
  holds w v:=∃vs:List Value,v = .func fn #[] vs.toArray∧bS (fun _=>True) id w cs vs∧∀x∈cs,∀j,¬x.owns j
  lv w v b:=∃vs:List Value,v = .func fn #[] vs.toArray∧∃(i:Nat) (x:AC) (u:Value),cs[i]?=some x∧vs[i]?=some u∧Ir w x u b
  frame w w' v:=by
    rintro⟨vs,rfl,al,ak⟩ ay
    have key:∀(i:Nat) (x:AC) (u:Value),cs[i]?=some x→vs[i]?=some u→gb (fun _=>True) id w' x u∧∀b,Ir w' x u b→Ir w x u b:=by
      intro i x u ab hu;have h:=al.2 i x u ab hu;cases x with
      | c y=>exact⟨h,fun b aa=>aa⟩
      | own k o=>exact⟨h,fun b aa=>aa⟩
      | p R =>
        have:=R.frame w w' u h.1 fun b aa=>ay b ⟨vs,rfl,i,_,u,ab,hu,aa⟩;exact⟨⟨this.1,fun _ _=>trivial⟩,this.2⟩
    refine⟨⟨vs,rfl,⟨al.1,fun i x u ab hu=>(key i x u ab hu).1⟩,ak⟩,?_⟩;rintro b ⟨xT,e,i,x,u,ab,hu,aa⟩;have e':vs=xT:=by simpa using e
    subst e';exact⟨vs,rfl,i,x,u,ab,hu,(key i x u ab hu).2 b aa⟩
  iZ w v b:=by
    rintro⟨vs,rfl,al,ak⟩ ⟨xT,e,i,x,u,ab,hu,aa⟩;have e':vs=xT:=by simpa using e
    subst e';have h:=al.2 i x u ab hu;cases x with
    | p R=>exact R.iZ _ _ _ h.1 aa
    | c y=>cases aa
    | own k o=>cases aa
  cell w v:=by rintro⟨vs,rfl,_⟩;rfl
theorem l9.ZD{U:Nat→Prop}{ad:Nat→Nat}{w:World}{v:Value}{fn:Fn}{cs:List AC}(h:gb U ad w (.p (l9 fn cs)) v):∃vs:List Value,v = .func fn #[] vs.toArray∧bS U id w cs vs:=by
  obtain⟨⟨vs,rfl,al,ak⟩,ay⟩:=h;refine⟨vs,rfl,al.1,fun i x u ab hu => ?_⟩;have h:=al.2 i x u ab hu;cases x with
  | c y=>exact h
  | own k o=>exact h
  | p R=>exact⟨h.1,fun b aa=>ay b ⟨vs,rfl,i,_,u,ab,hu,aa⟩⟩
structure rS (P:Program) (look:Operand→Option ag) (o:Oper) (f:FuncId) (args:List ag):Prop where
  ex:∃c g,o.op = .call c∧c.callee = .value g ∧
    ((∃bs:List Value,look g=some (.w (.one (.c (.func (.func f) bs.toArray #[]))))∧bs.map (fun b=>some (zd b))++c.args.toList.map look=args.map some∧bs.all Ef=true) ∨
     ∃cs:List AC,look g=some (.w (.one (.p (l9 (.func f) cs))))∧c.args.toList.map look++cs.map (fun x=>some (.w (.one x)))=args.map some)
  enters:enters P f=true
structure xX (P:Program) (look:Operand→Option ag) (o:Oper) (av:ag):Prop where
  ops:∀x∈o.op.operands,∃a,look x=some a
  hb:av.closed
  run:∀(U:Nat→Prop) (ad:Nat→Nat) (W:World) (env:Operand→Value),(∀x∈o.op.operands,∀a,look x=some a→cS U ad W a (env x)) →
    ∃v W',(execOp env o).run P W = .ok (.value v) W'∧cS (fun b=>U b∨W.heap.size≤b) ad W' av v∧Below W.heap.size W W'
inductive mF (P:Program) (s:aB) (o:Oper):aB→Prop
  | fresh (av:ag) (aj:xX P s.look o av) (hd:∀d,o.dst=some d→d<s.n):mF P s o (s.put o.dst av)
  | quiet (av:ag) (aj:x3 P s.look o av) (hd:∀d,o.dst=some d→d<s.n):mF P s o (s.put o.dst av)
  | load (ty:TypeId) (x:Operand) (k off:Nat) (cs:List AC) (av:bH) (aD:o.op = .load ty x) (ab:s.look x=some (.w (.one (.own k off)))) (hm:s.mem k=some cs) (hv:pick P ty cs off=some av) (hd:∀d,o.dst=some d→d<s.n):mF P s o (s.put o.dst (.w av))
  | store (ty:TypeId) (x y:Operand) (k off:Nat) (cs:List AC) (z:bH) (i:TypeInfo) (aD:o.op = .store ty x y) (ab:s.look x=some (.w (.one (.own k off)))) (ai:s.look y=some (.w z)) (hm:s.mem k=some cs) (hi:P.info? ty=some i) (hs:i.size=z.cells.length) (aa:off+z.cells.length≤cs.length) (hd:∀d,o.dst=some d→d<s.n):mF P s o ((s.put o.dst (.cj [])).eb k (eP cs off z.cells))
  | new (cs:List AC) (d:Nat) (dT:o.dst=some d) (hm:s.mem d=none) (aA:wk P s.look o cs) (hd:d<s.n):mF P s o ((s.eb d cs).put (some d) (.w (.one (.own d 0))))
  | call (f:FuncId) (args:List ag) (r:ag) (ak:rS P s.look o f args) (hp:aP P f args r) (hd:∀d,o.dst=some d→d<s.n):mF P s o (s.put o.dst r)
section
variable{P:Program}{B:cW}{A:Nat→Prop}{s s':aB}{ad:Nat→Nat}{a:Act}{w:World}{o:Oper}{Q:Exit→Act→World→Prop}
theorem cS.undef(U:Nat→Prop):cS U ad w (.cj []) undef:=⟨[],rfl,rfl,fun i x v h=>by simp at h⟩
theorem Rel.look{x:Operand}{av:ag}(h:Rel B A s ad a w)(ab:s.look x=some av):cS (s.free A ad) ad w av (a.eval x):=by
  cases x with
  | tmp t =>
    obtain⟨v,h1,h2⟩:=h.dw t av ab;have:a.eval (.tmp t)=v:=by simp[Act.eval,Array.getD_eq_getD_getElem?,h1]
    rw[this];exact h2
  | const v =>
    simp only[aB.look] at ab
    split at ab
    · rename_i h1;cases ab;exact⟨rfl,h1⟩
    · cases ab
  | global g=>cases ab;exact⟨rfl,rfl⟩
  | func f=>cases ab;exact⟨rfl,rfl⟩
theorem bS.cellAt{U:Nat→Prop}{W:World}{xs:List AC}{vs:List Value}{g:Nat}{ty:TypeId}(h:bS U ad W xs vs)(aw:W.heap[g]?=some (.cells vs.toArray ty (0,0))){i:Nat}{x:AC}(hi:xs[i]?=some x) :
    ∃v,vs[i]?=some v∧W.cell? ⟨g,i,none⟩=some v∧gb U ad W x v:=by
  have bc:i<vs.length:=by
    rw[←h.1];rcases iv i xs.length with q|q
    · exact q
    · rw[qC q] at hi;cases hi
  refine⟨vs[i],bF bc,?_,h.2 i x _ hi (bF bc)⟩;simp[World.cell?,aw,bc]
theorem bS.sub{U:Nat→Prop}{W:World}{xs:List AC}{vs:List Value}(h:bS U ad W xs vs)(off n:Nat):bS U ad W ((xs.drop off).take n) ((vs.drop off).take n):=by
  refine⟨by simp[h.1],fun i x v ab hv => ?_⟩;rw[List.getElem?_take] at ab hv
  split at ab
  · rename_i bc
    rw[if_pos bc] at hv;rw[gU] at ab hv;exact h.2 _ x v ab hv
  · cases ab
theorem bS.eP{U:Nat→Prop}{W:World}{xs ds:List AC}{vs us:List Value}(h:bS U ad W xs vs)(hd:bS U ad W ds us)(off:Nat)(aa:off+ds.length≤xs.length):bS U ad W (eP xs off ds) (vs.take off++us++vs.drop (off+us.length)):=by
  have aI:=h.1;have aO:=hd.1;refine⟨by simp[Proofs.YtklpfooafbjnpaaGreat.eP,aI,aO],fun i x v ab hv => ?_⟩;unfold Proofs.YtklpfooafbjnpaaGreat.eP at ab;have dO:(xs.take off).length=off:=by simp;omega
  have sA:(vs.take off).length=off:=by simp;omega
  by_cases h1:i<off
  · rw[hD,fM (by omega),gq h1] at ab
    rw[hD,fM (by omega),gq h1] at hv;exact h.2 i x v ab hv
  · by_cases h2:i<off+ds.length
    · rw[hD,gr (by omega),fM (by omega),dO] at ab
      rw[hD,gr (by omega),fM (by omega),sA] at hv;exact hd.2 _ x v ab hv
    · rw[gr (by simp;omega),gU] at ab hv
      simp only[c3,dO,sA] at ab hv;rw[←aO] at hv;have e:off+ds.length+(i-(off+ds.length))=i:=by omega
      rw[e] at ab hv;exact h.2 i x v ab hv
theorem L1{ty:TypeId}{A:Addr}{v:Value}{d:TypeDesc}(hu:P.underlying ty=some d)(hs:∀bo,d ≠ .struct bo)(aX:∀n e,d ≠ .array n e)(ak:w.cell? A=some v):(loadVar ty A).run P w = .ok v w:=by
  have h1:(isAgg ty).run P w = .ok false w:=by
    unfold isAgg;simp only[Sem.run_bind,run_underlying hu,Result.andThen_ok];cases d <;> first|rfl|(exact absurd rfl (hs _))|(exact absurd rfl (aX _ _))
  unfold loadVar;simp only[Sem.run_bind,h1,Result.andThen_ok,Bool.false_eq_true,if_false];simp[load,Sem.run,ak]
theorem h5{ty:TypeId}{i:TypeInfo}(hi:P.info? ty=some i):(sizeOf ty).run P w = .ok i.size w:=by
  simp[sizeOf,typeInfo,program,Sem.run_bind,Sem.run,hi,Result.andThen]
theorem L0{ty:TypeId}{A:Addr}{vs:List Value}{i:TypeInfo}{d:TypeDesc}(hu:P.underlying ty=some d)(hd:(∃bo,d = .struct bo)∨∃n e,d = .array n e)(hi:P.info? ty=some i)(al:vs.length=i.size)(ak:∀j v,vs[j]?=some v→w.cell? (A.add j)=some v) :
    (loadVar ty A).run P w = .ok (.agg vs.toArray) w:=by
  have h1:(isAgg ty).run P w = .ok true w:=by
    unfold isAgg;simp only[Sem.run_bind,run_underlying hu,Result.andThen_ok];rcases hd with ⟨bo,rfl⟩|⟨n,e,rfl⟩ <;> rfl
  unfold loadVar;simp only[Sem.run_bind,h1,Result.andThen_ok,if_true,h5 hi,←al,run_loadCells_list w A vs ak];rfl
end
section
variable{P:Program}{B:cW}{A:Nat→Prop}{s s':aB}{ad:Nat→Nat}{a:Act}{w:World}{o:Oper}{Q:Exit→Act→World→Prop}
theorem TO{U:Nat→Prop}{ty:TypeId}{cs:List AC}{off g:Nat}{av:bH}{vs:List Value}{t:TypeId}(hv:pick P ty cs off=some av)(aw:w.heap[g]?=some (.cells vs.toArray t (0,0)))(al:bS U ad w cs vs) :
    ∃v,(loadVar ty ⟨g,off,none⟩).run P w = .ok v w∧gZ U ad w av v:=by
  unfold pick at hv
  have key:∀d,P.underlying ty=some d→((∃bo,d = .struct bo)∨∃n e,d = .array n e)→((P.info? ty).bind fun i=>if off+i.size≤cs.length then some (bH.agg ((cs.drop off).take i.size)) else none)=some av→∃v,(loadVar ty ⟨g,off,none⟩).run P w = .ok v w∧gZ U ad w av v:=by
    intro d hu hd h;cases hi:P.info? ty with
    | none=>rw[hi] at h;cases h
    | some i =>
      rw[hi] at h;simp only[k6] at h
      split at h
      · rename_i hle
        cases h;have hs:=al.sub off i.size;have hlen:((vs.drop off).take i.size).length=i.size:=by have:=al.1;simp;omega
        refine⟨_,L0 hu hd hi hlen (fun j v af => ?_),_,rfl,hs⟩;have ly:j<i.size:=by rw[←hlen];exact(bt.1 af).1
        rw[gq ly,gU] at af;have lX:(⟨g,off,none⟩:Addr).add j=⟨g,off+j,none⟩:=by unfold Addr.add;split <;> simp_all
        rw[lX];simp only[World.cell?,aw];simpa using af
      · cases h
  have KP:∀d,P.underlying ty=some d→(∀bo,d ≠ .struct bo)→(∀n e,d ≠ .array n e)→(cs[off]?).map bH.one=some av→∃v,(loadVar ty ⟨g,off,none⟩).run P w = .ok v w∧gZ U ad w av v:=by
    intro d hu h1 h2 h;cases ab:cs[off]? with
    | none=>rw[ab] at h;cases h
    | some x =>
      rw[ab] at h;cases h;obtain⟨v,q1,q2,q3⟩:=al.cellAt aw ab;exact⟨v,L1 hu h1 h2 q2,q3⟩
  cases hu:P.underlying ty with
  | none=>rw[hu] at hv;cases hv
  | some d =>
    rw[hu] at hv;cases d <;> first|exact key _ hu (.inl ⟨_,rfl⟩) hv|exact key _ hu (.inr ⟨_,_,rfl⟩) hv|exact KP _ hu (fun _ h=>by cases h) (fun _ _ h=>by cases h) hv
theorem yp{f:FuncId}{args:Array Value}(h:enters P f=true):(callFunc f args).run P w = .ok (.enter f args) w:=by
  unfold enters at h;cases ay:P.funcs[f]? with
  | none=>rw[ay] at h;cases h
  | some fn =>
    rw[ay] at h;simp only[ef,bne_iff_ne,ne_eq] at h;obtain⟨h1,h2⟩:=h;simp[callFunc,program,Sem.run_bind,Sem.run,ay,Result.andThen,h2];intro ar;rw[ar] at h1;cases h1
def me(ro:Option Nat):Fence:={Fence.wide with round:=ro}
theorem ZB{ro:Option Nat}{n:Nat}{P:Program}{f:FuncId}{args:Array Value}{w:World}{R:Ending→World→Prop}(h:Calls P f args w R):CallsIn (me ro) n P f args w R:=callsIn_wide.2 h
theorem aj2{ro:Option Nat}{n:Nat}{P:Program}{row:String}{args:Array Value}{w:World}{R:Value→World→Prop}(h:Rows P row args w R):RowsIn (me ro) n P row args w R:=fun c cs _=>by
  obtain⟨v,w',ap,hs⟩:=h c cs;exact⟨v,w',ap,stepsIn_wide.2 hs⟩
theorem za{P:Program}{ad:Operand→Value}{o:Oper}{w w':World}{x:Next}(h:(execOp ad o).run P w = .ok x w')(ab:∀d,x ≠ .defer d):∀c,o.op ≠ .defer c:=fun c ak=>by
  simp only[execOp,ak,Sem.run_bind] at h;cases ap:(resolve ad c o.type).run P w with
  | ok d w2=>rw[ap] at h;simp only[Result.andThen_ok,Sem.run_pure,Result.ok.injEq] at h;exact ab d h.1.symm
  | halt r w2=>rw[ap] at h;simp[Result.andThen] at h
theorem Oper.Wm{ro:Option Nat}{n:Nat}{P:Program}{o:Oper}{a:Act}{w:World}{K:Act→World→Prop}{Q:Exit→Act→World→Prop}(h:o.wp P a w K Q)(hd:∀c,o.op ≠ .defer c):o.wpIn (me ro) n P a w K Q:=by
  refine⟨fun _ _=>trivial,?_⟩;rw[Oper.semAt_eq _ _ _ hd];unfold Oper.wp at h;generalize (execOp a.eval o).run P w=r at *;have aA:(me ro).depth.isSome=true→1≤n:=fun h=>by simp[me,Fence.wide] at h
  cases r with
  | ok x w'=>cases x <;> first|exact h|exact⟨aA,ZB h⟩|exact⟨aA,aj2 h⟩|exact h.elim
  | halt x w'=>cases x <;> exact h
def lh(P:Program)(c:Code)(Q:Exit→Act→World→Prop)(a:Act)(w:World):Prop:=∀ro,c.wpIn (me ro) 0 P Q a w
section
variable{P:Program}{Q Af:Exit→Act→World→Prop}{a:Act}{w:World}{c x y:Code}
theorem lh.top(h:lh P c Q a w):c.wp P Q a w:=wpIn_wide.1 (h none)
theorem rO(h:lh P c Q a w)(aj:∀e a w,Q e a w→Af e a w):lh P c Af a w:=fun ro=>wpIn_mono (h ro) aj
theorem We(h:lh P x (Exit.then (lh P y Q) Q) a w):lh P (.seq x y) Q a w:=fun ro=>wpIn_seq (wpIn_mono (h ro) fun e a w aj=>by cases e <;> first|exact aj ro|exact aj)
theorem Wf(h:Q .normal a w):lh P .skip Q a w:=fun ro=>wpIn_skip h
theorem V9{id:Nat}(h:Q (.exit id) a w):lh P (.exit id) Q a w:=fun ro=>wpIn_exit h
theorem Wd(h:Q .ret a w):lh P .ret Q a w:=fun ro=>wpIn_ret h
theorem V8{c:Operand}{t:Bool}(ak:a.eval c = .bool t)(h:lh P (if t then x else y) Q a w):lh P (.cond c x y) Q a w:=fun ro=>wpIn_cond ak (h ro)
theorem V7{id:Nat}(h:lh P c (Exit.inBlock id Q) a w):lh P (.block id c) Q a w:=fun ro=>wpIn_block (h ro)
theorem Wb{id:Nat}{ops:Array Oper}(h:∀ro,wpOpsIn (me ro) 0 P ops Q (List.range ops.size) a w):lh P (.region id ops false) Q a w:=fun ro=>wpIn_region (h ro)
theorem Wc{id:Nat}{ops:Array Oper}(hm:P.follows .mixedOrders=true)(h:∀ro,wpAnyIn (me ro) 0 P .any ops Q ops.size (Array.replicate ops.size false) a {w with drawn:=w.drawn+1}):lh P (.region id ops true) Q a w:=fun ro=>wpIn_region_any hm (h ro)
end
theorem Oper.s0{v:Value}{w':World}{next:Act→World→Prop}(h:(execOp a.eval o).run P w = .ok (.value v) w')(aA:next (a.put o.dst v) w'):o.wp P a w next Q:=by
  unfold Oper.wp;rw[h];exact aA
theorem Rel.Q9{U:Nat→Prop}{x:ag}{v:Value}(ak:x.closed)(h:cS U ad w x v):cS U id w x v:=h.map (fun b aa _=>⟨aa,rfl⟩) fun j af=>absurd af (ak j)
theorem UN{U:Nat→Prop}{v:Value}(h:Ef v=true):cS U ad w (zd v) v:=by
  cases v with
  | agg cs =>
    refine⟨cs.toList,by simp,by simp,fun i x u ab hu => ?_⟩;rw[dD,hu] at ab;cases ab;exact⟨rfl,b4.1 h u (cP hu)⟩
  | tuple vs=>cases h
  | _=>exact⟨rfl,rfl⟩
theorem mF.SF(h:mF P s o s')(an:Rel B A s ad a w):∀c,o.op ≠ .defer c:=by
  cases h with
  | quiet av aj hd =>
    obtain⟨v,h1,h2⟩:=aj.run (s.free A ad) ad w a.eval (fun x ab b aa=>an.look aa);exact za h1 (fun d h=>by cases h)
  | fresh av aj hd =>
    obtain⟨v,W',h1,h2,aa⟩:=aj.run (s.free A ad) ad w a.eval (fun x ab b aa=>an.look aa);exact za h1 (fun d h=>by cases h)
  | load ty x k off cs av aD=>intro c ak;rw[aD] at ak;cases ak
  | store ty x y k off cs z i aD=>intro c ak;rw[aD] at ak;cases ak
  | new cs d dT hm aA hd =>
    intro c ak;cases aA with
    | alloc ty i z cs aD=>rw[aD] at ak;cases ak
    | box ty x z aD=>rw[aD] at ak;cases ak
  | call f args r ak hp hd =>
    intro c pq;obtain⟨⟨c',g,aD,_⟩,_⟩:=ak;rw[aD] at pq;cases pq
theorem mF.sound(h:mF P s o s')(an:Rel B A s ad a w)(ok:s.bR):o.wp P a w (fun a' w'=>∃aU,Rel B A s' aU a' w') Q:=by
  cases h with
  | quiet av aj hd =>
    obtain⟨v,h1,h2⟩:=aj.run (s.free A ad) ad w a.eval (fun x ab b aa=>an.look aa);exact Oper.s0 h1 ⟨ad,an.put hd h2⟩
  | fresh av aj hd =>
    obtain⟨v,W',h1,h2,aa⟩:=aj.run (s.free A ad) ad w a.eval (fun x ab b aa=>an.look aa);refine Oper.s0 h1 ⟨ad,(an.call aa).put hd (h2.map (fun b cL al=>⟨?_,rfl⟩) fun j af=>rfl)⟩;rcases cL with h|h
    · exact h
    · refine⟨an.up b (eI an.below.size h),fun k cs ae e => ?_⟩
      have:=an.lt ae;omega
  | load ty x k off cs av aD ab hm hv hd =>
    obtain⟨vs,t,g1,g2,g3⟩:=an.c5 k cs hm;obtain⟨v,h1,h2⟩:=TO hv g1 g2;have hp:a.eval x = .pointer (some ⟨ad k,off,none⟩):=an.look ab;refine Oper.s0 (v:=v) (w':=w) ?_ ⟨ad,an.put hd h2⟩;simp only[execOp,aD,Instr.loadAt,hp,Instr.sureAddr,Sem.run_bind,Sem.run_pure,Result.andThen_ok,h1]
  | store ty x y k off cs z i aD ab ai hm hi hs aa hd =>
    obtain⟨vs,t,g1,g2,g3⟩:=an.c5 k cs hm;have hp:a.eval x = .pointer (some ⟨ad k,off,none⟩):=an.look ab;have aT:gZ (s.free A ad) ad w z (a.eval y):=an.look ai;have ql:=aT.cells;have w8:(a.eval y).cells.size=z.cells.length:=by have:=ql.1;simp at this;exact this.symm
    have hx:(storeVar ty ⟨ad k,off,none⟩ (a.eval y)).run P w = .ok () (w.setRow (ad k) (vs.take off++(a.eval y).cells.toList++vs.drop (off+(a.eval y).cells.toList.length)).toArray):=by
      unfold storeVar;have cr:¬((a.eval y).cells.size≠i.size):=by rw[w8,hs];simp
      simp only[Sem.run_bind,h5 hi,Result.andThen_ok,if_neg cr]
      have dN:∀v∈(a.eval y).cells.toList,v.oneCell'=true:=fun v hv=>by
        obtain⟨j,af⟩:=kJ hv;have bc:j<z.cells.length:=by rw[ql.1];exact(bt.1 af).1
        exact(ql.2 j _ v (bF bc) af).cell
      have:=run_storeCells_at (P:=P) (ad k) off t (a.eval y).cells.toList 0 vs.toArray w g1 (by have:=g2.1;simp;omega) dN;simpa using this
    have hrel:=(Rel.set (k:=k) (ds:=eP cs off z.cells) (an.put (dst:=o.dst) hd (cS.undef _)) (by rw[aB.y5];exact hm) (by rw[aB.aaY];exact g2.eP ql off aa));unfold Oper.wp
    have eO:(execOp a.eval o).run P w = .ok .skip (w.setRow (ad k) (vs.take off++(a.eval y).cells.toList++vs.drop (off+(a.eval y).cells.toList.length)).toArray):=by
      simp only[execOp,aD,Instr.storeAt,hp,Instr.sureAddr,Sem.run_bind,Sem.run_pure,Result.andThen_ok,hx]
    rw[eO];exact⟨ad,hrel⟩
  | new cs d dT hm aA hd =>
    have main:∀(vs:List Value) (ty:TypeId),bS (s.free A ad) ad w cs vs→(∀x∈cs,∀j,x.owns j→∃au,s.mem j=some au)→(execOp a.eval o).run P w = .ok (.value (.pointer (some ⟨w.heap.size,0,none⟩))) (w.alloc (.cells vs.toArray ty)) →
        o.wp P a w (fun a' w'=>∃aU,Rel B A ((s.eb d cs).put (some d) (.w (.one (.own d 0)))) aU a' w') Q:=by
      intro vs ty al c9 eO;refine Oper.s0 eO ⟨fun k=>if k=d then w.heap.size else ad k,?_⟩;rw[dT];refine(an.new ok hd hm al c9).put (fun d' e=>by cases e;exact hd) ?_;show Value.pointer _=Value.pointer _;simp
    cases aA with
    | alloc ty i z cs aD hi aT ak h1 =>
      subst ak;refine main z.cells.toList ty ⟨by simp,fun j x v ab hv => ?_⟩ (fun x ab j af => ?_) ?_
      · rw[dD,hv] at ab
        cases ab;exact⟨rfl,b4.1 h1 v (cP hv)⟩
      · obtain⟨v,_,rfl⟩:=fV.1 ab
        cases af
      · have tL:(zeroValue ty).run P w = .ok z w:=by simp[zeroValue,typeInfo,program,Sem.run_bind,Sem.run,hi,Result.andThen,aT]
        simp only[execOp,aD,Instr.alloc,Sem.run_bind,tL,Result.andThen_ok,newVar,newRow,newObj,Sem.run];rfl
    | box ty x z aD ab =>
      have aT:gZ (s.free A ad) ad w z (a.eval x):=an.look ab;refine main (a.eval x).cells.toList ty aT.cells (fun y ai j af => ?_) ?_
      · cases x with
        | tmp t=>exact ok.dw t _ j ab ⟨y,ai,af⟩
        | const v =>
          simp only[aB.look] at ab
          split at ab
          · cases ab;simp[bH.cells] at ai;subst ai;cases af
          · cases ab
        | global g=>cases ab;simp[bH.cells] at ai;subst ai;cases af
        | func g=>cases ab;simp[bH.cells] at ai;subst ai;cases af
      · simp only[execOp,aD,Instr.box,newVar,newRow,newObj,Sem.run_bind,Sem.run,Result.andThen_ok]
        rfl
  | call f args r ak hp hd =>
    obtain⟨⟨c,g,aD,Bl,ba⟩,Bn⟩:=ak;have df:∀ {y:Operand} {x:ag},x∈args→s.look y=some x→cS (s.free A ad) id w x (a.eval y):=fun{y x} ab ai=>Rel.Q9 (ad:=ad) (hp.gE x ab) (an.look ai)
    obtain⟨us,cJ,eO⟩:∃us:List Value,iB (s.free A ad) id w args us∧(execOp a.eval o).run P w = .ok (.enter f us.toArray) w:=by
      rcases ba with ⟨bs,aw,qf,Fj⟩|⟨cs,aw,qf⟩
      · have jI:a.eval g = .func (.func f) bs.toArray #[]:=(an.look aw).1
        refine⟨bs++c.args.toList.map a.eval,?_,?_⟩
        · refine⟨by have:=congrArg List.length qf;simpa using this.symm,fun i x v ab hv => ?_⟩
          have h1:(bs.map (fun b=>some (zd b))++c.args.toList.map s.look)[i]?=some (some x):=by rw[qf,dD,ab];rfl
          rcases iv i bs.length with bc|iX
          · rw[fM (by simpa using bc),dD] at h1
            rw[fM bc] at hv;rw[hv] at h1;simp only[hk,jd] at h1;subst h1;exact UN (b4.1 Fj v (cP hv))
          · rw[gr (by simpa using iX),dD] at h1
            rw[gr iX,dD] at hv;simp only[jT] at h1;cases ai:c.args.toList[i-bs.length]? with
            | none=>rw[ai] at hv;cases hv
            | some y =>
              rw[ai] at h1 hv;simp only[hk,jd] at h1 hv;subst hv;exact df (cP ab) h1
        · have e:bs.toArray++c.args.map a.eval ++ #[]=(bs++c.args.toList.map a.eval).toArray:=by
            rw[Array.append_empty];apply Array.ext';simp
          simp only[execOp,aD,resolve,Bl,Deferred.ofValue,jI];simp only[Sem.run_bind,Sem.run_pure,Result.andThen_ok,invoke];rw[e];exact yp Bn
      · obtain⟨vs,jI,cq⟩:=l9.ZD (ad:=ad) (an.look aw)
        refine⟨c.args.toList.map a.eval++vs,?_,?_⟩
        · refine⟨by have:=congrArg List.length qf;have h2:=cq.1;simp at this ⊢;omega,fun i x v ab hv => ?_⟩
          have h1:(c.args.toList.map s.look++cs.map (fun x=>some (.w (.one x))))[i]?=some (some x):=by rw[qf,dD,ab];rfl
          rcases iv i c.args.toList.length with bc|iX
          · rw[fM (by simpa using bc),dD] at h1
            rw[fM (by simpa using bc),dD] at hv;cases ai:c.args.toList[i]? with
            | none=>rw[ai] at hv;cases hv
            | some y =>
              rw[ai] at h1 hv;simp only[hk,jd] at h1 hv;subst hv;exact df (cP ab) h1
          · rw[gr (by simpa using iX),dD] at h1
            rw[gr (by simpa using iX)] at hv;simp only[jT] at h1 hv;cases ai:cs[i-c.args.toList.length]? with
            | none=>rw[ai] at h1;cases h1
            | some y =>
              rw[ai] at h1;simp only[hk,jd] at h1;subst h1;exact cq.2 _ y v ai hv
        · have e:(#[]:Array Value)++c.args.map a.eval++vs.toArray=(c.args.toList.map a.eval++vs).toArray:=by
            apply Array.ext';simp
          simp only[execOp,aD,resolve,Bl,Deferred.ofValue,jI];simp only[Sem.run_bind,Sem.run_pure,Result.andThen_ok,invoke];rw[e];exact yp Bn
    unfold Oper.wp;rw[eO];refine(hp.call (s.free A ad) w _ cJ).mono ?_;rintro e w' ⟨v,rfl,hv,aa⟩;refine⟨ad,(an.call aa).put hd (hv.map (fun b cL al=>⟨?_,rfl⟩) fun j af=>absurd af (hp.cm j))⟩;rcases cL with h|h
    · exact h
    · refine⟨an.up b (eI an.below.size h),fun k cs ae e => ?_⟩
      have:=an.lt ae;omega
end
def alW:ag := .cj []
def want(ops:Array Oper)(o:Oper)(s:aB):Option Bool :=
  match o.guard with
  | none=>some true
  | some (g,b) =>
    match (ops[g]?).bind (·.dst) with
    | some d=>match s.tmps d with
      | some (.w (.one (.c (.bool x))))=>some (some x==some b)
      | some (.cj _)=>some false
      | _=>none
    | none=>none
def nP(o:Oper):Nat :=
  match o.op with
  | .load .. => 1
  | .store .. => 2
  | _=>0
def xh(x y:Oper):Bool := !(nP x==2&&nP y != 0) && !(nP x != 0&&nP y==2)
def addrOf(o:Oper):Option Operand :=
  match o.op with
  | .load _ x=>some x
  | .store _ x _=>some x
  | _=>none
def Ay:ag→ag→Bool
  | .w (.one (.own k _)),.w (.one (.own j _)) => !Nat.beq k j
  | .w (.one (.own _ _)),.w (.one (.p _))=>true
  | .w (.one (.p _)),.w (.one (.own _ _))=>true
  | _,_=>false
theorem Ic{k j o p:Nat}(h:Ay (.w (.one (.own k o))) (.w (.one (.own j p)))=true):k≠j:=fun e=>by
  subst e;simp[Ay,qD] at h
def Ac(s:aB)(x y:Oper):Prop:=xh x y=true∨∃a b u v,addrOf x=some a∧addrOf y=some b∧s.look a=some u∧s.look b=some v∧Ay u v=true
section
variable{P:Program}{B:cW}{A:Nat→Prop}{s s1 s2 s':aB}{ad:Nat→Nat}{a:Act}{w:World}{o bA bI:Oper}{ops:Array Oper}
theorem R7{x:Operand}{dst:Option Nat}{v:ag}(h:∀d,dst=some d→x ≠ .tmp d):(s.put dst v).look x=s.look x:=by
  cases dst with
  | none=>rfl
  | some d =>
    cases x with
    | tmp t=>simp only[aB.look,aB.put];exact bP _ _ (fun e=>h d rfl (by rw[e]))
    | _=>rfl
theorem af8{x:Operand}{k:Nat}{cs:List AC}:(s.eb k cs).look x=s.look x:=by cases x <;> rfl
theorem x3.congr{look hj:Operand→Option ag}{av:ag}(h:x3 P look o av)(e:∀x∈o.op.operands,hj x=look x):x3 P hj o av :=
  ⟨h.akK,fun x ab=>by rw[e x ab];exact h.ops x ab,fun U ad W env he=>h.run U ad W env fun x ab a aX=>he x ab a (by rw[e x ab];exact aX),fun j af=>by
    obtain⟨x,ab,a,aX,ach⟩:=h.own j af;exact⟨x,ab,a,by rw[e x ab];exact aX,ach⟩⟩
theorem xX.congr{look hj:Operand→Option ag}{av:ag}(h:xX P look o av)(e:∀x∈o.op.operands,hj x=look x):xX P hj o av :=
  ⟨fun x ab=>by rw[e x ab];exact h.ops x ab,h.hb,fun U ad W env he=>h.run U ad W env fun x ab a aX=>he x ab a (by rw[e x ab];exact aX)⟩
theorem wk.congr{look hj:Operand→Option ag}{cs:List AC}(h:wk P look o cs)(e:∀x∈o.op.operands,hj x=look x):wk P hj o cs:=by
  cases h with
  | alloc ty i z cs aD hi aT ak h1=>exact .alloc ty i z cs aD hi aT ak h1
  | box ty x z aD ab=>exact .box ty x z aD (by rw[e x (by simp[aD,Op.operands])];exact ab)
theorem rS.congr{look hj:Operand→Option ag}{f:FuncId}{args:List ag}(h:rS P look o f args)(e:∀x∈o.op.operands,hj x=look x):rS P hj o f args:=by
  obtain⟨⟨c,g,aD,ak,ba⟩,he⟩:=h;have EE:hj g=look g:=e g (by simp[aD,Op.operands,Call.operands,ak]);have jH:c.args.toList.map hj=c.args.toList.map look:=nV fun x ab=>e x (by simp[aD,Op.operands,Call.operands,ak];exact .inr (by simpa using ab));refine⟨⟨c,g,aD,ak,?_⟩,he⟩;rcases ba with ⟨bs,aw,aX,aa⟩|⟨cs,aw,aX⟩
  · exact .inl ⟨bs,by rw[EE];exact aw,by rw[jH];exact aX,aa⟩
  · exact .inr ⟨cs,by rw[EE];exact aw,by rw[jH];exact aX⟩
theorem aB.put_comm(s:aB){x y:Option Nat}(v u:ag)(h:∀d,x=some d→y≠some d):(s.put x v).put y u=(s.put y u).put x v:=by
  cases x with
  | none=>rfl
  | some d =>
    cases y with
    | none=>rfl
    | some e =>
      have cr:e≠d:=fun he=>h d rfl (by rw[he]);simp only[aB.put];rw[VW _ _ _ cr]
theorem aB.zj(s:aB)(x:Option Nat)(v:ag)(k:Nat)(cs:List AC):(s.put x v).eb k cs=(s.eb k cs).put x v:=by cases x <;> rfl
theorem aB.akM(s:aB){k j:Nat}(cs ds:List AC)(h:j≠k):(s.eb k cs).eb j ds=(s.eb j ds).eb k cs:=by
  simp only[aB.eb];rw[VW _ _ _ h]
structure cE where
  v:ag
  m:Option (Nat×List AC)
def cE.on(e:cE)(dst:Option Nat)(s:aB):aB :=
  match e.m with
  | some (k,cs)=>(s.eb k cs).put dst e.v
  | none=>s.put dst e.v
inductive fa (P:Program) (n:Nat) (look:Operand→Option ag) (mem:Nat→Option (List AC)) (o:Oper):Bool→cE→Prop
  | skip:fa P n look mem o false ⟨.cj [],none⟩
  | quiet (av:ag) (aj:x3 P look o av):fa P n look mem o true ⟨av,none⟩
  | fresh (av:ag) (aj:xX P look o av):fa P n look mem o true ⟨av,none⟩
  | load (ty:TypeId) (x:Operand) (k off:Nat) (cs:List AC) (av:bH) (aD:o.op = .load ty x) (ab:look x=some (.w (.one (.own k off)))) (hm:mem k=some cs) (hv:pick P ty cs off=some av):fa P n look mem o true ⟨.w av,none⟩
  | store (ty:TypeId) (x y:Operand) (k off:Nat) (cs:List AC) (z:bH) (i:TypeInfo) (aD:o.op = .store ty x y) (ab:look x=some (.w (.one (.own k off)))) (ai:look y=some (.w z)) (hm:mem k=some cs) (hi:P.info? ty=some i) (hs:i.size=z.cells.length) (aa:off+z.cells.length≤cs.length):fa P n look mem o true ⟨.cj [],some (k,eP cs off z.cells)⟩
  | new (cs:List AC) (d:Nat) (dT:o.dst=some d) (hm:mem d=none) (aA:wk P look o cs):fa P n look mem o true ⟨.w (.one (.own d 0)),some (d,cs)⟩
  | call (f:FuncId) (args:List ag) (r:ag) (ak:rS P look o f args) (hp:aP P f args r):fa P n look mem o true ⟨r,none⟩
theorem fa.step{e:cE}(h:fa P s.n s.look s.mem o true e)(hd:∀d,o.dst=some d→d<s.n):mF P s o (e.on o.dst s):=by
  cases h with
  | quiet av aj=>exact .quiet av aj hd
  | fresh av aj=>exact .fresh av aj hd
  | load ty x k off cs av aD ab hm hv=>exact .load ty x k off cs av aD ab hm hv hd
  | store ty x y k off cs z i aD ab ai hm hi hs aa =>
    have:=mF.store (P:=P) (s:=s) ty x y k off cs z i aD ab ai hm hi hs aa hd;rw[aB.zj] at this;exact this
  | new cs d dT hm aA =>
    have:=mF.new (P:=P) (s:=s) cs d dT hm aA (hd d dT);rw[←dT] at this;exact this
  | call f args r ak hp=>exact .call f args r ak hp hd
theorem cE.sH(e:cE)(dst:Option Nat)(s:aB):(e.on dst s).mem=match e.m with|some (k,cs)=>upd s.mem k cs|none=>s.mem:=by
  unfold cE.on
  split
  · rename_i h;rw[aB.y5];simp[aB.eb]
  · rename_i h;rw[aB.y5]
theorem cE.sG(e:cE)(dst:Option Nat)(s:aB){x:Operand}(h:∀d,dst=some d→x ≠ .tmp d):(e.on dst s).look x=s.look x:=by
  unfold cE.on
  split
  · rw[R7 h,af8]
  · rw[R7 h]
theorem cE.vy(e:cE)(dst:Option Nat)(s:aB):(e.on dst s).n=s.n:=by
  unfold cE.on
  split
  · rw[aB.tT];rfl
  · rw[aB.tT]
theorem cE.Cs(e f:cE)(x y:Option Nat)(s:aB)(h:∀d,x=some d→y≠some d)(ae:∀k cs j ds,e.m=some (k,cs)→f.m=some (j,ds)→j≠k):f.on y (e.on x s)=e.on x (f.on y s):=by
  unfold cE.on;cases he:e.m with
  | none =>
    cases ay:f.m with
    | none=>simp only[he,ay];exact aB.put_comm s _ _ h
    | some q=>obtain⟨j,ds⟩:=q;simp only[he,ay];rw[aB.zj];exact aB.put_comm _ _ _ h
  | some p =>
    obtain⟨k,cs⟩:=p;cases ay:f.m with
    | none=>simp only[he,ay];rw[aB.zj];exact aB.put_comm _ _ _ h
    | some q =>
      obtain⟨j,ds⟩:=q;simp only[he,ay];rw[aB.zj,aB.zj,aB.akM s _ _ (ae k cs j ds he ay)];exact aB.put_comm _ _ _ h
theorem vp{x:Operand}{d:Nat}{y:Oper}(h:d∉y.looksAt ops)(ab:x∈y.op.operands):x ≠ .tmp d:=fun e=>h (by
  subst e;exact rA _ (List.mem_filterMap.2 ⟨.tmp d,by simpa using ab,rfl⟩))
theorem fa.swap{b c:Bool}{e f:cE}(ok:s.bR)(he:fa P s.n s.look s.mem bA b e)(ay:fa P (e.on bA.dst s).n (e.on bA.dst s).look (e.on bA.dst s).mem bI c f)(tA:bA.apart ops bI=true)(oq:Ac s bA bI) :
    fa P s.n s.look s.mem bI c f∧fa P (f.on bI.dst s).n (f.on bI.dst s).look (f.on bI.dst s).mem bA b e∧f.on bI.dst (e.on bA.dst s)=e.on bA.dst (f.on bI.dst s):=by
  obtain⟨a1,a2,a3⟩:=Oper.apart_spec tA;have oA:∀x∈bI.op.operands,(e.on bA.dst s).look x=s.look x:=fun x ab=>cE.sG _ _ _ fun d hd=>vp (a1 d hd) ab;have cz:=cE.sH e bA.dst s
 
  have wW:∀k cs,e.m=some (k,cs)→(∃au,s.mem k=some au)∨s.mem k=none:=fun k cs _=>by
    cases h:s.mem k with
    | none=>exact .inr rfl
    | some c=>exact .inl ⟨c,rfl⟩
  have Ta:∀x k off,s.look x=some (.w (.one (.own k off)))→∃cs,s.mem k=some cs:=fun x k off ab=>by
    cases x with
    | tmp t=>exact ok.dw t _ k ab ⟨.own k off,by simp[bH.cells],rfl⟩
    | const v=>simp only[aB.look] at ab;split at ab <;> cases ab
    | global g=>cases ab
    | func g=>cases ab
 
  have Sm:∀x k off,addrOf bI=some x→nP bI≠0→s.look x=some (.w (.one (.own k off)))→(e.on bA.dst s).mem k=s.mem k:=by
    intro x k off Jz JZ ab;rw[cz];cases he with
    | skip=>rfl
    | quiet av aj=>rfl
    | fresh av aj=>rfl
    | load=>rfl
    | call=>rfl
    | store ty x' y' k' SZ cs z i aD kE ai hm hi hs aa =>
      rcases oq with oq|⟨a,b,q,p,aX,cL,jH,nx,cr⟩
      · exfalso
        have:nP bA=2:=by simp[nP,aD]
        simp[xh,this,JZ] at oq
      · simp only[addrOf,aD,jd] at aX
        subst aX;rw[kE] at jH;cases jH;rw[Jz] at cL;cases cL;rw[ab] at nx;cases nx;show upd s.mem k' _ k=s.mem k;exact bP _ _ (Ne.symm (Ic cr))
    | new cs d dT hm aA =>
      obtain⟨c,ak⟩:=Ta x k off ab;show upd s.mem d cs k=s.mem k;exact bP _ _ (fun e=>by subst e;rw[hm] at ak;cases ak)
  have vd:fa P s.n s.look s.mem bI c f:=by
    cases ay with
    | skip=>exact .skip
    | quiet av aj=>exact .quiet av (aj.congr fun x ab=>(oA x ab).symm)
    | fresh av aj=>exact .fresh av (aj.congr fun x ab=>(oA x ab).symm)
    | load ty x k off cs av aD ab hm hv =>
      have kE:s.look x=some (.w (.one (.own k off))):=by rw[←oA x (by simp[aD,Op.operands])];exact ab
      exact .load ty x k off cs av aD kE (by rw[←Sm x k off (by simp[addrOf,aD]) (by simp[nP,aD]) kE];exact hm) hv
    | store ty x y k off cs z i aD ab ai hm hi hs aa =>
      have kE:s.look x=some (.w (.one (.own k off))):=by rw[←oA x (by simp[aD,Op.operands])];exact ab
      exact .store ty x y k off cs z i aD kE (by rw[←oA y (by simp[aD,Op.operands])];exact ai) (by rw[←Sm x k off (by simp[addrOf,aD]) (by simp[nP,aD]) kE];exact hm) hi hs aa
    | new cs d dT hm aA =>
      refine .new cs d dT ?_ (aA.congr fun x ab=>(oA x ab).symm);rw[cz] at hm;cases ol:e.m with
      | none=>rw[ol] at hm;exact hm
      | some p =>
        obtain⟨k,c⟩:=p;rw[ol] at hm
        by_cases hq:d=k
        · subst hq
          change upd s.mem d c d=none at hm
          rw[bZ] at hm;cases hm
        · change upd s.mem k c d=none at hm
          rwa [bP _ _ hq] at hm
    | call g args r ak hp=>exact .call g args r (ak.congr fun x ab=>(oA x ab).symm) hp
  have mv:∀x∈bA.op.operands,(f.on bI.dst s).look x=s.look x:=fun x ab=>cE.sG _ _ _ fun d hd=>vp (a3 d hd) ab;have Sh:=cE.sH f bI.dst s
  have sj:fa P (f.on bI.dst s).n (f.on bI.dst s).look (f.on bI.dst s).mem bA b e:=by
    have Sk:∀x k off,addrOf bA=some x→nP bA≠0→s.look x=some (.w (.one (.own k off)))→(f.on bI.dst s).mem k=s.mem k:=by
      intro x k off Jz JZ ab;rw[Sh];cases vd with
      | skip=>rfl
      | quiet av aj=>rfl
      | fresh av aj=>rfl
      | load=>rfl
      | call=>rfl
      | store ty x' y' k' SZ cs z i aD kE ai hm hi hs aa =>
        rcases oq with oq|⟨a,b,q,p,aX,cL,jH,nx,cr⟩
        · exfalso
          have:nP bI=2:=by simp[nP,aD]
          simp[xh,this,JZ] at oq
        · simp only[addrOf,aD,jd] at cL
          subst cL;rw[kE] at nx;cases nx;rw[Jz] at aX;cases aX;rw[ab] at jH;cases jH;show upd s.mem k' _ k=s.mem k;exact bP _ _ (Ic cr)
      | new cs d dT hm aA =>
        obtain⟨c,ak⟩:=Ta x k off ab;show upd s.mem d cs k=s.mem k;exact bP _ _ (fun e=>by subst e;rw[hm] at ak;cases ak)
    cases he with
    | skip=>exact .skip
    | quiet av aj=>exact .quiet av (aj.congr fun x ab=>mv x ab)
    | fresh av aj=>exact .fresh av (aj.congr fun x ab=>mv x ab)
    | load ty x k off cs av aD ab hm hv=>exact .load ty x k off cs av aD (by rw[mv x (by simp[aD,Op.operands])];exact ab) (by rw[Sk x k off (by simp[addrOf,aD]) (by simp[nP,aD]) ab];exact hm) hv
    | store ty x y k off cs z i aD ab ai hm hi hs aa=>exact .store ty x y k off cs z i aD (by rw[mv x (by simp[aD,Op.operands])];exact ab) (by rw[mv y (by simp[aD,Op.operands])];exact ai) (by rw[Sk x k off (by simp[addrOf,aD]) (by simp[nP,aD]) ab];exact hm) hi hs aa
    | new cs d dT hm aA =>
      refine .new cs d dT ?_ (aA.congr fun x ab=>mv x ab);rw[Sh];cases vd with
      | skip=>exact hm
      | quiet av aj=>exact hm
      | fresh av aj=>exact hm
      | load=>exact hm
      | call=>exact hm
      | store ty x' y' k' SZ au z i aD kE ai eM hi hs aa =>
        show upd s.mem k' _ d=none;rw[bP _ _ (fun e=>by subst e;rw[hm] at eM;cases eM)];exact hm
      | new au d' acJ eM Bw =>
        show upd s.mem d' _ d=none;rw[bP _ _ (fun e=>a2 d dT (by rw[acJ,e]))];exact hm
    | call g args r ak hp=>exact .call g args r (ak.congr fun x ab=>mv x ab) hp
  refine⟨vd,sj,cE.Cs e f bA.dst bI.dst s a2 ?_⟩;intro k cs j ds h1 h2 aaB;subst aaB;cases he with
  | skip=>cases h1
  | quiet=>cases h1
  | fresh=>cases h1
  | load=>cases h1
  | call=>cases h1
  | store ty x y k' off au z i aD ab ai hm hi hs aa =>
    cases h1;cases vd with
    | skip=>cases h2
    | quiet=>cases h2
    | fresh=>cases h2
    | load=>cases h2
    | call=>cases h2
    | store alQ di mE cl ahe gg z2 i2 yM Kz =>
      cases h2;rcases oq with oq|⟨a,b,q,p,aX,cL,jH,nx,cr⟩
      · simp[xh,nP,aD,yM] at oq
      · simp only[addrOf,aD,yM,jd] at aX cL
        subst aX;subst cL;rw[ab] at jH;rw[Kz] at nx;cases jH;cases nx;exact Ic cr rfl
    | new gg d2 Qb oo J5=>cases h2;rw[oo] at hm;cases hm
  | new au d dT hm aA =>
    cases h1;cases vd with
    | skip=>cases h2
    | quiet=>cases h2
    | fresh=>cases h2
    | load=>cases h2
    | call=>cases h2
    | store alQ di mE cl ahe gg z2 i2 yM Kz KA oo=>cases h2;rw[oo] at hm;cases hm
    | new gg d2 Qb oo J5=>cases h2;exact a2 _ dT Qb
end
section
variable{P:Program}{B:cW}{A:Nat→Prop}{s s1 s2 s':aB}{ad:Nat→Nat}{a:Act}{w:World}{o bA bI:Oper}{ops:Array Oper}{md:Region.Mode}
theorem look_ok{x:Operand}{av:ag}{j:Nat}(ok:s.bR)(ab:s.look x=some av)(af:av.owns j):∃cs,s.mem j=some cs:=by
  have none:∀v,¬(ag.w (.one (.c v))).owns j:=fun v ⟨y,ai,h⟩=>by simp[bH.cells] at ai;subst ai;cases h
  cases x with
  | tmp t=>exact ok.dw t av j ab af
  | const v =>
    simp only[aB.look] at ab
    split at ab
    · cases ab;exact absurd af (none _)
    · cases ab
  | global g=>cases ab;exact absurd af (none _)
  | func g=>cases ab;exact absurd af (none _)
theorem aB.bR.put{dst:Option Nat}{av:ag}(ok:s.bR)(h:∀j,av.owns j→∃cs,s.mem j=some cs):(s.put dst av).bR:=by
  cases dst with
  | none=>exact ok
  | some d =>
    refine⟨fun t bv j aE af => ?_,ok.c5⟩;simp only[aB.put] at aE ⊢
    by_cases e:t=d
    · subst e;rw[bZ] at aE;cases aE;exact h j af
    · rw[bP _ _ e] at aE;exact ok.dw t bv j aE af
theorem aB.bR.eb{k:Nat}{cs:List AC}(ok:s.bR)(h:∀x∈cs,∀j,x.owns j→∃au,s.mem j=some au):(s.eb k cs).bR:=by
  have up:∀j,(∃c,s.mem j=some c)→∃c,(s.eb k cs).mem j=some c:=fun j ⟨c,ak⟩=>by
    by_cases e:j=k
    · exact⟨cs,by rw[e];exact bZ _ _ _⟩
    · exact⟨c,by simp only[aB.eb];rw[bP _ _ e];exact ak⟩
  refine⟨fun t bv j aE af=>up j (ok.dw t bv j aE af),fun k' c x j ae ab af=>up j ?_⟩;simp only[aB.eb] at ae
  by_cases e:k'=k
  · subst e;rw[bZ] at ae;cases ae;exact h x ab j af
  · rw[bP _ _ e] at ae;exact ok.c5 k' c x j ae ab af
theorem ajd{ty:TypeId}{cs:List AC}{off:Nat}{av:bH}(h:pick P ty cs off=some av):∀x∈av.cells,x∈cs:=by
  unfold pick at h
  split at h
  · cases hi:P.info? ty with
    | none=>rw[hi] at h;cases h
    | some i =>
      rw[hi] at h;simp only[k6] at h
      split at h
      · cases h;exact fun x ab=>oE (o5 ab)
      · cases h
  · cases hi:P.info? ty with
    | none=>rw[hi] at h;cases h
    | some i =>
      rw[hi] at h;simp only[k6] at h
      split at h
      · cases h;exact fun x ab=>oE (o5 ab)
      · cases h
  · cases ab:cs[off]? with
    | none=>rw[ab] at h;cases h
    | some y=>rw[ab] at h;cases h;intro x kE;simp[bH.cells] at kE;subst kE;exact cP ab
  · cases h
theorem mF.ok(h:mF P s o s')(ok:s.bR):s'.bR:=by
  cases h with
  | quiet av aj hd =>
    refine ok.put fun j af => ?_;obtain⟨x,ab,b,aa,acn⟩:=aj.own j af;exact look_ok ok aa acn
  | fresh av aj hd=>exact ok.put fun j af=>absurd af (aj.hb j)
  | load ty x k off cs av aD ab hm hv hd =>
    refine ok.put fun j af => ?_;obtain⟨y,ai,nM⟩:=af;exact ok.c5 k cs y j hm (ajd hv y ai) nM
  | store ty x y k off cs z i aD ab ai hm hi hs aa hd =>
    rw[aB.zj];refine aB.bR.put (ok.eb fun x ab j af => ?_) fun j af=>(by obtain⟨y,ai,_⟩:=af;cases ai);unfold eP at ab;simp only[kh] at ab;rcases ab with (h1|h1)|h1
    · exact ok.c5 k cs x j hm (o5 h1) af
    · exact look_ok ok ai ⟨x,h1,af⟩
    · exact ok.c5 k cs x j hm (oE h1) af
  | new cs d dT hm aA hd =>
    refine aB.bR.put (ok.eb fun x ab j af => ?_) fun j af => ?_
    · cases aA with
      | alloc ty i z cs aD hi aT ak h1=>subst ak;obtain⟨v,_,rfl⟩:=fV.1 ab;cases af
      | box ty y z aD ai=>exact look_ok ok ai ⟨x,ab,af⟩
    · obtain⟨y,ai,nM⟩:=af
      simp[bH.cells] at ai;subst ai;cases nM;exact⟨cs,bZ _ _ _⟩
  | call f args r ak hp hd=>exact ok.put fun j af=>absurd af (hp.cm j)
def tb(P:Program)(ops:Array Oper)(o:Oper)(K:aB→Prop)(s:aB):Prop :=
  ∃b,want ops o s=some b∧∃e,fa P s.n s.look s.mem o b e∧(∀d,o.dst=some d→d<s.n)∧K (e.on o.dst s)
def wq(P:Program)(md:Region.Mode)(ops:Array Oper)(K:aB→Prop):Nat→Array Bool→aB→Prop
  | 0,listed,s=>Region.ready md ops listed=[]∧K s
  | gh+1,listed,s=>(Region.ready md ops listed=[]→K s) ∧
    ∀i∈Region.ready md ops listed,∀o,ops[i]?=some o→tb P ops o (wq P md ops K gh (listed.setIfInBounds i true)) s
theorem MF{b:Bool}(h:want ops o s=some b)(an:Rel B A s ad a w):Region.wanted o (yielded ops a.tmps)=b:=by
  unfold want at h;unfold Region.wanted
  split at h
  · rename_i aw;rw[aw];cases h;rfl
  · rename_i g cx aw
    rw[aw]
    split at h
    · rename_i d hd
      split at h
      · rename_i x ab
        cases h;obtain⟨v,h1,h2⟩:=an.dw d _ ab;obtain⟨rfl,_⟩:=h2;simp[yielded,hd,h1]
      · rename_i xs ab
        cases h;obtain⟨v,h1,h2⟩:=an.dw d _ ab;obtain⟨vs,rfl,_⟩:=h2;simp[yielded,hd,h1]
      · cases h
    · cases h
theorem AQ{b:Bool}{e:cE}(ok:s.bR)(he:fa P s.n s.look s.mem o b e)(hd:∀d,o.dst=some d→d<s.n):(e.on o.dst s).bR:=by
  cases b with
  | true=>exact(he.step hd).ok ok
  | false=>cases he;exact ok.put fun j af=>(by obtain⟨y,ai,_⟩:=af;cases ai)
theorem DU{ro:Option Nat}{K:aB→Prop}{K':Act→World→Prop}{Q:Exit→Act→World→Prop}{i:Nat}(hi:ops[i]?=some o)(ok:s.bR)(an:Rel B A s ad a w)(h:tb P ops o K s)
    (fb:∀s' aU a' w',s'.bR→Rel B A s' aU a' w'→K s'→K' a' w'):wpOpIn (me ro) 0 P ops Q i K' a w:=by
  obtain⟨b,hw,e,he,hd,ae⟩:=h;have nL:=MF hw an;unfold wpOpIn;simp only[hi];cases b with
  | true =>
    rw[nL];simp only[if_true];have bX:=(he.step hd).ok ok;exact Oper.Wm (Oper.wp_mono (fun a' w' ⟨aU,ap⟩=>fb _ aU a' w' bX ap ae) (mF.sound (he.step hd) an ok)) ((he.step hd).SF an)
  | false =>
    rw[nL];simp only[Bool.false_eq_true,if_false];cases he;exact⟨fun _ _=>trivial,fb _ ad _ _ (ok.put fun j af=>(by obtain⟨y,ai,_⟩:=af;cases ai)) (an.put hd (cS.undef _)) ae⟩
theorem HY{ro:Option Nat}{K:aB→Prop}{Q:Exit→Act→World→Prop}(nC:∀s' aU a' w',s'.bR→Rel B A s' aU a' w'→K s'→Q .normal a' w'):∀(gh:Nat) (listed:Array Bool) (s:aB) (ad:Nat→Nat) (a:Act) (w:World),s.bR→Rel B A s ad a w →
    wq P md ops K gh listed s→wpAnyIn (me ro) 0 P md ops Q gh listed a w
  | 0,_,_,_,_,_,ok,an,h=>⟨h.1,nC _ _ _ _ ok an h.2⟩
  | gh+1,listed,s,ad,a,w,ok,an,h=>⟨fun aF=>nC _ _ _ _ ok an (h.1 aF),fun i hi=>by
      obtain⟨aF,o,aD,_⟩:=mem_ready.1 hi;exact DU aD ok an (h.2 i hi o aD) fun s' aU a' w' bX bw ae=>HY nC gh _ s' aU a' w' bX bw ae⟩
theorem zL{b:Option Bool}{e:cE}{dst:Option Nat}(al:∀d,dst=some d→d∉o.looksAt ops):want ops o (e.on dst s)=want ops o s:=by
  have aE:∀d,(∀d',dst=some d'→d≠d')→(e.on dst s).tmps d=s.tmps d:=fun d h=>by
    have:=cE.sG e dst s (x := .tmp d) (fun d' tB e'=>h d' tB (by cases e';rfl));exact this
  unfold want;cases aw:o.guard with
  | none=>rfl
  | some p =>
    obtain⟨g,cx⟩:=p;simp only;cases hd:(ops[g]?).bind (·.dst) with
    | none=>rfl
    | some d =>
      simp only
      rw[aE d (fun d' tB e'=>al d' tB (by
        subst e';unfold Oper.looksAt;rw[aw];exact vD _ (by simp[hd])))]
theorem X2{b:Bool}{e:cE}{K:aB→Prop}(ok:s.bR)(hw:want ops bA s=some b)(he:fa P s.n s.look s.mem bA b e)(vc:∀d,bA.dst=some d→d<s.n)(tA:bA.apart ops bI=true)(oq:Ac s bA bI)(h:tb P ops bI K (e.on bA.dst s)) :
    tb P ops bI (fun t=>(want ops bA t=some b∧fa P t.n t.look t.mem bA b e∧(∀d,bA.dst=some d→d<t.n)∧t.bR)∧K (e.on bA.dst t)) s:=by
  obtain⟨a1,a2,a3⟩:=Oper.apart_spec tA;obtain⟨c,tK,f,ay,si,ae⟩:=h;obtain⟨h1,h2,ar⟩:=fa.swap ok he ay tA oq;rw[zL (b:=none) a1] at tK;have wQ:∀d,bI.dst=some d→d<s.n:=fun d hd=>by have:=si d hd;rwa [cE.vy] at this
  refine⟨c,tK,f,h1,wQ,⟨?_,h2,fun d hd=>by rw[cE.vy];exact vc d hd,AQ ok h1 wQ⟩,by rw[←ar];exact ae⟩;rw[zL (b:=none) a3];exact hw
theorem Nw{K K':aB→Prop}(h:∀s,K s→K' s)(ba:tb P ops o K s):tb P ops o K' s :=
  let ⟨b,h1,e,h2,ar,aJ⟩:=ba
  ⟨b,h1,e,h2,ar,h _ aJ⟩
def qV(ops:Array Oper)(listed:Array Bool)(x y:Oper)(s:aB):Prop :=
  xh x y=true∨∃t u o p,addrOf x=some (.tmp t)∧addrOf y=some (.tmp u)∧s.tmps t=some o∧s.tmps u=some p∧Ay o p=true ∧
    ∀i bA,ops[i]?=some bA→listed.getD i true=false→bA.dst≠some t∧bA.dst≠some u
theorem qV.sep{listed:Array Bool}(h:qV ops listed bA bI s):Ac s bA bI:=by
  rcases h with h|⟨t,u,o,p,h1,h2,ar,aJ,bO,_⟩
  · exact .inl h
  · exact .inr ⟨_,_,o,p,h1,h2,ar,aJ,bO⟩
theorem cE.ze{e:cE}{dst:Option Nat}{t:Nat}(h:dst≠some t):(e.on dst s).tmps t=s.tmps t:=by
  have:=cE.sG e dst s (x := .tmp t) (fun d hd e'=>by cases e';exact h hd);exact this
theorem qV.on{listed:Array Bool}{f:cE}{o:Oper}{i:Nat}(h:qV ops listed bA bI s)(aD:ops[i]?=some o)(il:listed.getD i true=false):qV ops (listed.setIfInBounds i true) bA bI (f.on o.dst s):=by
  rcases h with h|⟨t,u,q,p,h1,h2,ar,aJ,bO,fl⟩
  · exact .inl h
  · obtain⟨fq,gI⟩:=fl i o aD il
    refine .inr ⟨t,u,q,p,h1,h2,by rw[cE.ze fq];exact ar,by rw[cE.ze gI];exact aJ,bO,fun fc fT ij vn=>fl fc fT ij ?_⟩
    by_cases e:i=fc
    · subst e;exact il
    · rwa [getD_set_ne true e] at vn
theorem X3{b:Bool}{e:cE}{K:aB→Prop}(ok:s.bR)(hw:want ops bA s=some b)(he:fa P s.n s.look s.mem bA b e)(vc:∀d,bA.dst=some d→d<s.n)(tA:bA.apart ops bI=true)(oq:Ac s bA bI)(h:tb P ops bI K (e.on bA.dst s)) :
    tb P ops bI (fun t=>(∃f:cE,t=f.on bI.dst s)∧(want ops bA t=some b∧fa P t.n t.look t.mem bA b e∧(∀d,bA.dst=some d→d<t.n)∧t.bR)∧K (e.on bA.dst t)) s:=by
  obtain⟨c,h1,f,h2,ar,aJ⟩:=X2 ok hw he vc tA oq h;exact⟨c,h1,f,h2,ar,⟨f,rfl⟩,aJ⟩
def waits(md:Region.Mode)(ops:Array Oper):Nat→Nat→Nat→Bool
  | 0,_,_=>false
  | f+1,j,i=>match ops[j]? with
    | some o=>o.after.any fun e=>Region.binds md e&&(e.on==i||waits md ops f e.on i)
    | none=>false
def Down(md:Region.Mode)(ops:Array Oper)(listed:Array Bool):Prop:=∀k o,listed.getD k false=true→ops[k]?=some o→∀e∈o.after,Region.binds md e=true→listed.getD e.on false=true
theorem zK{listed:Array Bool}(hd:Down md ops listed):∀(f j i:Nat) (o:Oper),ops[j]?=some o→(∀e∈o.after,Region.binds md e=true→listed.getD e.on false=true)→waits md ops f j i=true→listed.getD i false=true
  | 0,_,_,_,_,_,h=>by cases h
  | f+1,j,i,o,aD,dN,h=>by
    simp only[waits,aD] at h;obtain⟨e,he,aa⟩:=Array.any_eq_true'.1 h;simp only[ef,pF,beq_iff_eq] at aa;obtain⟨h1,h2⟩:=aa;have al:=dN e he h1;rcases h2 with h2|h2
    · rw[←h2];exact al
    · cases ij:ops[e.on]? with
      | none=>cases f <;> simp[waits,ij] at h2
      | some fT=>exact zK hd f e.on i fT ij (fun e' sj cL=>hd e.on fT al ij e' sj cL) h2
theorem Down.set{listed:Array Bool}(hd:Down md ops listed){j:Nat}(af:j∈Region.ready md ops listed):Down md ops (listed.setIfInBounds j true):=by
  intro k o ae aD e he aa;obtain⟨_,bI,js,dN⟩:=mem_ready.1 af
  by_cases e':j=k
  · subst e'
    rw[js] at aD;cases aD;exact getD_set_true (dN e he aa)
  · refine getD_set_true (hd k o ?_ aD e he aa)
    have:(listed.setIfInBounds j true).getD k false=listed.getD k false:=by simp[CE e']
    rwa [this] at ae
theorem X1{K:aB→Prop}{i:Nat}{b:Bool}{e:cE}(hi:ops[i]?=some bA):∀(gh:Nat) (listed:Array Bool) (s:aB),
      (∀j bI,ops[j]?=some bI→j≠i→listed.getD j true=false→(∀e∈bI.after,Region.binds md e=true→e.on≠i)→waits md ops 4 j i=false→bA.apart ops bI=true∧qV ops listed bA bI s) →
      Down md ops listed→i∈Region.ready md ops listed→s.bR→want ops bA s=some b→fa P s.n s.look s.mem bA b e→(∀d,bA.dst=some d→d<s.n) →
      wq P md ops K gh (listed.setIfInBounds i true) (e.on bA.dst s)→wq P md ops K (gh+1) listed s:=by
  intro gh
  induction gh with
  | zero =>
    intro listed s _ eu ap ok hw he hd H;refine⟨fun h=>(by rw[h] at ap;cases ap),fun j af bI js => ?_⟩
    by_cases hf:j=i
    · subst hf;rw[hi] at js;cases js;exact⟨b,hw,e,he,hd,H⟩
    · have:=ready_mono af hf
      rw[H.1] at this;cases this
  | succ gh cg =>
    intro listed s ie eu ap ok hw he hd H;refine⟨fun h=>(by rw[h] at ap;cases ap),fun j af bI js => ?_⟩
    by_cases hf:j=i
    · subst hf;rw[hi] at js;cases js;exact⟨b,hw,e,he,hd,H⟩
    · have h1:=H.2 j (ready_mono af hf) bI js
      obtain⟨wV,ahf,BC,dN⟩:=mem_ready.1 af;rw[js] at BC;cases BC
      have tF:∀e∈bI.after,Region.binds md e=true→e.on≠i:=fun e he aa gy=>by
        have h1:=dN e he aa;have aF:=(mem_ready.1 ap).1;rw[gy] at h1;rcases iv i listed.size with aK|aK
        · simp[aK] at aF h1;rw[aF] at h1;cases h1
        · simp[zl aK] at h1
      have mq:waits md ops 4 j i=false:=by
        cases tK:waits md ops 4 j i with
        | false=>rfl
        | true =>
          have h1:=zK eu 4 j i bI js dN tK;have aF:=(mem_ready.1 ap).1;rcases iv i listed.size with aK|aK
          · simp[aK] at aF h1;rw[aF] at h1;cases h1
          · simp[zl aK] at h1
      obtain⟨g1,g2⟩:=ie j bI js hf wV tF mq;have h2:=X3 ok hw he hd g1 g2.sep h1;refine Nw (fun t ar => ?_) h2;obtain⟨⟨f,rfl⟩,ar⟩:=ar
      have JN:∀k ok,ops[k]?=some ok→k≠i→(listed.setIfInBounds j true).getD k true=false →
          (∀e∈ok.after,Region.binds md e=true→e.on≠i)→waits md ops 4 k i=false→bA.apart ops ok=true∧qV ops (listed.setIfInBounds j true) bA ok (f.on bI.dst s):=fun k ok ae lZ il lB Ky=>by
        have vn:listed.getD k true=false:=by
          by_cases kA:j=k
          · subst kA;exact wV
          · rwa [getD_set_ne true kA] at il
        obtain⟨q1,q2⟩:=ie k ok ae lZ vn lB Ky;exact⟨q1,q2.on js wV⟩
      refine cg (listed.setIfInBounds j true) _ JN (eu.set af) (ready_mono ap (Ne.symm hf)) ar.1.2.2.2 ar.1.1 ar.1.2.1 ar.1.2.2.1 ?_;rw[Array.setIfInBounds_comm _ _ hf];exact ar.2
def bk(P:Program)(ops:Array Oper)(K:aB→Prop):List Oper→aB→Prop
  | [],s=>K s
  | o::rest,s=>tb P ops o (bk P ops K rest) s
def Ly(x y:Oper):Option (Nat×Nat) :=
  match addrOf x,addrOf y with
  | some (.tmp t),some (.tmp u)=>some (t,u)
  | _,_=>none
def qu(ops:Array Oper)(listed:Array Bool)(t:Nat):Bool:=(List.range ops.size).all fun j=>listed.getD j true||match ops[j]? with
  | some o=>o.dst != some t
  | none=>true
def nY(s:aB)(p:Nat×Nat):Bool :=
  match s.tmps p.1,s.tmps p.2 with
  | some x,some y=>Ay x y
  | _,_=>false
def F5(md:Region.Mode)(ops:Array Oper)(prs:List (Nat×Nat))(listed:Array Bool)(i:Nat):Bool :=
  match ops[i]? with
  | none=>false
  | some bA=>(List.range ops.size).all fun j=>j==i||listed.getD j true||match ops[j]? with
      | some bI=>xh bA bI||waits md ops 4 j i||match Ly bA bI with
        | some (t,u)=>prs.contains (t,u)&&qu ops listed t&&qu ops listed u
        | none=>false
      | none=>true
theorem Gf{listed:Array Bool}{t:Nat}(h:qu ops listed t=true)(j:Nat)(o:Oper)(aD:ops[j]?=some o)(il:listed.getD j true=false):o.dst≠some t:=by
  unfold qu at h;simp only[b4,nW] at h;have:=h j (iN.1 aD).1;simp only[aD,il,Bool.false_or,bne_iff_ne,ne_eq] at this;exact this
theorem Si{i:Nat}{prs:List (Nat×Nat)}{listed:Array Bool}(hi:ops[i]?=some bA)(h:F5 md ops prs listed i=true)(hs:∀p∈prs,qu ops listed p.1=true→qu ops listed p.2=true→nY s p=true)(j:Nat)(bI:Oper)
    (af:ops[j]?=some bI) (cr:j≠i) (il:listed.getD j true=false) (lB:waits md ops 4 j i=false):qV ops listed bA bI s:=by
  simp only[F5,hi,b4,nW] at h;have h1:=h j (iN.1 af).1;simp only[af,pF,beq_iff_eq,cr,false_or,il,Bool.false_eq_true] at h1;rcases h1 with (h1|h1)|h1
  · exact .inl h1
  · rw[lB] at h1;cases h1
  · split at h1
    · rename_i t u hp
      simp only[ef] at h1;obtain⟨⟨c1,c2⟩,jm⟩:=h1;have nK:=hs (t,u) (by simpa using c1) c2 jm;unfold Ly at hp
      split at hp
      · rename_i l6 rK aI aO
        cases hp;unfold nY at nK
        split at nK
        · rename_i o fL q1 q2
          exact .inr ⟨t,u,o,fL,aI,aO,q1,q2,nK,fun fc fT ij vn=>⟨Gf c2 fc fT ij vn,Gf jm fc fT ij vn⟩⟩
        · cases nK
      · cases hp
    · cases h1
def xe(md:Region.Mode)(ops:Array Oper)(prs:List (Nat×Nat)):List Nat→Array Bool→Bool
  | [],listed=>(Region.ready md ops listed).isEmpty
  | k::ord,listed=>(Region.ready md ops listed).contains k&&Region.free md ops listed k&&F5 md ops prs listed k&&xe md ops prs ord (listed.setIfInBounds k true)
def getAll(l:List Oper):List Nat→Option (List Oper)
  | []=>some []
  | i::ord=>match l[i]?,getAll l ord with
    | some o,some r=>some (o::r)
    | _,_=>none
theorem EU{l:List Oper}:∀(ord:List Nat) (r:List Oper),getAll l ord=some r→r.length=ord.length∧∀(j:Nat),r[j]?=(ord[j]?).bind (l[·]?)
  | [],r,h=>by cases h;exact⟨rfl,fun j=>by simp⟩
  | i::ord,r,h=>by
    simp only[getAll] at h
    split at h
    · rename_i o bg aD ap
      cases h;obtain⟨h1,h2⟩:=EU ord bg ap;refine⟨by simp[h1],fun j => ?_⟩;cases j with
      | zero=>simp[aD]
      | succ j=>simpa using h2 j
    · cases h
theorem Nu{K:aB→Prop}:∀(l:List Oper) (s:aB),bk P ops K l s→∃s',K s'∧∀t,(∀o∈l,o.dst≠some t)→s'.tmps t=s.tmps t
  | [],s,h=>⟨s,h,fun _ _=>rfl⟩
  | o::l,s,⟨b,hw,e,he,hd,fb⟩=>by
    obtain⟨s',h1,h2⟩:=Nu l _ fb;exact⟨s',h1,fun t aE=>(h2 t fun fT ij=>aE fT (by simp[ij])).trans (cE.ze (aE o (by simp)))⟩
theorem DS{K:aB→Prop}{prs:List (Nat×Nat)}:∀(ord:List Nat) (l:List Oper) (listed:Array Bool) (s:aB),l.length=ord.length→(∀(j:Nat),l[j]?=(ord[j]?).bind (ops[·]?))→(∀k∈ord,listed.getD k true=false)→(∀k,k<ops.size→listed.getD k true=false→k∈ord)→ord.Nodup→Down md ops listed→s.bR →
    xe md ops prs ord listed=true→bk P ops (fun s=>prs.all (nY s)=true∧K s) l s→wq P md ops K l.length listed s
  | [],[],_,_,_,_,_,_,_,_,_,cZ,h=>⟨by simpa [xe] using cZ,h.2⟩
  | [],_::_,_,_,hlen,_,_,_,_,_,_,_,_=>by cases hlen
  | _::_,[],_,_,hlen,_,_,_,_,_,_,_,_=>by cases hlen
  | k::ord,o::l,listed,s,hlen,al,il,JL,ih,eu,ok,cZ,h=>by
    have aF:ops[k]?=some o:=by simpa using (al 0).symm
    have nG:=Nu _ _ h;simp only[xe,ef] at cZ;obtain⟨⟨⟨ap,ay⟩,hm⟩,Jn⟩:=cZ;obtain⟨b,hw,e,he,hd,fb⟩:=h
    have hs:∀p∈prs,qu ops listed p.1=true→qu ops listed p.2=true→nY s p=true:=fun p hp fq gI=>by
      obtain⟨s',⟨h1,_⟩,h2⟩:=nG
      have gT:∀t,qu ops listed t=true→∀fT∈o::l,fT.dst≠some t:=fun t aE fT ij=>by
        obtain⟨j,af⟩:=kJ ij;rw[al j] at af;cases aj:(k::ord)[j]? with
        | none=>rw[aj] at af;cases af
        | some q=>rw[aj] at af;exact Gf aE q fT af (il _ (cP aj))
      have:=b4.1 h1 p hp;unfold nY at this ⊢;rw[h2 p.1 (gT _ fq),h2 p.2 (gT _ gI)] at this;exact this
    rw[List.nodup_cons] at ih;have cr:∀q∈ord,k≠q:=fun q aj e=>ih.1 (by rw[e];exact aj);refine X1 aF l.length listed s (fun j bI h1 h2 ar aJ bO=>⟨Region.free_spec aF ay j bI h1 h2 ar aJ,Si aF hm hs j bI h1 h2 ar bO⟩) eu (by simpa using ap) ok hw he hd ?_;refine DS ord l _ _ (by simpa using hlen) (fun j=>by simpa using al (j+1)) (fun q aj=>by rw[getD_set_ne true (cr q aj)];exact il q (by simp[aj])) (fun q aj wY => ?_) ih.2 (eu.set (by simpa using ap)) (AQ ok he hd) Jn fb
    by_cases e':k=q
    · subst e'
      have:k<listed.size:=by
        have:=il k (by simp);rcases iv k listed.size with aK|aK
        · exact aK
        · simp[zl aK] at this
      simp[this] at wY
    · rw[getD_set_ne true e'] at wY
      rcases fg.1 (JL q aj wY) with aK|aK
      · exact absurd aK.symm e'
      · exact aK
def xl(ops:Array Oper)(ord:List Nat):List (Nat×Nat) :=
  match ord with
  | []=>[]
  | i::rest=>(match ops[i]? with
    | some bA=>bif nP bA != 0 then rest.filterMap fun j=>match ops[j]? with
        | some bI=>bif xh bA bI||waits .any ops 4 j i then none else Ly bA bI
        | none=>none
      else []
    | none=>[])++xl ops rest
def early(o:Oper):Bool:=(match o.op with | .alloc _=>true|_=>false)&&o.after.isEmpty&&o.guard.isNone
def mx(l:List Oper):List Nat:=((List.range l.length).filter fun i=>match l[i]? with|some o=>early o|none=>false)++(List.range l.length).filter fun i=>match l[i]? with|some o => !early o|none=>false
def fF(P:Program)(c:Code)(Q:Exit→aB→Prop)(s:aB):Prop :=
  s.bR→∀B A ad a w,Rel B A s ad a w→lh P c (fun e a' w'=>∃s' aU,s'.bR∧Rel B A s' aU a' w'∧Q e s') a w
def y7:List Nat→Bool
  | []=>true
  | x::xs => !xs.contains x&&y7 xs
theorem Ga:∀(l:List Nat),y7 l=true→l.Nodup
  | [],_=>List.nodup_nil
  | x::xs,h=>by
    simp only[y7,ef,ub,List.contains_eq_mem,kK] at h;exact List.nodup_cons.2 ⟨h.1,Ga xs h.2⟩
def OR(l:List Oper):Bool:=Nat.beq (mx l).length l.length&&y7 (mx l)&&(List.range l.length).all (fun i=>(mx l).contains i)&&(mx l).all (fun i=>Nat.blt i l.length)&&xe .any l.toArray (xl l.toArray (mx l)) (mx l) (Array.replicate l.length false)
theorem N4{id:Nat}{l hy:List Oper}{Q:Exit→aB→Prop}(hm:P.follows .mixedOrders=true)(cZ:OR l=true)(al:getAll l (mx l)=some hy)
    (h:bk P l.toArray (fun s=>(xl l.toArray (mx l)).all (nY s)=true∧Q .normal s) hy s):fF P (.region id l.toArray true) Q s:=by
  intro ok B A ad a w an;refine Wc hm fun ro => ?_;unfold OR at cZ;simp only[ef,b4,nW,List.contains_eq_mem,cV] at cZ;obtain⟨⟨⟨⟨iV,b1⟩,b2⟩,dM⟩,de⟩:=cZ;obtain⟨g1,g2⟩:=EU _ _ al;have hd:Rel B A s ad a {w with drawn:=w.drawn+1}:=an.call ((Below.refl _ w).drew);refine HY (K:=Q .normal) (fun s' aU a' w' bX bw ae=>⟨s',aU,bX,bw,ae⟩) _ _ s ad a _ ok hd ?_;have nd:=Ga _ b1;have hlen:(mx l).length=l.length:=gp iV;have:=DS (md := .any) (ops:=l.toArray) (mx l) hy (Array.replicate l.length false) s g1 (by simpa using g2) (fun q aj=>by have:=dM q aj;simp[k7] at this;simp[this]) (fun q aj _=>b2 q (by simpa using aj)) nd (fun k o ae=>by exfalso;rcases iv k l.length with q|q <;> simp[Array.getElem?_replicate,q] at ae) ok de h;rw[g1,hlen] at this;simpa using this
theorem Nv{ro:Option Nat}{K:aB→Prop}{Q:Exit→Act→World→Prop}(nC:∀s' aU a' w',s'.bR→Rel B A s' aU a' w'→K s'→Q .normal a' w'):∀(l:List Oper) (k:Nat) (s:aB) (ad:Nat→Nat) (a:Act) (w:World),(∀(j:Nat),l[j]?=ops[k+j]?)→s.bR→Rel B A s ad a w →
    bk P ops K l s→wpOpsIn (me ro) 0 P ops Q ((List.range l.length).map (k + ·)) a w
  | [],_,_,_,_,_,_,ok,an,h=>nC _ _ _ _ ok an h
  | o::l,k,s,ad,a,w,al,ok,an,h=>by
    have aF:ops[k]?=some o:=by simpa using (al 0).symm
    have e:(List.range (o::l).length).map (k + ·)=k::(List.range l.length).map (k+1 + ·):=by
      rw[hX,List.range_succ_eq_map,hY,List.map_map];congr 1;apply nV;intro j _;simp[oF,oG 1 j]
    rw[e,wpOpsIn_cons];refine DU aF ok an h fun s' aU a' w' bX bw ae=>Nv nC l (k+1) s' aU a' w' (fun j=>by have:=al (j+1);simpa [oF,oG 1 j] using this) bX bw ae
theorem Ih{id:Nat}{l:List Oper}{Q:Exit→aB→Prop}(h:bk P l.toArray (Q .normal) l s):fF P (.region id l.toArray false) Q s:=by
  intro ok B A ad a w an;refine Wb fun ro => ?_;have:=Nv (ro:=ro) (ops:=l.toArray) (K:=Q .normal) (Q:=fun e a' w'=>∃s' aU,s'.bR∧Rel B A s' aU a' w'∧Q e s') (fun s' aU a' w' bX bw ae=>⟨s',aU,bX,bw,ae⟩) l 0 s ad a w (by simp) ok an h;simpa using this
end
section
variable{P:Program}{B:cW}{A:Nat→Prop}{s s1 s2 s':aB}{ad:Nat→Nat}{a:Act}{w:World}{Q:Exit→aB→Prop}{x y:Code}
def td(next:aB→Prop)(Q:Exit→aB→Prop):Exit→aB→Prop
  | .normal,s=>next s
  | e,s=>Q e s
theorem N5(h:fF P x (td (fun s'=>fF P y Q s') Q) s):fF P (.seq x y) Q s:=by
  intro ok B A ad a w an;refine We (rO (h ok B A ad a w an) ?_);rintro e a' w' ⟨s',aU,bX,bw,aj⟩;cases e <;> first|exact aj bX B A aU a' w' bw|exact⟨s',aU,bX,bw,aj⟩
theorem Ij(h:Q .normal s):fF P .skip Q s:=fun ok B A ad a w an=>Wf ⟨s,ad,ok,an,h⟩
theorem N2{id:Nat}(h:Q (.exit id) s):fF P (.exit id) Q s:=fun ok B A ad a w an=>V9 ⟨s,ad,ok,an,h⟩
theorem Ii(h:Q .ret s):fF P .ret Q s:=fun ok B A ad a w an=>Wd ⟨s,ad,ok,an,h⟩
theorem NX{c:Operand}{t:Bool}(ak:s.look c=some (.w (.one (.c (.bool t)))))(h1:t=true→fF P x Q s)(aF:t=false→fF P y Q s):fF P (.cond c x y) Q s:=by
  intro ok B A ad a w an;have hv:a.eval c = .bool t:=(an.look ak).1;refine V8 hv ?_;cases t with
  | true=>exact h1 rfl ok B A ad a w an
  | false=>exact aF rfl ok B A ad a w an
theorem N1{c:Operand}(ak:s.look c=some (.w (.one (.c (.bool true)))))(h1:fF P x Q s):fF P (.cond c x y) Q s:=NX ak (fun _=>h1) (fun e=>by cases e)
theorem N0{c:Operand}(ak:s.look c=some (.w (.one (.c (.bool false)))))(aF:fF P y Q s):fF P (.cond c x y) Q s:=NX ak (fun e=>by cases e) (fun _=>aF)
def yb(id:Nat)(Q:Exit→aB→Prop):Exit→aB→Prop
  | .exit iL,s=>bif Nat.beq iL id then Q .normal s else Q (.exit iL) s
  | e,s=>Q e s
theorem Zh{id:Nat}(h:fF P x (yb id Q) s):fF P (.block id x) Q s:=by
  intro ok B A ad a w an;refine V7 (rO (h ok B A ad a w an) ?_);rintro e a' w' ⟨s',aU,bX,bw,aj⟩;cases e with
  | exit iL =>
    simp only[Exit.inBlock];simp only[yb] at aj;cases aa:Nat.beq iL id with
    | true=>rw[aa] at aj;rw[if_pos (gp aa)];exact⟨s',aU,bX,bw,aj⟩
    | false =>
      rw[aa] at aj;have:iL≠id:=fun e=>by subst e;rw[qD] at aa;cases aa
      rw[if_neg this];exact⟨s',aU,bX,bw,aj⟩
  | _=>exact⟨s',aU,bX,bw,aj⟩
structure aB.aW (s s':aB):Prop where
  n:s'.n=s.n
  dw:∀t av,s'.tmps t=some av→s.tmps t=some av
  c5:∀k cs,s'.mem k=some cs→s.mem k=some cs
theorem Rel.le(h:Rel B A s ad a w)(l:s.aW s'):Rel B A s' ad a w:=by
  have ay:∀b,s.free A ad b→b<w.heap.size→s'.free A ad b∧w.heap[b]?=w.heap[b]?:=fun b aa _=>⟨⟨aa.1,fun k cs ae=>aa.2 k cs (l.c5 k cs ae)⟩,rfl⟩;refine⟨h.kG,by rw[l.n];exact h.size,fun t av aE => ?_,fun k cs ae => ?_,fun k k' c c' ae eD e=>h.inj k k' c c' (l.c5 _ _ ae) (l.c5 _ _ eD) e,h.below,h.up,fun k b ae=>by rw[l.n];exact h.fQ k b ae⟩
  · obtain⟨v,h1,h2⟩:=h.dw t av (l.dw t av aE)
    exact⟨v,h1,h2.map ay fun _ _=>rfl⟩
  · obtain⟨vs,ty,h1,h2,ar⟩:=h.c5 k cs (l.c5 k cs ae)
    exact⟨vs,ty,h1,h2.map ay fun _ _ _ _=>rfl,ar⟩
theorem Wa{c:Code}{Q:Exit→Act→World→Prop}(I:Nat→Act→World→Prop){n:Nat}(h₀:I n a w)
    (round:∀n a w,I n a w→lh P c (Exit.then (fun a' w'=>∃m,m<n∧I m a' w') Q) a w):lh P (Code.loop c) Q a w:=by
  intro ro b k cs hg aa ju
  have key:∀n a w,I n a w →
      ∃e a' w',Q e a' w'∧ArrivesIn (Machine.fenced P (me ro)) P (lone (b.atR a (.code c :: .inLoop c::k)) cs w) b k cs e a' w':=by
    intro n
    induction n using Nat.strongRecOn with
    | _ n cg =>
      intro a w a7;obtain⟨e,pi,pS,aj,mU⟩:=round n a w a7 ro b (.inLoop c::k) cs hg aa ju;cases e with
      | normal =>
        obtain⟨m,bc,Jr⟩:=aj;obtain⟨I0,Ik,MI,Kl,JB⟩:=cg m bc pi pS Jr;exact⟨I0,Ik,MI,Kl,.of_steps (StepsIn.trans mU (.one (fenced_calm aa ju rfl) stepR_inLoop)) JB⟩
      | exit id=>exact⟨_,pi,pS,aj,.pass (x := .inLoop c) rfl (fun _ _ => .inl (by simp)) mU⟩
      | goto l=>exact⟨_,pi,pS,aj,.pass (x := .inLoop c) rfl (fun _ _ => .inl (by simp)) mU⟩
      | ret=>exact⟨_,pi,pS,aj,.pass (x := .inLoop c) rfl (fun _ _ => .inl (by simp)) mU⟩
      | panic ch=>exact⟨_,pi,pS,aj,.pass (x := .inLoop c) rfl (fun _ _ => .inl (by simp)) mU⟩
      | outgrown=>exact⟨_,pi,pS,aj,.pass (x := .inLoop c) rfl (fun _ _ => .inl (by simp)) mU⟩
  obtain⟨e,a',w',aj,mU⟩:=key _ a w h₀;exact⟨e,a',w',aj,.of_steps (.one (fenced_calm aa ju rfl) stepR_loop) mU⟩
theorem N3(I:Nat→aB→Prop)(n:Nat)(eg:aB)(ms:s.aW eg)(ahg:eg.bR)(aF:I n eg)
    (round:∀n s,I n s→fF P x (td (fun s'=>∃m,m<n∧∃CV,s'.aW CV∧CV.bR∧I m CV) Q) s):fF P (.loop x) Q s:=by
  intro ok B A ad a w an;refine Wa (fun n a w=>∃s ad,s.bR∧Rel B A s ad a w∧I n s) ⟨eg,ad,ahg,an.le ms,aF⟩ ?_;rintro n a w ⟨s,ad,ok,an,a7⟩;refine rO (round n s a7 ok B A ad a w an) ?_;rintro e a' w' ⟨s',aU,bX,bw,aj⟩;cases e with
  | normal =>
    obtain⟨m,hm,CV,al,xp,bW⟩:=aj;exact⟨m,hm,CV,aU,xp,bw.le al,bW⟩
  | _=>exact⟨s',aU,bX,bw,aj⟩
def ag.aW(x y:ag):Prop:=∀U ad W v,cS U ad W x v→cS U ad W y v
theorem ag.aW.refl(x:ag):x.aW x:=fun _ _ _ _ h=>h
theorem ag.aW.of_eq{x y:ag}(h:x=y):x.aW y:=by subst h;exact .refl x
def gV(P:Program)(s:aB):ResultVar→Option bH
  | .tmp t=>match s.tmps t with
    | some (.w x)=>some x
    | _=>none
  | .cell a ty=>match s.tmps a with
    | some (.w (.one (.own k off)))=>(s.mem k).bind (pick P ty · off)
    | _=>none
def packed:List bH→ag
  | [x] => .w x
  | xs => .cj xs
def wx(P:Program)(fn:Func)(r:ag):Exit→aB→Prop
  | .normal,s | .ret,s=>∃xs,fn.results.toList.map (gV P s)=xs.map some∧(packed xs).aW r
  | _,_=>False
theorem U5{α:Type}{f:α→Sem Value}:∀(l:List α) (vs:List Value),l.length=vs.length→(∀(i:Nat) x v,l[i]?=some x→vs[i]?=some v→(f x).run P w = .ok v w)→(l.mapM f).run P w = .ok vs w
  | [],[],_,_=>rfl
  | [],_::_,h,_=>by cases h
  | _::_,[],h,_=>by cases h
  | x::l,v::vs,al,h=>by
    have aF:=h 0 x v rfl rfl;have cg:=U5 l vs (by simpa using al) (fun i x v ab hv=>h (i+1) x v (by simpa using ab) (by simpa using hv));rw[List.mapM_cons];simp only[Sem.run_bind,aF,Result.andThen_ok,cg];rfl
def CH(a:Act):ResultVar→Sem Value
  | .tmp t=>pure (a.tmps.getD t undef)
  | .cell b t=>do loadVar t (←asAddr (a.tmps.getD b undef))
theorem ajF(fn:Func)(a:Act):results fn a.tmps=(do let vs ←fn.results.mapM (CH a);pure (if h:vs.size=1 then vs[0] else .tuple vs)):=rfl
theorem ajE{v:ResultVar}{z:bH}(an:Rel B A s ad a w)(h:gV P s v=some z):∃u,(CH a v).run P w = .ok u w∧gZ (s.free A ad) ad w z u:=by
  cases v with
  | tmp t =>
    simp only[gV] at h
    split at h
    · rename_i x ab
      cases h;obtain⟨v,h1,h2⟩:=an.dw t _ ab;refine⟨v,?_,h2⟩;simp[CH,Array.getD_eq_getD_getElem?,h1]
    · cases h
  | cell b ty =>
    simp only[gV] at h
    split at h
    · rename_i k off ab
      cases hm:s.mem k with
      | none=>rw[hm] at h;cases h
      | some cs =>
        rw[hm] at h;obtain⟨vs,t,g1,g2,g3⟩:=an.c5 k cs hm;obtain⟨u,h1,h2⟩:=TO h g1 g2;obtain⟨p,q1,q2⟩:=an.dw b _ ab;cases q2;refine⟨u,?_,h2⟩;simp only[CH,Array.getD_eq_getD_getElem?,q1,Option.getD_some,asAddr,Sem.run_bind,Sem.run_pure,Result.andThen_ok,h1]
    · cases h
theorem CJ{fn:Func}{xs:List bH}(an:Rel B A s ad a w)(h:fn.results.toList.map (gV P s)=xs.map some):∃v,(results fn a.tmps).run P w = .ok v w∧cS (s.free A ad) ad w (packed xs) v:=by
  have key:∀(l:List ResultVar) (xs:List bH),l.map (gV P s)=xs.map some→∃vs:List Value,vs.length=xs.length∧l.length=vs.length∧(∀(i:Nat) r u,l[i]?=some r→vs[i]?=some u→(CH a r).run P w = .ok u w)∧∀(i:Nat) x u,xs[i]?=some x→vs[i]?=some u→gZ (s.free A ad) ad w x u:=by
    intro l
    induction l with
    | nil=>intro xs h;cases xs with
      | nil=>exact⟨[],rfl,rfl,fun i r u h=>by simp at h,fun i x u h=>by simp at h⟩
      | cons=>cases h
    | cons r l cg =>
      intro xs h;cases xs with
      | nil=>cases h
      | cons x xs =>
        simp only[hY,List.cons.injEq] at h;obtain⟨vs,aI,aO,cf,ei⟩:=cg xs h.2;obtain⟨u,q1,q2⟩:=ajE an h.1;refine⟨u::vs,by simp[aI],by simp[aO],fun i bg rK h1 h2 => ?_,fun i x' rK h1 h2 => ?_⟩
        · cases i with
          | zero=>simp at h1 h2;subst h1;subst h2;exact q1
          | succ i=>exact cf i bg rK (by simpa using h1) (by simpa using h2)
        · cases i with
          | zero=>simp at h1 h2;subst h1;subst h2;exact q2
          | succ i=>exact ei i x' rK (by simpa using h1) (by simpa using h2)
  obtain⟨vs,aI,aO,cf,ei⟩:=key _ _ h;have hm:=U5 (P:=P) (w:=w) _ vs aO cf
  have eO:(results fn a.tmps).run P w = .ok (if h:vs.toArray.size=1 then vs.toArray[0] else .tuple vs.toArray) w:=by
    rw[ajF,Array.mapM_eq_mapM_toList];simp only[map_eq_pure_bind,bind_assoc,Sem.run_bind];rw[hm];simp only[Result.andThen_ok,Sem.run_bind,Sem.run_pure]
  refine⟨_,eO,?_⟩
  match vs,xs,aI,ei with
  | [],[],_,_=>exact⟨[],rfl,rfl,fun i x v h=>by simp at h⟩
  | [v],[x],_,ei=>exact ei 0 x v rfl rfl
  | v1::v2::vs,db::di::xs,aI,ei =>
    rw[dif_neg (by simp)];exact⟨v1::v2::vs,rfl,aI.symm,ei⟩
def start(n:Nat)(args:List ag):aB:=⟨n,fun t=>args[t]?,fun _=>none⟩
def ux(P:Program)(c:Code)(Q:Exit→aB→Prop)(s:aB):Prop :=
  s.bR→∀W A ad a w,Rel (cW.all W) A s ad a w→c.wp P (fun e a' w'=>∃s' aU,s'.bR∧Rel (cW.all W) A s' aU a' w'∧Q e s') a w
theorem TN{f:FuncId}{fn:Func}{c:Code}{args:List ag}{r:ag}(ay:P.funcs[f]?=some fn)(aa:fn.body=some c)(aA:args.length≤fn.ntmps)(gE:∀x∈args,x.closed)(cm:r.closed)
    (h:ux P c (wx P fn r) (start fn.ntmps args)):aP P f args r:=by
  refine⟨gE,cm,fun U W vs cJ => ?_⟩;have al:=cJ.1
 
  refine calls_of_wp ay aa ?_;have ok:(start fn.ntmps args).bR:=⟨fun t av j aE af=>absurd af (gE av (cP aE) j),fun k cs x j ae=>by cases ae⟩
  have an:Rel (cW.all W) (fun b=>U b∨W.heap.size≤b) (start fn.ntmps args) id {tmps:=vs.toArray++Array.replicate (fn.ntmps-vs.toArray.size) undef,defers:=[]} W:=by
    refine⟨rfl,by simp[start];omega,fun t av aE => ?_,(fun k cs ae=>by cases ae),(fun k k' cs au ae=>by cases ae),eR.refl (cW.all W),fun b aa => .inr aa,fun k b ae=>(by cases ae)⟩;have bc:t<vs.length:=by rw[←al];exact(bt.1 aE).1
    refine⟨vs[t],by simp[Array.getElem?_append,bc],?_⟩;exact(cJ.2 t av _ aE (bF bc)).map (fun b aa _=>⟨⟨.inl aa,fun k cs ae=>by cases ae⟩,rfl⟩) fun _ _=>rfl
  refine wp_mono (h ok W _ id _ W an) ?_;rintro e a' w' ⟨s',aU,bX,bw,aj⟩
  have fin:(∃xs,fn.results.toList.map (gV P s')=xs.map some∧(packed xs).aW r)→a'.defers=[]∧∃v,(results fn a'.tmps).run P w' = .ok v w'∧∃u,Ending.returned v = .returned u∧cS (fun b=>U b∨W.heap.size≤b) id w' r u∧Below W.heap.size W w':=by
    rintro⟨xs,h1,h2⟩;obtain⟨v,q1,q2⟩:=CJ bw h1;exact⟨bw.kG,v,q1,v,rfl,(h2 _ _ _ _ q2).map (fun b aa _=>⟨aa.1,rfl⟩) fun j af=>absurd af (cm j),bw.below.all⟩
  cases e with
  | normal=>exact fin aj
  | ret=>exact fin aj
  | _=>exact aj.elim
theorem ai5{f:FuncId}{fn:Func}{c:Code}{args:List ag}{r:ag}(ay:P.funcs[f]?=some fn)(aa:fn.body=some c)(aA:args.length≤fn.ntmps)(gE:∀x∈args,x.closed)(cm:r.closed)
    (h:fF P c (wx P fn r) (start fn.ntmps args)):aP P f args r :=
  TN ay aa aA gE cm fun ok W A ad a w an=>(h ok (cW.all W) A ad a w an).top
end
def nQ(P:Program)(c:Code)(Q:Exit→Act→World→Prop)(a:Act)(w:World):Prop :=
 ∀(b:Frame) (k:List Item) (cs:List Frame),b.kind = .normal→∃e a' w',Q e a' w'∧Arrives P (lone (b.at a (.code c::k)) cs w) b k cs e a' w'
section
variable{P:Program}{Q Af:Exit→Act→World→Prop}{a:Act}{w:World}{c x y:Code}
theorem Sv(h:c.wp P Q a w):nQ P c Q a w:=fun b k cs _=>h b k cs
theorem xk(h:nQ P c Q a w)(aj:∀e a w,Q e a w→Af e a w):nQ P c Af a w:=fun b k cs aa=>by
 obtain⟨e,a1,w1,g,r⟩:=h b k cs aa;exact⟨e,a1,w1,aj e a1 w1 g,r⟩
theorem VQ{next:Act→World→Prop}{e:Exit}(he:e ≠ .normal):Exit.then next Q e a w=Q e a w:=by
 cases e <;> first|rfl|exact absurd rfl he
theorem agM(h:nQ P x (Exit.then (nQ P y Q) Q) a w):nQ P (.seq x y) Q a w:=fun b k cs aa=>by
 obtain⟨e,a1,w1,g,r⟩:=h b (.code y::k) cs aa
 by_cases he:e = .normal
 ·subst he;obtain⟨aO,a2,w2,g2,dQ⟩:=g b k cs aa;exact⟨aO,a2,w2,g2,dQ.of_steps (Steps.head step_seq r)⟩
 ·rw[VQ he] at g;exact⟨e,a1,w1,g,(r.pass (x := .code y) rfl fun _ _ => .inl he).of_steps (.one step_seq)⟩
theorem agJ{o:Operand}{t:Bool}(ak:a.eval o = .bool t)(h:nQ P (if t then x else y) Q a w):nQ P (.cond o x y) Q a w:=fun b k cs aa=>by
 obtain⟨e,a1,w1,g,r⟩:=h b k cs aa;exact⟨e,a1,w1,g,r.of_steps (.one (step_cond ak))⟩
theorem agI{id:Nat}(h:nQ P c (Exit.inBlock id Q) a w):nQ P (.block id c) Q a w:=fun b k cs aa=>by
 obtain⟨e,a1,w1,g,r⟩:=h b (.inBlock id::k) cs aa;have cn:=r.of_steps (.one (step_block (P:=P) (b:=b) (a:=a) (k:=k) (cs:=cs) (w:=w) (id:=id) (c:=c)));cases e with
 | normal=>exact⟨.normal,a1,w1,g,Steps.trans cn (.one step_inBlock)⟩
 | exit j =>
  by_cases q:j=id
  ·subst q;have c4:Q .normal a1 w1:=by simpa [Exit.inBlock] using g
   exact⟨.normal,a1,w1,c4,cn k (by simp[exitTo])⟩
  ·have c4:Q (.exit j) a1 w1:=by simpa [Exit.inBlock,q] using g
   refine⟨.exit j,a1,w1,c4,fun k' ae=>cn k' ?_⟩;have:(id==j)=false:=by simpa using fun e=>q e.symm
   simp[exitTo,this,ae]
 | goto l=>exact⟨_,a1,w1,g,fun k' ae=>cn k' (by simp[gotoIn,ae])⟩
 | ret=>exact⟨_,a1,w1,g,cn⟩
 | panic ch=>exact⟨_,a1,w1,g,cn⟩
 | outgrown=>exact⟨.outgrown,a1,w1,g,cn⟩
theorem agK(I:Nat→Act→World→Prop){n:Nat}(aF:I n a w)(round:∀n a w,I n a w→nQ P c (Exit.then (fun a' w'=>∃m,m<n∧I m a' w') Q) a w):nQ P (.loop c) Q a w:=fun b k cs aa=>by
 have key:∀n a w,I n a w→∃e a' w',Q e a' w'∧Arrives P (lone (b.at a (.code c :: .inLoop c::k)) cs w) b k cs e a' w':=by
  intro n
  induction n using Nat.strongRecOn with
  | _ n cg =>
   intro a w a7;obtain⟨e,a1,w1,g,r⟩:=round n a w a7 b (.inLoop c::k) cs aa
   by_cases he:e = .normal
   ·subst he;obtain⟨m,hm,abT⟩:=g;obtain⟨aO,a2,w2,g2,dQ⟩:=cg m hm a1 w1 abT;exact⟨aO,a2,w2,g2,dQ.of_steps (Steps.trans r (.one step_inLoop))⟩
   ·rw[VQ he] at g;exact⟨e,a1,w1,g,r.pass (x := .inLoop c) rfl fun _ _ => .inl he⟩
 obtain⟨e,a1,w1,g,r⟩:=key n a w aF;exact⟨e,a1,w1,g,r.of_steps (.one step_loop)⟩
theorem Ok{f:FuncId}{fn:Func}{args:Array Value}{R:Ending→World→Prop}(ay:P.funcs[f]?=some fn)(aa:fn.body=some c)
  (h:nQ P c (bodyPost P fn R) {tmps:=args++Array.replicate (fn.ntmps-args.size) undef,defers:=[]} w):Calls P f args w R:=by
 intro cs;obtain⟨e,a1,w1,g,r⟩:=h {(default:Frame) with fn:=f,kind := .normal} [] cs rfl;rw[show ({(default:Frame) with fn:=f,kind := .normal}:Frame).at {tmps:=args++Array.replicate (fn.ntmps-args.size) undef,defers:=[]} [.code c]=Frame.enter P f args .normal by simp[Frame.enter,Frame.at,ay,aa]] at r;cases e with
 | normal =>
  obtain⟨hd,v,hv,an⟩:=g;exact⟨.returned v,w1,_,an,Steps.trans r (.one step_end),rfl,rfl,hd,rfl,fn,ay,hv⟩
 | ret =>
  obtain⟨hd,v,hv,an⟩:=g;obtain⟨todo,hs⟩:=r;exact⟨.returned v,w1,_,an,hs,rfl,rfl,hd,rfl,fn,ay,hv⟩
 | panic chain =>
  obtain⟨hd,an⟩:=g;obtain⟨todo,hs⟩:=r;exact⟨.panicked chain,w1,_,an,hs,rfl,rfl,hd,fn,ay⟩
 | outgrown=>exact⟨.outgrown,w1,{(default:Frame) with fn:=f,kind := .normal},g,r.resolve_left (by simp),rfl,trivial⟩
 | exit id=>exact g.elim
 | goto l=>exact g.elim
def ru(P:Program)(ops:Array Oper)(Q:Exit→Act→World→Prop)(l:List Nat)(a:Act)(w:World):Prop :=
 ∀(b:Frame) (k:List Item) (cs:List Frame),b.kind = .normal→∃e a' w',Q e a' w'∧Arrives P (lone (b.at a (.inRegion ops l::k)) cs w) b k cs e a' w'
theorem agL{id:Nat}{ops:Array Oper}(h:ru P ops Q (List.range ops.size) a w):nQ P (.region id ops false) Q a w:=fun b k cs aa=>by
 obtain⟨e,a1,w1,g,r⟩:=h b k cs aa;exact⟨e,a1,w1,g,r.of_steps (.one step_region)⟩
theorem agG{ops:Array Oper}(h:Q .normal a w):ru P ops Q [] a w:=fun b k cs _=>⟨.normal,a,w,h,.one step_region_end⟩
theorem xj{ops:Array Oper}{i:Nat}{l:List Nat}{a1:Act}{w1:World}(hs:∀(b:Frame) (k:List Item) (cs:List Frame),b.kind = .normal→step P (lone (b.at a (.inRegion ops (i::l)::k)) cs w) = .next (lone (b.at a1 (.inRegion ops l::k)) cs w1))(h:ru P ops Q l a1 w1):ru P ops Q (i::l) a w:=fun b k cs aa=>by
 obtain⟨e,a2,w2,g,r⟩:=h b k cs aa;exact⟨e,a2,w2,g,r.of_steps (.one (hs b k cs aa))⟩
theorem Cj{ops:Array Oper}{i:Nat}{l:List Nat}{o:Oper}(aD:ops[i]?=some o)(hw:Region.wanted o (yielded ops a.tmps)=true)(h:o.wp P a w (ru P ops Q l) Q)(aj:∀a w,¬Q .outgrown a w):ru P ops Q (i::l) a w:=by
 have fin:∀(b:Frame) (k:List Item) v,(b.at a (.inRegion ops (i::l)::k)).finish v=b.at (a.put o.dst v) (.inRegion ops l::k):=fun b k v=>by rw[Frame.finish_at,aD];rfl
 have zA:=fun(b:Frame) (k:List Item) (cs:List Frame)=>stepG_op (P:=P) (b:=b) (k:=k) (cs:=cs) (w:=w) (rest:=l) aD hw;unfold Oper.wp at h;generalize ap:(execOp a.eval o).run P w=ajD at h;cases ajD with
 | halt t w1 =>
  cases t with
  | panic v=>exact fun b k cs _=>⟨_,a,w1,h,.inRegion ops (i::l)::k,.one (step_lone_go (by rw[zA,←Frame.raise_at];simp[stepG.apply,ap]))⟩
  | _=>exact h.elim
 | ok n w1 =>
  cases n with
  | value v=>exact xj (fun b k cs _=>step_lone_go (by rw[zA,←fin];simp[stepG.apply,ap])) h
  | skip=>exact xj (fun b k cs _=>step_lone_go (by rw[zA,←fin];simp[stepG.apply,ap])) h
  | defer d =>
   refine xj (fun b k cs _=>step_lone_go ?_) h
   have e:({b.at a (.inRegion ops (i::l)::k) with defers:=d::a.defers}:Frame).finish undef=b.at ({a with defers:=d::a.defers}.put o.dst undef) (.inRegion ops l::k):=by
    have:=Frame.finish_at b {a with defers:=d::a.defers} ops i l k undef;rw[aD] at this;exact this
   rw[zA];simp only[stepG.apply,Sem.runT_eq,ap,GStep.bare_after];exact congrArg (fun uY=>GStep.go {frame:=uY,callers:=cs,status := .running,dying:=none} w1) e
  | enter f args =>
   intro b k cs aa;obtain⟨e,w2,uY,an,hs,_,al⟩:=h (b.at a (.inRegion ops (i::l)::k)::cs);have he:step P (lone (b.at a (.inRegion ops (i::l)::k)) cs w) = .next (lone (Frame.enter P f args .normal) (b.at a (.inRegion ops (i::l)::k)::cs) w1):=step_lone_go (by rw[zA];simp[stepG.apply,ap,Frame.at])
   cases e with
   | returned v =>
    obtain⟨e,a3,w3,g,r⟩:=an b k cs aa;refine⟨e,a3,w3,g,r.of_steps (Steps.head he (Steps.trans hs (.one ?_)))⟩;rw[←fin];exact step_leave_returned al
   | panicked chain =>
    refine⟨.panic chain,a,w2,an,.inRegion ops (i::l)::k,Steps.head he (Steps.trans hs (.one ?_))⟩;rw[←Frame.raise_at];exact step_leave_panicked al
   | outgrown =>
    obtain⟨a0,V4,q⟩:=an;exact absurd q (aj a0 V4)
  | row row args =>
   intro b k cs aa;obtain⟨v,w2,an,hs⟩:=h (b.at a (.inRegion ops (i::l)::k)) cs;have he:step P (lone (b.at a (.inRegion ops (i::l)::k)) cs w) = .next (lone (Frame.ofRow P row args .normal) (b.at a (.inRegion ops (i::l)::k)::cs) w1):=step_lone_go (by rw[zA];simp[stepG.apply,ap,Frame.at])
   obtain⟨e,a3,w3,g,r⟩:=an b k cs aa;refine⟨e,a3,w3,g,r.of_steps (Steps.head he ?_)⟩;rw[←fin];exact hs
  | _=>exact h.elim
theorem agH{ops:Array Oper}{i:Nat}{l:List Nat}{o:Oper}(aD:ops[i]?=some o)(hw:Region.wanted o (yielded ops a.tmps)=false)(h:ru P ops Q l (a.put o.dst undef) w):ru P ops Q (i::l) a w:=by
 refine xj (fun b k cs _ => ?_) h;have:=step_op_skip (P:=P) (b:=b) (a:=a) (k:=k) (cs:=cs) (w:=w) (ops:=ops) (i:=i) (rest:=l) (by simp[aD,hw]);rw[aD] at this;exact this
end
end Go.Proofs.YtklpfooafbjnpaaGreat
