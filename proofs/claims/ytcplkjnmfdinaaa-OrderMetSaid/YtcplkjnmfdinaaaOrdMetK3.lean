/-
  My own texts, without what this claim does not need. My own text.
-/
import Derived.WalkKit
import Derived.WalkSpells
import Derived.Lib.Hide
import Derived.BigQuiet
import Derived.BigGuardPart
import Derived.Deep.RegionHeld3
import Derived.Below
import Derived.Still
import Derived.Laws.CopyRow
import Derived.Laws.Cells
import Derived.Tactics
import Derived.IntWalk
import Derived.Test.YtcplkjnmfdinaaaProg
import Derived.ProofKit
import Derived.Laws.StructEq
import Derived.Laws.AppendOwn
import Derived.Laws.MakeOwn
import Derived.Laws.Slices
import Derived.Laws.BytesArg
import Derived.Defers
import Derived.Recover
import Derived.StillTail
import Derived.Deep.QuietTactic
import Derived.OwnWalk
import Derived.Laws.OwnMore
import Derived.Maps.AppendAt
import Derived.Deep.DrawnRows
import Derived.Deep.LoopGhost
import Derived.Shelf.Lay
import Derived.Shelf.LaySoft
import Derived.Lib.ItoaNum
import Derived.Deep.DeepCutAuto
import Derived.Deep.CutBlock
import Derived.RegionTactic
import Derived.OpenShut
import Derived.Deep.DeepHandedRow
import Derived.Lib.LaidTab
import Derived.Lib.SmallJoins
import Derived.Deep.SlicePairs
import Derived.Carry
import Derived.Test.YtcplkjnmfdinaaaRows
import Derived.Test.YtcplkjnmfdinaaaOrdMetK2
namespace Go.Proofs.Ytcplkjnmfdinaaa
open Go.RowKit
set_option linter.unusedVariables false
set_option linter.unusedSimpArgs false
/-- the cells of a row of numbers, of pairs the first ones. -/
def ikC (l : List (Int × Int)) : List AC := inC (l.map fun x => x.1)
abbrev vIk (l : List (Int × Int)) : AV := vS 1 l.length (ikC l)
theorem ikC_xy {l : List (Int × Int)} {j : Int} {i : Nat} {x y : Int} (hj : j = i) (h : l[i]? = some (x, y)) : ((ikC l).drop (j.toNat * 1)).take 1 = [.c (.int .i64 x)] :=
  inC_at hj (by rw [List.getElem?_map, h]; rfl)
theorem ikC_len (l : List (Int × Int)) : (ikC l).length = l.length * 1 := by simp [ikC, inC]
theorem ikC_append (l m : List (Int × Int)) : ikC (l ++ m) = ikC l ++ ikC m := by simp [ikC, inC]
theorem ikC_closed (l : List (Int × Int)) : (ikC l).all AC.closedB = true := by
  rw [List.all_eq_true]
  intro x hx
  simp only [ikC, inC, List.mem_map] at hx
  obtain ⟨y, _, rfl⟩ := hx
  rfl
theorem ikC_nil : ikC [] = [] := rfl
theorem ikC_tail (p : Int × Int) (l : List (Int × Int)) : ((ikC (p :: l)).drop ((1 : Int).toNat * 1)).take (l.length * 1) = ikC l := by
  have e : (ikC (p :: l)).drop ((1 : Int).toNat * 1) = ikC l := rfl
  rw [e, ← ikC_len, List.take_length]
theorem ikC_one (p : Int × Int) (l : List (Int × Int)) : ikC l ++ [.c (.int .i64 p.1)] = ikC (l ++ [p]) := by rw [ikC_append]; rfl
abbrev okRow (v : Value) (l : List (Int × Int)) : HRow := ⟨3, 1, v, l.length, ikC l⟩
theorem ikC_take (l : List (Int × Int)) (k : Nat) : ((ikC l).drop (0 * 1)).take ((l.take k).length * 1) = ikC (l.take k) := by
  have e : ikC l = ikC (l.take k) ++ ikC (l.drop k) := by rw [← ikC_append, List.take_append_drop]
  rw [e, Nat.zero_mul, List.drop_zero, ← ikC_len]
  simp
theorem ikC_drop (l : List (Int × Int)) (k : Nat) (hk : k ≤ l.length) : ((ikC l).drop (k * 1)).take ((l.drop k).length * 1) = ikC (l.drop k) := by
  have e : ikC l = ikC (l.take k) ++ ikC (l.drop k) := by rw [← ikC_append, List.take_append_drop]
  have e2 : k * 1 = (ikC (l.take k)).length := by rw [ikC_len, List.length_take, Nat.min_eq_left hk]
  rw [e, e2, List.drop_left, ← ikC_len, List.take_length]
def MgK (M : List (Int × Int)) (lt : Int × Int → Int × Int → Bool) (lv : AV) (K : Nat) (m : Nat) (R : Rws) (ts : List (Nat × AV)) (ms : List (Nat × List AC)) : Prop :=
  ∃ (a b out : List (Int × Int)) (v : Value), m = a.length + b.length ∧ out ++ mrgL lt a b = M ∧ out.length + m = K ∧ R = row1 0 (okRow v out) ∧ ts = [(0, vIk a), (1, vIk b), (2, lv), (7, vC v)] ∧ ms = []
set_option maxRecDepth 100000 in
set_option maxHeartbeats 8000000 in
theorem p_mergeK {lf : FuncId} [Enters Try.prog lf] {lt : Int × Int → Int × Int → Bool} (hL : ∀ x n y m : Int, PCall Try.prog lf [vI x, vI y] (vB (lt (x, n) (y, m)))) {a b : List (Int × Int)} (ha : a.length ≤ 100000) (hb : b.length ≤ 100000) :
    PCall Try.prog 25 [vIk a, vIk b, vFn lf] (vIk (mrgL lt a b)) := by
  refine pcall_body (f := 25) Try.func25 rfl rfl rfl rfl ?_
  refine awp_rows ?_
  (repeat (first | ((with_reducible apply hs_nilS); kernel_rfl) | ((with_reducible apply rwp_draw (id := 3) [0,1,2,3,4,5,6,7]); kernel_rfl; kernel_rfl; exact rfl) | ((with_reducible apply rwp_draw (id := 4) [0,1,2,3,6,7,4,5,8,9]); kernel_rfl; kernel_rfl; exact rfl) | ((with_reducible apply rwp_draw (id := 5) [0,1,2,3,6,7,4,5,8,9]); kernel_rfl; kernel_rfl; exact rfl) | ((with_reducible apply rwp_seq)) | ((with_reducible apply rthen_normal)) | ((with_reducible apply rwp_region)) | ((with_reducible apply hs_nil)) | ((with_reducible apply rwp_ret)) | ((with_reducible apply rwp_skip)) | ((with_reducible apply rthen_ret)) | ((with_reducible apply rwp_block)) | ((with_reducible apply rblock_normal)) | ((with_reducible apply rblock_ret)) | ((with_reducible apply rblock_same)) | ((with_reducible apply rwp_exit)) | ((with_reducible apply rthen_exit)) | ((with_reducible apply rblock_ne); exact rfl) | ((with_reducible apply rwp_cond_1); exact rfl; (first | assumption | exact decide_eq_true (by omega) | (simp only [Bool.not_eq_true', decide_eq_false_iff_not, decide_eq_true_eq, Bool.not_eq_false']; omega) | exact rfl)) | ((with_reducible apply rwp_cond_0); exact rfl; (first | assumption | exact decide_eq_false (by omega) | (simp only [Bool.not_eq_true', decide_eq_false_iff_not, decide_eq_true_eq, Bool.not_eq_false']; omega) | exact rfl)) | ((with_reducible apply hs_c); (repeat (first | ((with_reducible apply al_q); exact rfl) | ((with_reducible apply al_loadP1); (iterate 5 exact rfl)) | ((with_reducible apply al_loadPN); (iterate 5 exact rfl)) | ((with_reducible apply al_idxS); (iterate 3 exact rfl); (first | decide | omega); (first | decide | omega); (first | assumption | rfl); exact rfl) | ((with_reducible apply al_idx); (iterate 3 exact rfl); omega; omega; exact rfl) | ((with_reducible apply al_add); (iterate 3 exact rfl); (first | exact i64_wrap (by omega) | assumption | rfl); exact rfl) | ((with_reducible apply al_len); (iterate 3 exact rfl)) | ((with_reducible apply al_sl_l); (iterate 3 exact rfl); (first | assumption | omega); (first | assumption | omega); (first | assumption | rfl); (first | assumption | rfl); exact rfl) | ((with_reducible apply al_sl_h); (iterate 3 exact rfl); (first | assumption | omega); (first | assumption | omega); (first | assumption | rfl); (first | assumption | rfl); exact rfl) | ((with_reducible apply al_sl_lh); (iterate 4 exact rfl); (first | assumption | omega); (first | assumption | omega); (first | assumption | omega); (first | assumption | rfl); (first | assumption | rfl); exact rfl) | ((with_reducible apply al_sl_hm); (iterate 4 exact rfl); (first | assumption | omega); (first | assumption | omega); (first | assumption | omega); (first | assumption | rfl); (first | assumption | rfl); exact rfl) | ((with_reducible apply al_sl_lhm); (iterate 5 exact rfl); (first | assumption | omega); (first | assumption | omega); (first | assumption | omega); (first | assumption | omega); (first | assumption | rfl); (first | assumption | rfl); exact rfl) | ((with_reducible apply al_bslice); (iterate 10 exact rfl)) | (refine al_call2 rfl rfl rfl rfl (by fail) rfl ?_) | (refine al_callb (bs := [_]) (args := [_, _]) rfl rfl rfl rfl (by fail) rfl ?_) | (refine al_callF (args := [_, _]) rfl rfl rfl (by fail) rfl ?_) | ((with_reducible apply al_guard_b (c := true)); exact rfl; exact rfl; (first | assumption | exact decide_eq_true (by omega) | (simp only [Bool.not_eq_true', decide_eq_false_iff_not, decide_eq_true_eq, Bool.not_eq_false']; omega))) | ((with_reducible apply al_guard_b (c := false)); exact rfl; exact rfl; (first | assumption | exact decide_eq_false (by omega) | (simp only [Bool.not_eq_true', decide_eq_false_iff_not, decide_eq_true_eq, Bool.not_eq_false']; omega))) | ((with_reducible apply al_bin); (iterate 5 exact rfl); (intro W; go_simp; try rfl); (intro W; go_simp; try rfl); exact rfl; exact rfl))); (with_reducible apply al_nil)) | ((with_reducible apply hs_len 0); (iterate 3 exact rfl); kernel_rfl; exact rfl) | ((with_reducible apply hs_idx 0); (iterate 4 exact rfl); (first | omega); (first | assumption | omega); exact rfl; kernel_rfl; exact rfl) | ((with_reducible apply hs_loadN 0); (iterate 3 exact rfl); (first | assumption | omega); assumption; exact rfl; kernel_rfl; exact rfl) | ((with_reducible apply hs_load1 0); (iterate 3 exact rfl); (first | assumption | omega); assumption; exact rfl; kernel_rfl; exact rfl)))
  refine hs_make (l := 0) (c' := a.length + b.length) 0 rfl rfl rfl rfl (Nat.zero_le _) rfl rfl ?h2 (le_maxLen (by omega)) rfl (fun v hv => ?_)
  case h2 => omega
  (repeat (first | ((with_reducible apply hs_nilS); kernel_rfl) | ((with_reducible apply rwp_draw (id := 3) [0,1,2,3,4,5,6,7]); kernel_rfl; kernel_rfl; exact rfl) | ((with_reducible apply rwp_draw (id := 4) [0,1,2,3,6,7,4,5,8,9]); kernel_rfl; kernel_rfl; exact rfl) | ((with_reducible apply rwp_draw (id := 5) [0,1,2,3,6,7,4,5,8,9]); kernel_rfl; kernel_rfl; exact rfl) | ((with_reducible apply rwp_seq)) | ((with_reducible apply rthen_normal)) | ((with_reducible apply rwp_region)) | ((with_reducible apply hs_nil)) | ((with_reducible apply rwp_ret)) | ((with_reducible apply rwp_skip)) | ((with_reducible apply rthen_ret)) | ((with_reducible apply rwp_block)) | ((with_reducible apply rblock_normal)) | ((with_reducible apply rblock_ret)) | ((with_reducible apply rblock_same)) | ((with_reducible apply rwp_exit)) | ((with_reducible apply rthen_exit)) | ((with_reducible apply rblock_ne); exact rfl) | ((with_reducible apply rwp_cond_1); exact rfl; (first | assumption | exact decide_eq_true (by omega) | (simp only [Bool.not_eq_true', decide_eq_false_iff_not, decide_eq_true_eq, Bool.not_eq_false']; omega) | exact rfl)) | ((with_reducible apply rwp_cond_0); exact rfl; (first | assumption | exact decide_eq_false (by omega) | (simp only [Bool.not_eq_true', decide_eq_false_iff_not, decide_eq_true_eq, Bool.not_eq_false']; omega) | exact rfl)) | ((with_reducible apply hs_c); (repeat (first | ((with_reducible apply al_q); exact rfl) | ((with_reducible apply al_loadP1); (iterate 5 exact rfl)) | ((with_reducible apply al_loadPN); (iterate 5 exact rfl)) | ((with_reducible apply al_idxS); (iterate 3 exact rfl); (first | decide | omega); (first | decide | omega); (first | assumption | rfl); exact rfl) | ((with_reducible apply al_idx); (iterate 3 exact rfl); omega; omega; exact rfl) | ((with_reducible apply al_add); (iterate 3 exact rfl); (first | exact i64_wrap (by omega) | assumption | rfl); exact rfl) | ((with_reducible apply al_len); (iterate 3 exact rfl)) | ((with_reducible apply al_sl_l); (iterate 3 exact rfl); (first | assumption | omega); (first | assumption | omega); (first | assumption | rfl); (first | assumption | rfl); exact rfl) | ((with_reducible apply al_sl_h); (iterate 3 exact rfl); (first | assumption | omega); (first | assumption | omega); (first | assumption | rfl); (first | assumption | rfl); exact rfl) | ((with_reducible apply al_sl_lh); (iterate 4 exact rfl); (first | assumption | omega); (first | assumption | omega); (first | assumption | omega); (first | assumption | rfl); (first | assumption | rfl); exact rfl) | ((with_reducible apply al_sl_hm); (iterate 4 exact rfl); (first | assumption | omega); (first | assumption | omega); (first | assumption | omega); (first | assumption | rfl); (first | assumption | rfl); exact rfl) | ((with_reducible apply al_sl_lhm); (iterate 5 exact rfl); (first | assumption | omega); (first | assumption | omega); (first | assumption | omega); (first | assumption | omega); (first | assumption | rfl); (first | assumption | rfl); exact rfl) | ((with_reducible apply al_bslice); (iterate 10 exact rfl)) | (refine al_call2 rfl rfl rfl rfl (by fail) rfl ?_) | (refine al_callb (bs := [_]) (args := [_, _]) rfl rfl rfl rfl (by fail) rfl ?_) | (refine al_callF (args := [_, _]) rfl rfl rfl (by fail) rfl ?_) | ((with_reducible apply al_guard_b (c := true)); exact rfl; exact rfl; (first | assumption | exact decide_eq_true (by omega) | (simp only [Bool.not_eq_true', decide_eq_false_iff_not, decide_eq_true_eq, Bool.not_eq_false']; omega))) | ((with_reducible apply al_guard_b (c := false)); exact rfl; exact rfl; (first | assumption | exact decide_eq_false (by omega) | (simp only [Bool.not_eq_true', decide_eq_false_iff_not, decide_eq_true_eq, Bool.not_eq_false']; omega))) | ((with_reducible apply al_bin); (iterate 5 exact rfl); (intro W; go_simp; try rfl); (intro W; go_simp; try rfl); exact rfl; exact rfl))); (with_reducible apply al_nil)) | ((with_reducible apply hs_len 0); (iterate 3 exact rfl); kernel_rfl; exact rfl) | ((with_reducible apply hs_idx 0); (iterate 4 exact rfl); (first | omega); (first | assumption | omega); exact rfl; kernel_rfl; exact rfl) | ((with_reducible apply hs_loadN 0); (iterate 3 exact rfl); (first | assumption | omega); assumption; exact rfl; kernel_rfl; exact rfl) | ((with_reducible apply hs_load1 0); (iterate 3 exact rfl); (first | assumption | omega); assumption; exact rfl; kernel_rfl; exact rfl)))
  refine rwp_loopL 52 (MgK (mrgL lt a b) lt (vFn lf) (a.length + b.length)) (a.length + b.length) (row1 0 (okRow v [])) _ _ ⟨a, b, [], v, rfl, rfl, Nat.zero_add _, rfl, rfl, rfl⟩ (row1_le _ _ _) rfl ⟨rfl, rfl, rfl, rfl, trivial⟩ trivial rfl ?_
  rintro m R ts ms ⟨a', b', out, v, rfl, hM, hK, rfl, rfl, rfl⟩ hok
  clear hok hv
  by_cases qa : 0 < a'.length
  · by_cases qb : 0 < b'.length
    · have qa' : (a'.length : Int) > 0 := by omega
      have qb' : (b'.length : Int) > 0 := by omega
      obtain ⟨⟨x, n⟩, a2, rfl⟩ := List.exists_cons_of_length_pos qa
      obtain ⟨⟨y, m⟩, b2, rfl⟩ := List.exists_cons_of_length_pos qb
      have E1 : ((ikC ((x, n) :: a2)).drop ((0 : Int).toNat * 1)).take 1 = [.c (.int .i64 x)] := ikC_xy (j := 0) (i := 0) rfl rfl
      have E2 : ((ikC ((y, m) :: b2)).drop ((0 : Int).toNat * 1)).take 1 = [.c (.int .i64 y)] := ikC_xy (j := 0) (i := 0) rfl rfl
      have C1 := hL y m x n
      cases hlt : lt (y, m) (x, n) with
      | true =>
        rw [hlt] at C1
        have e1 : ((y, m) :: b2).length - (1 : Int).toNat = b2.length := rfl
        have e2 := ikC_tail (y, m) b2
        have hM' : (out ++ [(y, m)]) ++ mrgL lt ((x, n) :: a2) b2 = mrgL lt a b := by
          rw [← hM, mrgL, if_pos hlt, List.append_assoc]; rfl
        have hl1 : (out ++ [(y, m)]).length = out.length + 1 := List.length_append
        have hl2 : ((y, m) :: b2).length = b2.length + 1 := rfl
        have hl3 : ((x, n) :: a2).length = a2.length + 1 := rfl
        (repeat (first | ((with_reducible apply hs_nilS); kernel_rfl) | ((with_reducible apply rwp_draw (id := 3) [0,1,2,3,4,5,6,7]); kernel_rfl; kernel_rfl; exact rfl) | ((with_reducible apply rwp_draw (id := 4) [0,1,2,3,6,7,4,5,8,9]); kernel_rfl; kernel_rfl; exact rfl) | ((with_reducible apply rwp_draw (id := 5) [0,1,2,3,6,7,4,5,8,9]); kernel_rfl; kernel_rfl; exact rfl) | ((with_reducible apply rwp_seq)) | ((with_reducible apply rthen_normal)) | ((with_reducible apply rwp_region)) | ((with_reducible apply hs_nil)) | ((with_reducible apply rwp_ret)) | ((with_reducible apply rwp_skip)) | ((with_reducible apply rthen_ret)) | ((with_reducible apply rwp_block)) | ((with_reducible apply rblock_normal)) | ((with_reducible apply rblock_ret)) | ((with_reducible apply rblock_same)) | ((with_reducible apply rwp_exit)) | ((with_reducible apply rthen_exit)) | ((with_reducible apply rblock_ne); exact rfl) | ((with_reducible apply rwp_cond_1); exact rfl; (first | assumption | exact decide_eq_true (by omega) | (simp only [Bool.not_eq_true', decide_eq_false_iff_not, decide_eq_true_eq, Bool.not_eq_false']; omega) | exact rfl)) | ((with_reducible apply rwp_cond_0); exact rfl; (first | assumption | exact decide_eq_false (by omega) | (simp only [Bool.not_eq_true', decide_eq_false_iff_not, decide_eq_true_eq, Bool.not_eq_false']; omega) | exact rfl)) | ((with_reducible apply hs_c); (repeat (first | ((with_reducible apply al_q); exact rfl) | ((with_reducible apply al_loadP1); (iterate 5 exact rfl)) | ((with_reducible apply al_loadPN); (iterate 5 exact rfl)) | ((with_reducible apply al_idxS); (iterate 3 exact rfl); (first | decide | omega); (first | decide | omega); (first | assumption | rfl); exact rfl) | ((with_reducible apply al_idx); (iterate 3 exact rfl); omega; omega; exact rfl) | ((with_reducible apply al_add); (iterate 3 exact rfl); (first | exact i64_wrap (by omega) | assumption | rfl); exact rfl) | ((with_reducible apply al_len); (iterate 3 exact rfl)) | ((with_reducible apply al_sl_l); (iterate 3 exact rfl); (first | assumption | omega); (first | assumption | omega); (first | assumption | rfl); (first | assumption | rfl); exact rfl) | ((with_reducible apply al_sl_h); (iterate 3 exact rfl); (first | assumption | omega); (first | assumption | omega); (first | assumption | rfl); (first | assumption | rfl); exact rfl) | ((with_reducible apply al_sl_lh); (iterate 4 exact rfl); (first | assumption | omega); (first | assumption | omega); (first | assumption | omega); (first | assumption | rfl); (first | assumption | rfl); exact rfl) | ((with_reducible apply al_sl_hm); (iterate 4 exact rfl); (first | assumption | omega); (first | assumption | omega); (first | assumption | omega); (first | assumption | rfl); (first | assumption | rfl); exact rfl) | ((with_reducible apply al_sl_lhm); (iterate 5 exact rfl); (first | assumption | omega); (first | assumption | omega); (first | assumption | omega); (first | assumption | omega); (first | assumption | rfl); (first | assumption | rfl); exact rfl) | ((with_reducible apply al_bslice); (iterate 10 exact rfl)) | (refine al_call2 rfl rfl rfl rfl (by (first | exact C1)) rfl ?_) | (refine al_callb (bs := [_]) (args := [_, _]) rfl rfl rfl rfl (by (first | exact C1)) rfl ?_) | (refine al_callF (args := [_, _]) rfl rfl rfl (by (first | exact C1)) rfl ?_) | ((with_reducible apply al_guard_b (c := true)); exact rfl; exact rfl; (first | assumption | exact decide_eq_true (by omega) | (simp only [Bool.not_eq_true', decide_eq_false_iff_not, decide_eq_true_eq, Bool.not_eq_false']; omega))) | ((with_reducible apply al_guard_b (c := false)); exact rfl; exact rfl; (first | assumption | exact decide_eq_false (by omega) | (simp only [Bool.not_eq_true', decide_eq_false_iff_not, decide_eq_true_eq, Bool.not_eq_false']; omega))) | ((with_reducible apply al_bin); (iterate 5 exact rfl); (intro W; go_simp; try rfl); (intro W; go_simp; try rfl); exact rfl; exact rfl))); (with_reducible apply al_nil)) | ((with_reducible apply hs_len 0); (iterate 3 exact rfl); kernel_rfl; exact rfl) | ((with_reducible apply hs_idx 0); (iterate 4 exact rfl); (first | omega); (first | assumption | omega); exact rfl; kernel_rfl; exact rfl) | ((with_reducible apply hs_loadN 0); (iterate 3 exact rfl); (first | assumption | omega); assumption; exact rfl; kernel_rfl; exact rfl) | ((with_reducible apply hs_load1 0); (iterate 3 exact rfl); (first | assumption | omega); assumption; exact rfl; kernel_rfl; exact rfl)))
        refine hs_app0 0 rfl rfl rfl rfl ?q1 ?q2 rfl rfl (fun v' hv' => ?_)
        case q1 => exact le_maxLen (by show out.length + 1 ≤ 1000000; omega)
        case q2 => show (out.length + 1) * 8 ≤ 140737488355328; omega
        (repeat (first | ((with_reducible apply hs_nilS); kernel_rfl) | ((with_reducible apply rwp_draw (id := 3) [0,1,2,3,4,5,6,7]); kernel_rfl; kernel_rfl; exact rfl) | ((with_reducible apply rwp_draw (id := 4) [0,1,2,3,6,7,4,5,8,9]); kernel_rfl; kernel_rfl; exact rfl) | ((with_reducible apply rwp_draw (id := 5) [0,1,2,3,6,7,4,5,8,9]); kernel_rfl; kernel_rfl; exact rfl) | ((with_reducible apply rwp_seq)) | ((with_reducible apply rthen_normal)) | ((with_reducible apply rwp_region)) | ((with_reducible apply hs_nil)) | ((with_reducible apply rwp_ret)) | ((with_reducible apply rwp_skip)) | ((with_reducible apply rthen_ret)) | ((with_reducible apply rwp_block)) | ((with_reducible apply rblock_normal)) | ((with_reducible apply rblock_ret)) | ((with_reducible apply rblock_same)) | ((with_reducible apply rwp_exit)) | ((with_reducible apply rthen_exit)) | ((with_reducible apply rblock_ne); exact rfl) | ((with_reducible apply rwp_cond_1); exact rfl; (first | assumption | exact decide_eq_true (by omega) | (simp only [Bool.not_eq_true', decide_eq_false_iff_not, decide_eq_true_eq, Bool.not_eq_false']; omega) | exact rfl)) | ((with_reducible apply rwp_cond_0); exact rfl; (first | assumption | exact decide_eq_false (by omega) | (simp only [Bool.not_eq_true', decide_eq_false_iff_not, decide_eq_true_eq, Bool.not_eq_false']; omega) | exact rfl)) | ((with_reducible apply hs_c); (repeat (first | ((with_reducible apply al_q); exact rfl) | ((with_reducible apply al_loadP1); (iterate 5 exact rfl)) | ((with_reducible apply al_loadPN); (iterate 5 exact rfl)) | ((with_reducible apply al_idxS); (iterate 3 exact rfl); (first | decide | omega); (first | decide | omega); (first | assumption | rfl); exact rfl) | ((with_reducible apply al_idx); (iterate 3 exact rfl); omega; omega; exact rfl) | ((with_reducible apply al_add); (iterate 3 exact rfl); (first | exact i64_wrap (by omega) | assumption | rfl); exact rfl) | ((with_reducible apply al_len); (iterate 3 exact rfl)) | ((with_reducible apply al_sl_l); (iterate 3 exact rfl); (first | assumption | omega); (first | assumption | omega); (first | assumption | rfl); (first | assumption | rfl); exact rfl) | ((with_reducible apply al_sl_h); (iterate 3 exact rfl); (first | assumption | omega); (first | assumption | omega); (first | assumption | rfl); (first | assumption | rfl); exact rfl) | ((with_reducible apply al_sl_lh); (iterate 4 exact rfl); (first | assumption | omega); (first | assumption | omega); (first | assumption | omega); (first | assumption | rfl); (first | assumption | rfl); exact rfl) | ((with_reducible apply al_sl_hm); (iterate 4 exact rfl); (first | assumption | omega); (first | assumption | omega); (first | assumption | omega); (first | assumption | rfl); (first | assumption | rfl); exact rfl) | ((with_reducible apply al_sl_lhm); (iterate 5 exact rfl); (first | assumption | omega); (first | assumption | omega); (first | assumption | omega); (first | assumption | omega); (first | assumption | rfl); (first | assumption | rfl); exact rfl) | ((with_reducible apply al_bslice); (iterate 10 exact rfl)) | (refine al_call2 rfl rfl rfl rfl (by fail) rfl ?_) | (refine al_callb (bs := [_]) (args := [_, _]) rfl rfl rfl rfl (by fail) rfl ?_) | (refine al_callF (args := [_, _]) rfl rfl rfl (by fail) rfl ?_) | ((with_reducible apply al_guard_b (c := true)); exact rfl; exact rfl; (first | assumption | exact decide_eq_true (by omega) | (simp only [Bool.not_eq_true', decide_eq_false_iff_not, decide_eq_true_eq, Bool.not_eq_false']; omega))) | ((with_reducible apply al_guard_b (c := false)); exact rfl; exact rfl; (first | assumption | exact decide_eq_false (by omega) | (simp only [Bool.not_eq_true', decide_eq_false_iff_not, decide_eq_true_eq, Bool.not_eq_false']; omega))) | ((with_reducible apply al_bin); (iterate 5 exact rfl); (intro W; go_simp; try rfl); (intro W; go_simp; try rfl); exact rfl; exact rfl))); (with_reducible apply al_nil)) | ((with_reducible apply hs_len 0); (iterate 3 exact rfl); kernel_rfl; exact rfl) | ((with_reducible apply hs_idx 0); (iterate 4 exact rfl); (first | omega); (first | assumption | omega); exact rfl; kernel_rfl; exact rfl) | ((with_reducible apply hs_loadN 0); (iterate 3 exact rfl); (first | assumption | omega); assumption; exact rfl; kernel_rfl; exact rfl) | ((with_reducible apply hs_load1 0); (iterate 3 exact rfl); (first | assumption | omega); assumption; exact rfl; kernel_rfl; exact rfl)))
        have e3 : okRow v' (out ++ [(y, m)]) = ⟨3, 1, v', out.length + 1, ikC out ++ [.c (.int .i64 y)]⟩ := by
          unfold okRow; rw [← ikC_one, List.length_append]; rfl
        refine ⟨_, row1 0 (okRow v' (out ++ [(y, m)])), _, _, ?_, ⟨(x, n) :: a2, b2, out ++ [(y, m)], v', rfl, hM', ?_, rfl, rfl, rfl⟩, by rw [e3]; exact row1_le _ _ _, rfl, ⟨rfl, rfl, rfl, rfl, trivial⟩, trivial, rfl⟩
        · omega
        · omega
      | false =>
        rw [hlt] at C1
        have e1 : ((x, n) :: a2).length - (1 : Int).toNat = a2.length := rfl
        have e2 := ikC_tail (x, n) a2
        have hM' : (out ++ [(x, n)]) ++ mrgL lt a2 ((y, m) :: b2) = mrgL lt a b := by
          rw [← hM, mrgL, if_neg (by rw [hlt]; decide), List.append_assoc]; rfl
        have hl1 : (out ++ [(x, n)]).length = out.length + 1 := List.length_append
        have hl2 : ((y, m) :: b2).length = b2.length + 1 := rfl
        have hl3 : ((x, n) :: a2).length = a2.length + 1 := rfl
        (repeat (first | ((with_reducible apply hs_nilS); kernel_rfl) | ((with_reducible apply rwp_draw (id := 3) [0,1,2,3,4,5,6,7]); kernel_rfl; kernel_rfl; exact rfl) | ((with_reducible apply rwp_draw (id := 4) [0,1,2,3,6,7,4,5,8,9]); kernel_rfl; kernel_rfl; exact rfl) | ((with_reducible apply rwp_draw (id := 5) [0,1,2,3,6,7,4,5,8,9]); kernel_rfl; kernel_rfl; exact rfl) | ((with_reducible apply rwp_seq)) | ((with_reducible apply rthen_normal)) | ((with_reducible apply rwp_region)) | ((with_reducible apply hs_nil)) | ((with_reducible apply rwp_ret)) | ((with_reducible apply rwp_skip)) | ((with_reducible apply rthen_ret)) | ((with_reducible apply rwp_block)) | ((with_reducible apply rblock_normal)) | ((with_reducible apply rblock_ret)) | ((with_reducible apply rblock_same)) | ((with_reducible apply rwp_exit)) | ((with_reducible apply rthen_exit)) | ((with_reducible apply rblock_ne); exact rfl) | ((with_reducible apply rwp_cond_1); exact rfl; (first | assumption | exact decide_eq_true (by omega) | (simp only [Bool.not_eq_true', decide_eq_false_iff_not, decide_eq_true_eq, Bool.not_eq_false']; omega) | exact rfl)) | ((with_reducible apply rwp_cond_0); exact rfl; (first | assumption | exact decide_eq_false (by omega) | (simp only [Bool.not_eq_true', decide_eq_false_iff_not, decide_eq_true_eq, Bool.not_eq_false']; omega) | exact rfl)) | ((with_reducible apply hs_c); (repeat (first | ((with_reducible apply al_q); exact rfl) | ((with_reducible apply al_loadP1); (iterate 5 exact rfl)) | ((with_reducible apply al_loadPN); (iterate 5 exact rfl)) | ((with_reducible apply al_idxS); (iterate 3 exact rfl); (first | decide | omega); (first | decide | omega); (first | assumption | rfl); exact rfl) | ((with_reducible apply al_idx); (iterate 3 exact rfl); omega; omega; exact rfl) | ((with_reducible apply al_add); (iterate 3 exact rfl); (first | exact i64_wrap (by omega) | assumption | rfl); exact rfl) | ((with_reducible apply al_len); (iterate 3 exact rfl)) | ((with_reducible apply al_sl_l); (iterate 3 exact rfl); (first | assumption | omega); (first | assumption | omega); (first | assumption | rfl); (first | assumption | rfl); exact rfl) | ((with_reducible apply al_sl_h); (iterate 3 exact rfl); (first | assumption | omega); (first | assumption | omega); (first | assumption | rfl); (first | assumption | rfl); exact rfl) | ((with_reducible apply al_sl_lh); (iterate 4 exact rfl); (first | assumption | omega); (first | assumption | omega); (first | assumption | omega); (first | assumption | rfl); (first | assumption | rfl); exact rfl) | ((with_reducible apply al_sl_hm); (iterate 4 exact rfl); (first | assumption | omega); (first | assumption | omega); (first | assumption | omega); (first | assumption | rfl); (first | assumption | rfl); exact rfl) | ((with_reducible apply al_sl_lhm); (iterate 5 exact rfl); (first | assumption | omega); (first | assumption | omega); (first | assumption | omega); (first | assumption | omega); (first | assumption | rfl); (first | assumption | rfl); exact rfl) | ((with_reducible apply al_bslice); (iterate 10 exact rfl)) | (refine al_call2 rfl rfl rfl rfl (by (first | exact C1)) rfl ?_) | (refine al_callb (bs := [_]) (args := [_, _]) rfl rfl rfl rfl (by (first | exact C1)) rfl ?_) | (refine al_callF (args := [_, _]) rfl rfl rfl (by (first | exact C1)) rfl ?_) | ((with_reducible apply al_guard_b (c := true)); exact rfl; exact rfl; (first | assumption | exact decide_eq_true (by omega) | (simp only [Bool.not_eq_true', decide_eq_false_iff_not, decide_eq_true_eq, Bool.not_eq_false']; omega))) | ((with_reducible apply al_guard_b (c := false)); exact rfl; exact rfl; (first | assumption | exact decide_eq_false (by omega) | (simp only [Bool.not_eq_true', decide_eq_false_iff_not, decide_eq_true_eq, Bool.not_eq_false']; omega))) | ((with_reducible apply al_bin); (iterate 5 exact rfl); (intro W; go_simp; try rfl); (intro W; go_simp; try rfl); exact rfl; exact rfl))); (with_reducible apply al_nil)) | ((with_reducible apply hs_len 0); (iterate 3 exact rfl); kernel_rfl; exact rfl) | ((with_reducible apply hs_idx 0); (iterate 4 exact rfl); (first | omega); (first | assumption | omega); exact rfl; kernel_rfl; exact rfl) | ((with_reducible apply hs_loadN 0); (iterate 3 exact rfl); (first | assumption | omega); assumption; exact rfl; kernel_rfl; exact rfl) | ((with_reducible apply hs_load1 0); (iterate 3 exact rfl); (first | assumption | omega); assumption; exact rfl; kernel_rfl; exact rfl)))
        refine hs_app0 0 rfl rfl rfl rfl ?q1 ?q2 rfl rfl (fun v' hv' => ?_)
        case q1 => exact le_maxLen (by show out.length + 1 ≤ 1000000; omega)
        case q2 => show (out.length + 1) * 8 ≤ 140737488355328; omega
        (repeat (first | ((with_reducible apply hs_nilS); kernel_rfl) | ((with_reducible apply rwp_draw (id := 3) [0,1,2,3,4,5,6,7]); kernel_rfl; kernel_rfl; exact rfl) | ((with_reducible apply rwp_draw (id := 4) [0,1,2,3,6,7,4,5,8,9]); kernel_rfl; kernel_rfl; exact rfl) | ((with_reducible apply rwp_draw (id := 5) [0,1,2,3,6,7,4,5,8,9]); kernel_rfl; kernel_rfl; exact rfl) | ((with_reducible apply rwp_seq)) | ((with_reducible apply rthen_normal)) | ((with_reducible apply rwp_region)) | ((with_reducible apply hs_nil)) | ((with_reducible apply rwp_ret)) | ((with_reducible apply rwp_skip)) | ((with_reducible apply rthen_ret)) | ((with_reducible apply rwp_block)) | ((with_reducible apply rblock_normal)) | ((with_reducible apply rblock_ret)) | ((with_reducible apply rblock_same)) | ((with_reducible apply rwp_exit)) | ((with_reducible apply rthen_exit)) | ((with_reducible apply rblock_ne); exact rfl) | ((with_reducible apply rwp_cond_1); exact rfl; (first | assumption | exact decide_eq_true (by omega) | (simp only [Bool.not_eq_true', decide_eq_false_iff_not, decide_eq_true_eq, Bool.not_eq_false']; omega) | exact rfl)) | ((with_reducible apply rwp_cond_0); exact rfl; (first | assumption | exact decide_eq_false (by omega) | (simp only [Bool.not_eq_true', decide_eq_false_iff_not, decide_eq_true_eq, Bool.not_eq_false']; omega) | exact rfl)) | ((with_reducible apply hs_c); (repeat (first | ((with_reducible apply al_q); exact rfl) | ((with_reducible apply al_loadP1); (iterate 5 exact rfl)) | ((with_reducible apply al_loadPN); (iterate 5 exact rfl)) | ((with_reducible apply al_idxS); (iterate 3 exact rfl); (first | decide | omega); (first | decide | omega); (first | assumption | rfl); exact rfl) | ((with_reducible apply al_idx); (iterate 3 exact rfl); omega; omega; exact rfl) | ((with_reducible apply al_add); (iterate 3 exact rfl); (first | exact i64_wrap (by omega) | assumption | rfl); exact rfl) | ((with_reducible apply al_len); (iterate 3 exact rfl)) | ((with_reducible apply al_sl_l); (iterate 3 exact rfl); (first | assumption | omega); (first | assumption | omega); (first | assumption | rfl); (first | assumption | rfl); exact rfl) | ((with_reducible apply al_sl_h); (iterate 3 exact rfl); (first | assumption | omega); (first | assumption | omega); (first | assumption | rfl); (first | assumption | rfl); exact rfl) | ((with_reducible apply al_sl_lh); (iterate 4 exact rfl); (first | assumption | omega); (first | assumption | omega); (first | assumption | omega); (first | assumption | rfl); (first | assumption | rfl); exact rfl) | ((with_reducible apply al_sl_hm); (iterate 4 exact rfl); (first | assumption | omega); (first | assumption | omega); (first | assumption | omega); (first | assumption | rfl); (first | assumption | rfl); exact rfl) | ((with_reducible apply al_sl_lhm); (iterate 5 exact rfl); (first | assumption | omega); (first | assumption | omega); (first | assumption | omega); (first | assumption | omega); (first | assumption | rfl); (first | assumption | rfl); exact rfl) | ((with_reducible apply al_bslice); (iterate 10 exact rfl)) | (refine al_call2 rfl rfl rfl rfl (by fail) rfl ?_) | (refine al_callb (bs := [_]) (args := [_, _]) rfl rfl rfl rfl (by fail) rfl ?_) | (refine al_callF (args := [_, _]) rfl rfl rfl (by fail) rfl ?_) | ((with_reducible apply al_guard_b (c := true)); exact rfl; exact rfl; (first | assumption | exact decide_eq_true (by omega) | (simp only [Bool.not_eq_true', decide_eq_false_iff_not, decide_eq_true_eq, Bool.not_eq_false']; omega))) | ((with_reducible apply al_guard_b (c := false)); exact rfl; exact rfl; (first | assumption | exact decide_eq_false (by omega) | (simp only [Bool.not_eq_true', decide_eq_false_iff_not, decide_eq_true_eq, Bool.not_eq_false']; omega))) | ((with_reducible apply al_bin); (iterate 5 exact rfl); (intro W; go_simp; try rfl); (intro W; go_simp; try rfl); exact rfl; exact rfl))); (with_reducible apply al_nil)) | ((with_reducible apply hs_len 0); (iterate 3 exact rfl); kernel_rfl; exact rfl) | ((with_reducible apply hs_idx 0); (iterate 4 exact rfl); (first | omega); (first | assumption | omega); exact rfl; kernel_rfl; exact rfl) | ((with_reducible apply hs_loadN 0); (iterate 3 exact rfl); (first | assumption | omega); assumption; exact rfl; kernel_rfl; exact rfl) | ((with_reducible apply hs_load1 0); (iterate 3 exact rfl); (first | assumption | omega); assumption; exact rfl; kernel_rfl; exact rfl)))
        have e3 : okRow v' (out ++ [(x, n)]) = ⟨3, 1, v', out.length + 1, ikC out ++ [.c (.int .i64 x)]⟩ := by
          unfold okRow; rw [← ikC_one, List.length_append]; rfl
        refine ⟨_, row1 0 (okRow v' (out ++ [(x, n)])), _, _, ?_, ⟨a2, (y, m) :: b2, out ++ [(x, n)], v', rfl, hM', ?_, rfl, rfl, rfl⟩, by rw [e3]; exact row1_le _ _ _, rfl, ⟨rfl, rfl, rfl, rfl, trivial⟩, trivial, rfl⟩
        · omega
        · omega
    · have qa' : (a'.length : Int) > 0 := by omega
      have qb' : ¬ (b'.length : Int) > 0 := by omega
      have hb0 : b' = [] := List.length_eq_zero_iff.1 (by omega)
      have hz : (a'.length : Int) = a'.length := rfl
      (repeat (first | ((with_reducible apply hs_nilS); kernel_rfl) | ((with_reducible apply rwp_draw (id := 3) [0,1,2,3,4,5,6,7]); kernel_rfl; kernel_rfl; exact rfl) | ((with_reducible apply rwp_draw (id := 4) [0,1,2,3,6,7,4,5,8,9]); kernel_rfl; kernel_rfl; exact rfl) | ((with_reducible apply rwp_draw (id := 5) [0,1,2,3,6,7,4,5,8,9]); kernel_rfl; kernel_rfl; exact rfl) | ((with_reducible apply rwp_seq)) | ((with_reducible apply rthen_normal)) | ((with_reducible apply rwp_region)) | ((with_reducible apply hs_nil)) | ((with_reducible apply rwp_ret)) | ((with_reducible apply rwp_skip)) | ((with_reducible apply rthen_ret)) | ((with_reducible apply rwp_block)) | ((with_reducible apply rblock_normal)) | ((with_reducible apply rblock_ret)) | ((with_reducible apply rblock_same)) | ((with_reducible apply rwp_exit)) | ((with_reducible apply rthen_exit)) | ((with_reducible apply rblock_ne); exact rfl) | ((with_reducible apply rwp_cond_1); exact rfl; (first | assumption | exact decide_eq_true (by omega) | (simp only [Bool.not_eq_true', decide_eq_false_iff_not, decide_eq_true_eq, Bool.not_eq_false']; omega) | exact rfl)) | ((with_reducible apply rwp_cond_0); exact rfl; (first | assumption | exact decide_eq_false (by omega) | (simp only [Bool.not_eq_true', decide_eq_false_iff_not, decide_eq_true_eq, Bool.not_eq_false']; omega) | exact rfl)) | ((with_reducible apply hs_c); (repeat (first | ((with_reducible apply al_q); exact rfl) | ((with_reducible apply al_loadP1); (iterate 5 exact rfl)) | ((with_reducible apply al_loadPN); (iterate 5 exact rfl)) | ((with_reducible apply al_idxS); (iterate 3 exact rfl); (first | decide | omega); (first | decide | omega); (first | assumption | rfl); exact rfl) | ((with_reducible apply al_idx); (iterate 3 exact rfl); omega; omega; exact rfl) | ((with_reducible apply al_add); (iterate 3 exact rfl); (first | exact i64_wrap (by omega) | assumption | rfl); exact rfl) | ((with_reducible apply al_len); (iterate 3 exact rfl)) | ((with_reducible apply al_sl_l); (iterate 3 exact rfl); (first | assumption | omega); (first | assumption | omega); (first | assumption | rfl); (first | assumption | rfl); exact rfl) | ((with_reducible apply al_sl_h); (iterate 3 exact rfl); (first | assumption | omega); (first | assumption | omega); (first | assumption | rfl); (first | assumption | rfl); exact rfl) | ((with_reducible apply al_sl_lh); (iterate 4 exact rfl); (first | assumption | omega); (first | assumption | omega); (first | assumption | omega); (first | assumption | rfl); (first | assumption | rfl); exact rfl) | ((with_reducible apply al_sl_hm); (iterate 4 exact rfl); (first | assumption | omega); (first | assumption | omega); (first | assumption | omega); (first | assumption | rfl); (first | assumption | rfl); exact rfl) | ((with_reducible apply al_sl_lhm); (iterate 5 exact rfl); (first | assumption | omega); (first | assumption | omega); (first | assumption | omega); (first | assumption | omega); (first | assumption | rfl); (first | assumption | rfl); exact rfl) | ((with_reducible apply al_bslice); (iterate 10 exact rfl)) | (refine al_call2 rfl rfl rfl rfl (by fail) rfl ?_) | (refine al_callb (bs := [_]) (args := [_, _]) rfl rfl rfl rfl (by fail) rfl ?_) | (refine al_callF (args := [_, _]) rfl rfl rfl (by fail) rfl ?_) | ((with_reducible apply al_guard_b (c := true)); exact rfl; exact rfl; (first | assumption | exact decide_eq_true (by omega) | (simp only [Bool.not_eq_true', decide_eq_false_iff_not, decide_eq_true_eq, Bool.not_eq_false']; omega))) | ((with_reducible apply al_guard_b (c := false)); exact rfl; exact rfl; (first | assumption | exact decide_eq_false (by omega) | (simp only [Bool.not_eq_true', decide_eq_false_iff_not, decide_eq_true_eq, Bool.not_eq_false']; omega))) | ((with_reducible apply al_bin); (iterate 5 exact rfl); (intro W; go_simp; try rfl); (intro W; go_simp; try rfl); exact rfl; exact rfl))); (with_reducible apply al_nil)) | ((with_reducible apply hs_len 0); (iterate 3 exact rfl); kernel_rfl; exact rfl) | ((with_reducible apply hs_idx 0); (iterate 4 exact rfl); (first | omega); (first | assumption | omega); exact rfl; kernel_rfl; exact rfl) | ((with_reducible apply hs_loadN 0); (iterate 3 exact rfl); (first | assumption | omega); assumption; exact rfl; kernel_rfl; exact rfl) | ((with_reducible apply hs_load1 0); (iterate 3 exact rfl); (first | assumption | omega); assumption; exact rfl; kernel_rfl; exact rfl)))
      refine hs_app0 0 rfl rfl rfl rfl ?q1 ?q2 (ikC_closed _) rfl (fun v' hv' => ?_)
      case q1 => exact le_maxLen (by show out.length + a'.length ≤ 1000000; omega)
      case q2 => show (out.length + a'.length) * 8 ≤ 140737488355328; omega
      (repeat (first | ((with_reducible apply hs_nilS); kernel_rfl) | ((with_reducible apply rwp_draw (id := 3) [0,1,2,3,4,5,6,7]); kernel_rfl; kernel_rfl; exact rfl) | ((with_reducible apply rwp_draw (id := 4) [0,1,2,3,6,7,4,5,8,9]); kernel_rfl; kernel_rfl; exact rfl) | ((with_reducible apply rwp_draw (id := 5) [0,1,2,3,6,7,4,5,8,9]); kernel_rfl; kernel_rfl; exact rfl) | ((with_reducible apply rwp_seq)) | ((with_reducible apply rthen_normal)) | ((with_reducible apply rwp_region)) | ((with_reducible apply hs_nil)) | ((with_reducible apply rwp_ret)) | ((with_reducible apply rwp_skip)) | ((with_reducible apply rthen_ret)) | ((with_reducible apply rwp_block)) | ((with_reducible apply rblock_normal)) | ((with_reducible apply rblock_ret)) | ((with_reducible apply rblock_same)) | ((with_reducible apply rwp_exit)) | ((with_reducible apply rthen_exit)) | ((with_reducible apply rblock_ne); exact rfl) | ((with_reducible apply rwp_cond_1); exact rfl; (first | assumption | exact decide_eq_true (by omega) | (simp only [Bool.not_eq_true', decide_eq_false_iff_not, decide_eq_true_eq, Bool.not_eq_false']; omega) | exact rfl)) | ((with_reducible apply rwp_cond_0); exact rfl; (first | assumption | exact decide_eq_false (by omega) | (simp only [Bool.not_eq_true', decide_eq_false_iff_not, decide_eq_true_eq, Bool.not_eq_false']; omega) | exact rfl)) | ((with_reducible apply hs_c); (repeat (first | ((with_reducible apply al_q); exact rfl) | ((with_reducible apply al_loadP1); (iterate 5 exact rfl)) | ((with_reducible apply al_loadPN); (iterate 5 exact rfl)) | ((with_reducible apply al_idxS); (iterate 3 exact rfl); (first | decide | omega); (first | decide | omega); (first | assumption | rfl); exact rfl) | ((with_reducible apply al_idx); (iterate 3 exact rfl); omega; omega; exact rfl) | ((with_reducible apply al_add); (iterate 3 exact rfl); (first | exact i64_wrap (by omega) | assumption | rfl); exact rfl) | ((with_reducible apply al_len); (iterate 3 exact rfl)) | ((with_reducible apply al_sl_l); (iterate 3 exact rfl); (first | assumption | omega); (first | assumption | omega); (first | assumption | rfl); (first | assumption | rfl); exact rfl) | ((with_reducible apply al_sl_h); (iterate 3 exact rfl); (first | assumption | omega); (first | assumption | omega); (first | assumption | rfl); (first | assumption | rfl); exact rfl) | ((with_reducible apply al_sl_lh); (iterate 4 exact rfl); (first | assumption | omega); (first | assumption | omega); (first | assumption | omega); (first | assumption | rfl); (first | assumption | rfl); exact rfl) | ((with_reducible apply al_sl_hm); (iterate 4 exact rfl); (first | assumption | omega); (first | assumption | omega); (first | assumption | omega); (first | assumption | rfl); (first | assumption | rfl); exact rfl) | ((with_reducible apply al_sl_lhm); (iterate 5 exact rfl); (first | assumption | omega); (first | assumption | omega); (first | assumption | omega); (first | assumption | omega); (first | assumption | rfl); (first | assumption | rfl); exact rfl) | ((with_reducible apply al_bslice); (iterate 10 exact rfl)) | (refine al_call2 rfl rfl rfl rfl (by fail) rfl ?_) | (refine al_callb (bs := [_]) (args := [_, _]) rfl rfl rfl rfl (by fail) rfl ?_) | (refine al_callF (args := [_, _]) rfl rfl rfl (by fail) rfl ?_) | ((with_reducible apply al_guard_b (c := true)); exact rfl; exact rfl; (first | assumption | exact decide_eq_true (by omega) | (simp only [Bool.not_eq_true', decide_eq_false_iff_not, decide_eq_true_eq, Bool.not_eq_false']; omega))) | ((with_reducible apply al_guard_b (c := false)); exact rfl; exact rfl; (first | assumption | exact decide_eq_false (by omega) | (simp only [Bool.not_eq_true', decide_eq_false_iff_not, decide_eq_true_eq, Bool.not_eq_false']; omega))) | ((with_reducible apply al_bin); (iterate 5 exact rfl); (intro W; go_simp; try rfl); (intro W; go_simp; try rfl); exact rfl; exact rfl))); (with_reducible apply al_nil)) | ((with_reducible apply hs_len 0); (iterate 3 exact rfl); kernel_rfl; exact rfl) | ((with_reducible apply hs_idx 0); (iterate 4 exact rfl); (first | omega); (first | assumption | omega); exact rfl; kernel_rfl; exact rfl) | ((with_reducible apply hs_loadN 0); (iterate 3 exact rfl); (first | assumption | omega); assumption; exact rfl; kernel_rfl; exact rfl) | ((with_reducible apply hs_load1 0); (iterate 3 exact rfl); (first | assumption | omega); assumption; exact rfl; kernel_rfl; exact rfl)))
      refine hs_appC (k := (mrgL lt a b).length) (zs := ikC (mrgL lt a b)) 0 rfl rfl rfl rfl ?p1 ?p2 ?p3 ?p4 (ikC_closed _) rfl ?_
      case p1 => exact le_maxLen (by show (out.length + a'.length) + b'.length ≤ 1000000; omega)
      case p2 => show ((out.length + a'.length) + b'.length) * 8 ≤ 140737488355328; omega
      case p3 => show (out.length + a'.length) + b'.length = (mrgL lt a b).length; rw [mrgL_len]; omega
      case p4 => show (ikC out ++ ikC a') ++ ikC b' = ikC (mrgL lt a b); rw [← hM, hb0, mrgL_nil, ← ikC_append, ikC_nil, List.append_nil]
      (repeat (first | ((with_reducible apply hs_nilS); kernel_rfl) | ((with_reducible apply rwp_draw (id := 3) [0,1,2,3,4,5,6,7]); kernel_rfl; kernel_rfl; exact rfl) | ((with_reducible apply rwp_draw (id := 4) [0,1,2,3,6,7,4,5,8,9]); kernel_rfl; kernel_rfl; exact rfl) | ((with_reducible apply rwp_draw (id := 5) [0,1,2,3,6,7,4,5,8,9]); kernel_rfl; kernel_rfl; exact rfl) | ((with_reducible apply rwp_seq)) | ((with_reducible apply rthen_normal)) | ((with_reducible apply rwp_region)) | ((with_reducible apply hs_nil)) | ((with_reducible apply rwp_ret)) | ((with_reducible apply rwp_skip)) | ((with_reducible apply rthen_ret)) | ((with_reducible apply rwp_block)) | ((with_reducible apply rblock_normal)) | ((with_reducible apply rblock_ret)) | ((with_reducible apply rblock_same)) | ((with_reducible apply rwp_exit)) | ((with_reducible apply rthen_exit)) | ((with_reducible apply rblock_ne); exact rfl) | ((with_reducible apply rwp_cond_1); exact rfl; (first | assumption | exact decide_eq_true (by omega) | (simp only [Bool.not_eq_true', decide_eq_false_iff_not, decide_eq_true_eq, Bool.not_eq_false']; omega) | exact rfl)) | ((with_reducible apply rwp_cond_0); exact rfl; (first | assumption | exact decide_eq_false (by omega) | (simp only [Bool.not_eq_true', decide_eq_false_iff_not, decide_eq_true_eq, Bool.not_eq_false']; omega) | exact rfl)) | ((with_reducible apply hs_c); (repeat (first | ((with_reducible apply al_q); exact rfl) | ((with_reducible apply al_loadP1); (iterate 5 exact rfl)) | ((with_reducible apply al_loadPN); (iterate 5 exact rfl)) | ((with_reducible apply al_idxS); (iterate 3 exact rfl); (first | decide | omega); (first | decide | omega); (first | assumption | rfl); exact rfl) | ((with_reducible apply al_idx); (iterate 3 exact rfl); omega; omega; exact rfl) | ((with_reducible apply al_add); (iterate 3 exact rfl); (first | exact i64_wrap (by omega) | assumption | rfl); exact rfl) | ((with_reducible apply al_len); (iterate 3 exact rfl)) | ((with_reducible apply al_sl_l); (iterate 3 exact rfl); (first | assumption | omega); (first | assumption | omega); (first | assumption | rfl); (first | assumption | rfl); exact rfl) | ((with_reducible apply al_sl_h); (iterate 3 exact rfl); (first | assumption | omega); (first | assumption | omega); (first | assumption | rfl); (first | assumption | rfl); exact rfl) | ((with_reducible apply al_sl_lh); (iterate 4 exact rfl); (first | assumption | omega); (first | assumption | omega); (first | assumption | omega); (first | assumption | rfl); (first | assumption | rfl); exact rfl) | ((with_reducible apply al_sl_hm); (iterate 4 exact rfl); (first | assumption | omega); (first | assumption | omega); (first | assumption | omega); (first | assumption | rfl); (first | assumption | rfl); exact rfl) | ((with_reducible apply al_sl_lhm); (iterate 5 exact rfl); (first | assumption | omega); (first | assumption | omega); (first | assumption | omega); (first | assumption | omega); (first | assumption | rfl); (first | assumption | rfl); exact rfl) | ((with_reducible apply al_bslice); (iterate 10 exact rfl)) | (refine al_call2 rfl rfl rfl rfl (by fail) rfl ?_) | (refine al_callb (bs := [_]) (args := [_, _]) rfl rfl rfl rfl (by fail) rfl ?_) | (refine al_callF (args := [_, _]) rfl rfl rfl (by fail) rfl ?_) | ((with_reducible apply al_guard_b (c := true)); exact rfl; exact rfl; (first | assumption | exact decide_eq_true (by omega) | (simp only [Bool.not_eq_true', decide_eq_false_iff_not, decide_eq_true_eq, Bool.not_eq_false']; omega))) | ((with_reducible apply al_guard_b (c := false)); exact rfl; exact rfl; (first | assumption | exact decide_eq_false (by omega) | (simp only [Bool.not_eq_true', decide_eq_false_iff_not, decide_eq_true_eq, Bool.not_eq_false']; omega))) | ((with_reducible apply al_bin); (iterate 5 exact rfl); (intro W; go_simp; try rfl); (intro W; go_simp; try rfl); exact rfl; exact rfl))); (with_reducible apply al_nil)) | ((with_reducible apply hs_len 0); (iterate 3 exact rfl); kernel_rfl; exact rfl) | ((with_reducible apply hs_idx 0); (iterate 4 exact rfl); (first | omega); (first | assumption | omega); exact rfl; kernel_rfl; exact rfl) | ((with_reducible apply hs_loadN 0); (iterate 3 exact rfl); (first | assumption | omega); assumption; exact rfl; kernel_rfl; exact rfl) | ((with_reducible apply hs_load1 0); (iterate 3 exact rfl); (first | assumption | omega); assumption; exact rfl; kernel_rfl; exact rfl)))
      (first | (refine apost_ret rfl (resl_tmp rfl resl_nil) ?_))
      exact AV.Le.refl _
  · have qa' : ¬ (a'.length : Int) > 0 := by omega
    have ha0 : a' = [] := List.length_eq_zero_iff.1 (by omega)
    (repeat (first | ((with_reducible apply hs_nilS); kernel_rfl) | ((with_reducible apply rwp_draw (id := 3) [0,1,2,3,4,5,6,7]); kernel_rfl; kernel_rfl; exact rfl) | ((with_reducible apply rwp_draw (id := 4) [0,1,2,3,6,7,4,5,8,9]); kernel_rfl; kernel_rfl; exact rfl) | ((with_reducible apply rwp_draw (id := 5) [0,1,2,3,6,7,4,5,8,9]); kernel_rfl; kernel_rfl; exact rfl) | ((with_reducible apply rwp_seq)) | ((with_reducible apply rthen_normal)) | ((with_reducible apply rwp_region)) | ((with_reducible apply hs_nil)) | ((with_reducible apply rwp_ret)) | ((with_reducible apply rwp_skip)) | ((with_reducible apply rthen_ret)) | ((with_reducible apply rwp_block)) | ((with_reducible apply rblock_normal)) | ((with_reducible apply rblock_ret)) | ((with_reducible apply rblock_same)) | ((with_reducible apply rwp_exit)) | ((with_reducible apply rthen_exit)) | ((with_reducible apply rblock_ne); exact rfl) | ((with_reducible apply rwp_cond_1); exact rfl; (first | assumption | exact decide_eq_true (by omega) | (simp only [Bool.not_eq_true', decide_eq_false_iff_not, decide_eq_true_eq, Bool.not_eq_false']; omega) | exact rfl)) | ((with_reducible apply rwp_cond_0); exact rfl; (first | assumption | exact decide_eq_false (by omega) | (simp only [Bool.not_eq_true', decide_eq_false_iff_not, decide_eq_true_eq, Bool.not_eq_false']; omega) | exact rfl)) | ((with_reducible apply hs_c); (repeat (first | ((with_reducible apply al_q); exact rfl) | ((with_reducible apply al_loadP1); (iterate 5 exact rfl)) | ((with_reducible apply al_loadPN); (iterate 5 exact rfl)) | ((with_reducible apply al_idxS); (iterate 3 exact rfl); (first | decide | omega); (first | decide | omega); (first | assumption | rfl); exact rfl) | ((with_reducible apply al_idx); (iterate 3 exact rfl); omega; omega; exact rfl) | ((with_reducible apply al_add); (iterate 3 exact rfl); (first | exact i64_wrap (by omega) | assumption | rfl); exact rfl) | ((with_reducible apply al_len); (iterate 3 exact rfl)) | ((with_reducible apply al_sl_l); (iterate 3 exact rfl); (first | assumption | omega); (first | assumption | omega); (first | assumption | rfl); (first | assumption | rfl); exact rfl) | ((with_reducible apply al_sl_h); (iterate 3 exact rfl); (first | assumption | omega); (first | assumption | omega); (first | assumption | rfl); (first | assumption | rfl); exact rfl) | ((with_reducible apply al_sl_lh); (iterate 4 exact rfl); (first | assumption | omega); (first | assumption | omega); (first | assumption | omega); (first | assumption | rfl); (first | assumption | rfl); exact rfl) | ((with_reducible apply al_sl_hm); (iterate 4 exact rfl); (first | assumption | omega); (first | assumption | omega); (first | assumption | omega); (first | assumption | rfl); (first | assumption | rfl); exact rfl) | ((with_reducible apply al_sl_lhm); (iterate 5 exact rfl); (first | assumption | omega); (first | assumption | omega); (first | assumption | omega); (first | assumption | omega); (first | assumption | rfl); (first | assumption | rfl); exact rfl) | ((with_reducible apply al_bslice); (iterate 10 exact rfl)) | (refine al_call2 rfl rfl rfl rfl (by fail) rfl ?_) | (refine al_callb (bs := [_]) (args := [_, _]) rfl rfl rfl rfl (by fail) rfl ?_) | (refine al_callF (args := [_, _]) rfl rfl rfl (by fail) rfl ?_) | ((with_reducible apply al_guard_b (c := true)); exact rfl; exact rfl; (first | assumption | exact decide_eq_true (by omega) | (simp only [Bool.not_eq_true', decide_eq_false_iff_not, decide_eq_true_eq, Bool.not_eq_false']; omega))) | ((with_reducible apply al_guard_b (c := false)); exact rfl; exact rfl; (first | assumption | exact decide_eq_false (by omega) | (simp only [Bool.not_eq_true', decide_eq_false_iff_not, decide_eq_true_eq, Bool.not_eq_false']; omega))) | ((with_reducible apply al_bin); (iterate 5 exact rfl); (intro W; go_simp; try rfl); (intro W; go_simp; try rfl); exact rfl; exact rfl))); (with_reducible apply al_nil)) | ((with_reducible apply hs_len 0); (iterate 3 exact rfl); kernel_rfl; exact rfl) | ((with_reducible apply hs_idx 0); (iterate 4 exact rfl); (first | omega); (first | assumption | omega); exact rfl; kernel_rfl; exact rfl) | ((with_reducible apply hs_loadN 0); (iterate 3 exact rfl); (first | assumption | omega); assumption; exact rfl; kernel_rfl; exact rfl) | ((with_reducible apply hs_load1 0); (iterate 3 exact rfl); (first | assumption | omega); assumption; exact rfl; kernel_rfl; exact rfl)))
    refine hs_app0 0 rfl rfl rfl rfl ?q1 ?q2 (ikC_closed _) rfl (fun v' hv' => ?_)
    case q1 => exact le_maxLen (by show out.length + a'.length ≤ 1000000; omega)
    case q2 => show (out.length + a'.length) * 8 ≤ 140737488355328; omega
    (repeat (first | ((with_reducible apply hs_nilS); kernel_rfl) | ((with_reducible apply rwp_draw (id := 3) [0,1,2,3,4,5,6,7]); kernel_rfl; kernel_rfl; exact rfl) | ((with_reducible apply rwp_draw (id := 4) [0,1,2,3,6,7,4,5,8,9]); kernel_rfl; kernel_rfl; exact rfl) | ((with_reducible apply rwp_draw (id := 5) [0,1,2,3,6,7,4,5,8,9]); kernel_rfl; kernel_rfl; exact rfl) | ((with_reducible apply rwp_seq)) | ((with_reducible apply rthen_normal)) | ((with_reducible apply rwp_region)) | ((with_reducible apply hs_nil)) | ((with_reducible apply rwp_ret)) | ((with_reducible apply rwp_skip)) | ((with_reducible apply rthen_ret)) | ((with_reducible apply rwp_block)) | ((with_reducible apply rblock_normal)) | ((with_reducible apply rblock_ret)) | ((with_reducible apply rblock_same)) | ((with_reducible apply rwp_exit)) | ((with_reducible apply rthen_exit)) | ((with_reducible apply rblock_ne); exact rfl) | ((with_reducible apply rwp_cond_1); exact rfl; (first | assumption | exact decide_eq_true (by omega) | (simp only [Bool.not_eq_true', decide_eq_false_iff_not, decide_eq_true_eq, Bool.not_eq_false']; omega) | exact rfl)) | ((with_reducible apply rwp_cond_0); exact rfl; (first | assumption | exact decide_eq_false (by omega) | (simp only [Bool.not_eq_true', decide_eq_false_iff_not, decide_eq_true_eq, Bool.not_eq_false']; omega) | exact rfl)) | ((with_reducible apply hs_c); (repeat (first | ((with_reducible apply al_q); exact rfl) | ((with_reducible apply al_loadP1); (iterate 5 exact rfl)) | ((with_reducible apply al_loadPN); (iterate 5 exact rfl)) | ((with_reducible apply al_idxS); (iterate 3 exact rfl); (first | decide | omega); (first | decide | omega); (first | assumption | rfl); exact rfl) | ((with_reducible apply al_idx); (iterate 3 exact rfl); omega; omega; exact rfl) | ((with_reducible apply al_add); (iterate 3 exact rfl); (first | exact i64_wrap (by omega) | assumption | rfl); exact rfl) | ((with_reducible apply al_len); (iterate 3 exact rfl)) | ((with_reducible apply al_sl_l); (iterate 3 exact rfl); (first | assumption | omega); (first | assumption | omega); (first | assumption | rfl); (first | assumption | rfl); exact rfl) | ((with_reducible apply al_sl_h); (iterate 3 exact rfl); (first | assumption | omega); (first | assumption | omega); (first | assumption | rfl); (first | assumption | rfl); exact rfl) | ((with_reducible apply al_sl_lh); (iterate 4 exact rfl); (first | assumption | omega); (first | assumption | omega); (first | assumption | omega); (first | assumption | rfl); (first | assumption | rfl); exact rfl) | ((with_reducible apply al_sl_hm); (iterate 4 exact rfl); (first | assumption | omega); (first | assumption | omega); (first | assumption | omega); (first | assumption | rfl); (first | assumption | rfl); exact rfl) | ((with_reducible apply al_sl_lhm); (iterate 5 exact rfl); (first | assumption | omega); (first | assumption | omega); (first | assumption | omega); (first | assumption | omega); (first | assumption | rfl); (first | assumption | rfl); exact rfl) | ((with_reducible apply al_bslice); (iterate 10 exact rfl)) | (refine al_call2 rfl rfl rfl rfl (by fail) rfl ?_) | (refine al_callb (bs := [_]) (args := [_, _]) rfl rfl rfl rfl (by fail) rfl ?_) | (refine al_callF (args := [_, _]) rfl rfl rfl (by fail) rfl ?_) | ((with_reducible apply al_guard_b (c := true)); exact rfl; exact rfl; (first | assumption | exact decide_eq_true (by omega) | (simp only [Bool.not_eq_true', decide_eq_false_iff_not, decide_eq_true_eq, Bool.not_eq_false']; omega))) | ((with_reducible apply al_guard_b (c := false)); exact rfl; exact rfl; (first | assumption | exact decide_eq_false (by omega) | (simp only [Bool.not_eq_true', decide_eq_false_iff_not, decide_eq_true_eq, Bool.not_eq_false']; omega))) | ((with_reducible apply al_bin); (iterate 5 exact rfl); (intro W; go_simp; try rfl); (intro W; go_simp; try rfl); exact rfl; exact rfl))); (with_reducible apply al_nil)) | ((with_reducible apply hs_len 0); (iterate 3 exact rfl); kernel_rfl; exact rfl) | ((with_reducible apply hs_idx 0); (iterate 4 exact rfl); (first | omega); (first | assumption | omega); exact rfl; kernel_rfl; exact rfl) | ((with_reducible apply hs_loadN 0); (iterate 3 exact rfl); (first | assumption | omega); assumption; exact rfl; kernel_rfl; exact rfl) | ((with_reducible apply hs_load1 0); (iterate 3 exact rfl); (first | assumption | omega); assumption; exact rfl; kernel_rfl; exact rfl)))
    refine hs_appC (k := (mrgL lt a b).length) (zs := ikC (mrgL lt a b)) 0 rfl rfl rfl rfl ?p1 ?p2 ?p3 ?p4 (ikC_closed _) rfl ?_
    case p1 => exact le_maxLen (by show (out.length + a'.length) + b'.length ≤ 1000000; omega)
    case p2 => show ((out.length + a'.length) + b'.length) * 8 ≤ 140737488355328; omega
    case p3 => show (out.length + a'.length) + b'.length = (mrgL lt a b).length; rw [mrgL_len]; omega
    case p4 => show (ikC out ++ ikC a') ++ ikC b' = ikC (mrgL lt a b); rw [← hM, ha0, mrgL_nil', ikC_nil, List.append_nil, ← ikC_append]
    (repeat (first | ((with_reducible apply hs_nilS); kernel_rfl) | ((with_reducible apply rwp_draw (id := 3) [0,1,2,3,4,5,6,7]); kernel_rfl; kernel_rfl; exact rfl) | ((with_reducible apply rwp_draw (id := 4) [0,1,2,3,6,7,4,5,8,9]); kernel_rfl; kernel_rfl; exact rfl) | ((with_reducible apply rwp_draw (id := 5) [0,1,2,3,6,7,4,5,8,9]); kernel_rfl; kernel_rfl; exact rfl) | ((with_reducible apply rwp_seq)) | ((with_reducible apply rthen_normal)) | ((with_reducible apply rwp_region)) | ((with_reducible apply hs_nil)) | ((with_reducible apply rwp_ret)) | ((with_reducible apply rwp_skip)) | ((with_reducible apply rthen_ret)) | ((with_reducible apply rwp_block)) | ((with_reducible apply rblock_normal)) | ((with_reducible apply rblock_ret)) | ((with_reducible apply rblock_same)) | ((with_reducible apply rwp_exit)) | ((with_reducible apply rthen_exit)) | ((with_reducible apply rblock_ne); exact rfl) | ((with_reducible apply rwp_cond_1); exact rfl; (first | assumption | exact decide_eq_true (by omega) | (simp only [Bool.not_eq_true', decide_eq_false_iff_not, decide_eq_true_eq, Bool.not_eq_false']; omega) | exact rfl)) | ((with_reducible apply rwp_cond_0); exact rfl; (first | assumption | exact decide_eq_false (by omega) | (simp only [Bool.not_eq_true', decide_eq_false_iff_not, decide_eq_true_eq, Bool.not_eq_false']; omega) | exact rfl)) | ((with_reducible apply hs_c); (repeat (first | ((with_reducible apply al_q); exact rfl) | ((with_reducible apply al_loadP1); (iterate 5 exact rfl)) | ((with_reducible apply al_loadPN); (iterate 5 exact rfl)) | ((with_reducible apply al_idxS); (iterate 3 exact rfl); (first | decide | omega); (first | decide | omega); (first | assumption | rfl); exact rfl) | ((with_reducible apply al_idx); (iterate 3 exact rfl); omega; omega; exact rfl) | ((with_reducible apply al_add); (iterate 3 exact rfl); (first | exact i64_wrap (by omega) | assumption | rfl); exact rfl) | ((with_reducible apply al_len); (iterate 3 exact rfl)) | ((with_reducible apply al_sl_l); (iterate 3 exact rfl); (first | assumption | omega); (first | assumption | omega); (first | assumption | rfl); (first | assumption | rfl); exact rfl) | ((with_reducible apply al_sl_h); (iterate 3 exact rfl); (first | assumption | omega); (first | assumption | omega); (first | assumption | rfl); (first | assumption | rfl); exact rfl) | ((with_reducible apply al_sl_lh); (iterate 4 exact rfl); (first | assumption | omega); (first | assumption | omega); (first | assumption | omega); (first | assumption | rfl); (first | assumption | rfl); exact rfl) | ((with_reducible apply al_sl_hm); (iterate 4 exact rfl); (first | assumption | omega); (first | assumption | omega); (first | assumption | omega); (first | assumption | rfl); (first | assumption | rfl); exact rfl) | ((with_reducible apply al_sl_lhm); (iterate 5 exact rfl); (first | assumption | omega); (first | assumption | omega); (first | assumption | omega); (first | assumption | omega); (first | assumption | rfl); (first | assumption | rfl); exact rfl) | ((with_reducible apply al_bslice); (iterate 10 exact rfl)) | (refine al_call2 rfl rfl rfl rfl (by fail) rfl ?_) | (refine al_callb (bs := [_]) (args := [_, _]) rfl rfl rfl rfl (by fail) rfl ?_) | (refine al_callF (args := [_, _]) rfl rfl rfl (by fail) rfl ?_) | ((with_reducible apply al_guard_b (c := true)); exact rfl; exact rfl; (first | assumption | exact decide_eq_true (by omega) | (simp only [Bool.not_eq_true', decide_eq_false_iff_not, decide_eq_true_eq, Bool.not_eq_false']; omega))) | ((with_reducible apply al_guard_b (c := false)); exact rfl; exact rfl; (first | assumption | exact decide_eq_false (by omega) | (simp only [Bool.not_eq_true', decide_eq_false_iff_not, decide_eq_true_eq, Bool.not_eq_false']; omega))) | ((with_reducible apply al_bin); (iterate 5 exact rfl); (intro W; go_simp; try rfl); (intro W; go_simp; try rfl); exact rfl; exact rfl))); (with_reducible apply al_nil)) | ((with_reducible apply hs_len 0); (iterate 3 exact rfl); kernel_rfl; exact rfl) | ((with_reducible apply hs_idx 0); (iterate 4 exact rfl); (first | omega); (first | assumption | omega); exact rfl; kernel_rfl; exact rfl) | ((with_reducible apply hs_loadN 0); (iterate 3 exact rfl); (first | assumption | omega); assumption; exact rfl; kernel_rfl; exact rfl) | ((with_reducible apply hs_load1 0); (iterate 3 exact rfl); (first | assumption | omega); assumption; exact rfl; kernel_rfl; exact rfl)))
    (first | (refine apost_ret rfl (resl_tmp rfl resl_nil) ?_))
    exact AV.Le.refl _
set_option maxRecDepth 100000 in
set_option maxHeartbeats 8000000 in
theorem p_SortK {lf : FuncId} [Enters Try.prog lf] {lt : Int × Int → Int × Int → Bool} (hL : ∀ x n y m : Int, PCall Try.prog lf [vI x, vI y] (vB (lt (x, n) (y, m)))) :
    ∀ (N : Nat) (l : List (Int × Int)), l.length ≤ N → N ≤ 100000 → PCall Try.prog 24 [vIk l, vFn lf] (vIk (srtL lt l)) := by
  intro N
  induction N with
  | zero =>
    intro l h1 h2
    have C0 := p_mergeK hL (a := l) (b := []) (by omega) (by simp)
    rw [mrgL_nil] at C0
    have C1 : PCall Try.prog 25 [vIk l, vNil, vFn lf] (vIk l) := pcall_le C0 rfl rfl (by
      intro i x y hx hy
      match i with
      | 0 => cases hx; cases hy; exact .refl _
      | 1 => cases hx; cases hy; exact nil_le 1
      | 2 => cases hx; cases hy; exact .refl _
      | i + 3 => simp at hx)
    have q1 : (l.length : Int) < 2 := by omega
    have e : srtL lt l = l := by rw [srtL, dif_pos (by omega)]
    rw [e]
    clear C0
    refine pcall_body (f := 24) Try.func24 rfl rfl rfl rfl ?_
    (repeat (first | ((with_reducible apply al_q); exact rfl) | ((with_reducible apply al_len); (iterate 3 exact rfl)) | ((with_reducible apply al_sl_l); (iterate 3 exact rfl); (first | assumption | omega); (first | assumption | omega); (first | assumption | rfl); (first | assumption | rfl); exact rfl) | ((with_reducible apply al_sl_h); (iterate 3 exact rfl); (first | assumption | omega); (first | assumption | omega); (first | assumption | rfl); (first | assumption | rfl); exact rfl) | ((with_reducible apply al_sl_lh); (iterate 4 exact rfl); (first | assumption | omega); (first | assumption | omega); (first | assumption | omega); (first | assumption | rfl); (first | assumption | rfl); exact rfl) | ((with_reducible apply al_sl_hm); (iterate 4 exact rfl); (first | assumption | omega); (first | assumption | omega); (first | assumption | omega); (first | assumption | rfl); (first | assumption | rfl); exact rfl) | ((with_reducible apply al_sl_lhm); (iterate 5 exact rfl); (first | assumption | omega); (first | assumption | omega); (first | assumption | omega); (first | assumption | omega); (first | assumption | rfl); (first | assumption | rfl); exact rfl) | ((with_reducible apply al_quoX); (iterate 4 exact rfl); assumption; (first | decide | omega); omega) | (refine al_call2 rfl rfl rfl rfl (by (first | exact C1)) rfl ?_) | (refine al_call3 rfl rfl rfl rfl rfl (by (first | exact C1)) rfl ?_) | ((with_reducible apply al_bin); (iterate 5 exact rfl); (intro W; go_simp; try rfl); (intro W; go_simp; try rfl); exact rfl; exact rfl) | ((with_reducible apply al_nilS); kernel_rfl) | ((with_reducible apply awp_region_draw); kernel_rfl; kernel_rfl; exact rfl) | ((with_reducible apply awp_seq)) | ((with_reducible apply athen_normal)) | ((with_reducible apply awp_region)) | ((with_reducible apply al_nil)) | ((with_reducible apply awp_ret)) | ((with_reducible apply awp_skip)) | ((with_reducible apply athen_ret)) | ((with_reducible apply awp_cond_t); exact rfl) | ((with_reducible apply awp_cond_f); exact rfl) | ((with_reducible apply awp_cond_1); exact rfl; (first | assumption | exact decide_eq_true (by omega) | (simp only [Bool.not_eq_true', decide_eq_false_iff_not, decide_eq_true_eq, Bool.not_eq_false']; omega))) | ((with_reducible apply awp_cond_0); exact rfl; (first | assumption | exact decide_eq_false (by omega) | (simp only [Bool.not_eq_true', decide_eq_false_iff_not, decide_eq_true_eq, Bool.not_eq_false']; omega)))))
    (first | (refine apost_ret rfl (resl_tmp rfl resl_nil) ?_))
    exact AV.Le.refl _
  | succ N ih =>
    intro l h1 h2
    by_cases q : l.length < 2
    · have C0 := p_mergeK hL (a := l) (b := []) (by omega) (by simp)
      rw [mrgL_nil] at C0
      have C1 : PCall Try.prog 25 [vIk l, vNil, vFn lf] (vIk l) := pcall_le C0 rfl rfl (by
        intro i x y hx hy
        match i with
        | 0 => cases hx; cases hy; exact .refl _
        | 1 => cases hx; cases hy; exact nil_le 1
        | 2 => cases hx; cases hy; exact .refl _
        | i + 3 => simp at hx)
      have q1 : (l.length : Int) < 2 := by omega
      have e : srtL lt l = l := by rw [srtL, dif_pos (by omega)]
      rw [e]
      clear C0 ih
      refine pcall_body (f := 24) Try.func24 rfl rfl rfl rfl ?_
      (repeat (first | ((with_reducible apply al_q); exact rfl) | ((with_reducible apply al_len); (iterate 3 exact rfl)) | ((with_reducible apply al_sl_l); (iterate 3 exact rfl); (first | assumption | omega); (first | assumption | omega); (first | assumption | rfl); (first | assumption | rfl); exact rfl) | ((with_reducible apply al_sl_h); (iterate 3 exact rfl); (first | assumption | omega); (first | assumption | omega); (first | assumption | rfl); (first | assumption | rfl); exact rfl) | ((with_reducible apply al_sl_lh); (iterate 4 exact rfl); (first | assumption | omega); (first | assumption | omega); (first | assumption | omega); (first | assumption | rfl); (first | assumption | rfl); exact rfl) | ((with_reducible apply al_sl_hm); (iterate 4 exact rfl); (first | assumption | omega); (first | assumption | omega); (first | assumption | omega); (first | assumption | rfl); (first | assumption | rfl); exact rfl) | ((with_reducible apply al_sl_lhm); (iterate 5 exact rfl); (first | assumption | omega); (first | assumption | omega); (first | assumption | omega); (first | assumption | omega); (first | assumption | rfl); (first | assumption | rfl); exact rfl) | ((with_reducible apply al_quoX); (iterate 4 exact rfl); assumption; (first | decide | omega); omega) | (refine al_call2 rfl rfl rfl rfl (by (first | exact C1)) rfl ?_) | (refine al_call3 rfl rfl rfl rfl rfl (by (first | exact C1)) rfl ?_) | ((with_reducible apply al_bin); (iterate 5 exact rfl); (intro W; go_simp; try rfl); (intro W; go_simp; try rfl); exact rfl; exact rfl) | ((with_reducible apply al_nilS); kernel_rfl) | ((with_reducible apply awp_region_draw); kernel_rfl; kernel_rfl; exact rfl) | ((with_reducible apply awp_seq)) | ((with_reducible apply athen_normal)) | ((with_reducible apply awp_region)) | ((with_reducible apply al_nil)) | ((with_reducible apply awp_ret)) | ((with_reducible apply awp_skip)) | ((with_reducible apply athen_ret)) | ((with_reducible apply awp_cond_t); exact rfl) | ((with_reducible apply awp_cond_f); exact rfl) | ((with_reducible apply awp_cond_1); exact rfl; (first | assumption | exact decide_eq_true (by omega) | (simp only [Bool.not_eq_true', decide_eq_false_iff_not, decide_eq_true_eq, Bool.not_eq_false']; omega))) | ((with_reducible apply awp_cond_0); exact rfl; (first | assumption | exact decide_eq_false (by omega) | (simp only [Bool.not_eq_true', decide_eq_false_iff_not, decide_eq_true_eq, Bool.not_eq_false']; omega)))))
      (first | (refine apost_ret rfl (resl_tmp rfl resl_nil) ?_))
      exact AV.Le.refl _
    · have q1 : ¬ (l.length : Int) < 2 := by omega
      have e : srtL lt l = mrgL lt (srtL lt (l.take (l.length / 2))) (srtL lt (l.drop (l.length / 2))) := by rw [srtL, dif_neg q]
      have C1 := ih (l.take (l.length / 2)) (by simp; omega) (by omega)
      have C2 := ih (l.drop (l.length / 2)) (by simp; omega) (by omega)
      have l1 := srtL_len lt _ (l.take (l.length / 2)) (Nat.le_refl _)
      have l2 := srtL_len lt _ (l.drop (l.length / 2)) (Nat.le_refl _)
      have C3 := p_mergeK hL (a := srtL lt (l.take (l.length / 2))) (b := srtL lt (l.drop (l.length / 2))) (by rw [l1]; simp; omega) (by rw [l2]; simp; omega)
      have hh : ((l.length : Int) / 2).toNat = l.length / 2 := by omega
      have e1 : ((l.length : Int) / 2).toNat - 0 = (l.take (l.length / 2)).length := by rw [hh]; simp; omega
      have e2 := ikC_take l (l.length / 2)
      have e3 : ((l.length : Int)).toNat - ((l.length : Int) / 2).toNat = (l.drop (l.length / 2)).length := by rw [hh]; simp
      have e4 := ikC_drop l (l.length / 2) (by omega)
      have e5 : ((ikC l).drop (((l.length : Int) / 2).toNat * 1)).take ((l.drop (l.length / 2)).length * 1) = ikC (l.drop (l.length / 2)) := by rw [hh]; exact e4
      rw [e]
      clear ih l1 l2 e e4 hh
      refine pcall_body (f := 24) Try.func24 rfl rfl rfl rfl ?_
      (repeat (first | ((with_reducible apply al_q); exact rfl) | ((with_reducible apply al_len); (iterate 3 exact rfl)) | ((with_reducible apply al_sl_l); (iterate 3 exact rfl); (first | assumption | omega); (first | assumption | omega); (first | assumption | rfl); (first | assumption | rfl); exact rfl) | ((with_reducible apply al_sl_h); (iterate 3 exact rfl); (first | assumption | omega); (first | assumption | omega); (first | assumption | rfl); (first | assumption | rfl); exact rfl) | ((with_reducible apply al_sl_lh); (iterate 4 exact rfl); (first | assumption | omega); (first | assumption | omega); (first | assumption | omega); (first | assumption | rfl); (first | assumption | rfl); exact rfl) | ((with_reducible apply al_sl_hm); (iterate 4 exact rfl); (first | assumption | omega); (first | assumption | omega); (first | assumption | omega); (first | assumption | rfl); (first | assumption | rfl); exact rfl) | ((with_reducible apply al_sl_lhm); (iterate 5 exact rfl); (first | assumption | omega); (first | assumption | omega); (first | assumption | omega); (first | assumption | omega); (first | assumption | rfl); (first | assumption | rfl); exact rfl) | ((with_reducible apply al_quo); (iterate 3 exact rfl); omega; omega; omega; exact rfl) | ((with_reducible apply al_cat); (iterate 3 exact rfl); assumption; assumption; exact rfl) | ((with_reducible apply al_convB); exact rfl; exact rfl; assumption; exact rfl) | (refine al_call2 rfl rfl rfl rfl (by (first | exact C1 | exact C2 | exact C3)) rfl ?_) | (refine al_call3 rfl rfl rfl rfl rfl (by (first | exact C1 | exact C2 | exact C3)) rfl ?_) | ((with_reducible apply al_bin); (iterate 5 exact rfl); (intro W; go_simp; try rfl); (intro W; go_simp; try rfl); exact rfl; exact rfl) | ((with_reducible apply al_nilS); kernel_rfl) | ((with_reducible apply awp_region_draw); kernel_rfl; kernel_rfl; exact rfl) | ((with_reducible apply awp_seq)) | ((with_reducible apply athen_normal)) | ((with_reducible apply awp_region)) | ((with_reducible apply al_nil)) | ((with_reducible apply awp_ret)) | ((with_reducible apply awp_skip)) | ((with_reducible apply athen_ret)) | ((with_reducible apply awp_cond_t); exact rfl) | ((with_reducible apply awp_cond_f); exact rfl) | ((with_reducible apply awp_cond_1); exact rfl; (first | assumption | exact decide_eq_true (by omega) | (simp only [Bool.not_eq_true', decide_eq_false_iff_not, decide_eq_true_eq, Bool.not_eq_false']; omega))) | ((with_reducible apply awp_cond_0); exact rfl; (first | assumption | exact decide_eq_false (by omega) | (simp only [Bool.not_eq_true', decide_eq_false_iff_not, decide_eq_true_eq, Bool.not_eq_false']; omega)))))
      (first | (refine apost_ret rfl (resl_tmp rfl resl_nil) ?_))
      exact AV.Le.refl _
def IsK (lt : Int × Int → Int × Int → Bool) (l : List (Int × Int)) (lv : AV) (m : Nat) (ts : List (Nat × AV)) (ms : List (Nat × List AC)) : Prop :=
  ∃ (k : Nat) (ki : Int), (k + 1 ≤ l.length ∨ k = 0) ∧ m = l.length - k ∧ ki = k + 1 ∧ adjL lt l k = true ∧ ms = [] ∧ ts = [(0, vIk l), (1, lv), (5, vI ki)]
set_option maxRecDepth 100000 in
set_option maxHeartbeats 8000000 in
theorem p_IsK {lf : FuncId} [Enters Try.prog lf] {lt : Int × Int → Int × Int → Bool} (hL : ∀ x n y m : Int, PCall Try.prog lf [vI x, vI y] (vB (lt (x, n) (y, m)))) {l : List (Int × Int)} (hl : l.length ≤ 100000) :
    PCall Try.prog 26 [vIk l, vFn lf] (vB (adjL lt l (l.length - 1))) := by
  have h0 : adjL lt l 0 = true := rfl
  refine pcall_body (f := 26) Try.func26 rfl rfl rfl rfl ?_
  (repeat (first | ((with_reducible apply al_q); exact rfl) | ((with_reducible apply al_loadP1); (iterate 5 exact rfl)) | ((with_reducible apply al_loadPN); (iterate 5 exact rfl)) | ((with_reducible apply al_idxS); (iterate 3 exact rfl); (first | decide | omega); (first | decide | omega); (first | assumption | rfl); exact rfl) | ((with_reducible apply al_idx); (iterate 3 exact rfl); omega; omega; exact rfl) | ((with_reducible apply al_add); (iterate 3 exact rfl); (first | exact i64_wrap (by omega) | assumption | rfl); exact rfl) | ((with_reducible apply al_sub); (iterate 3 exact rfl); (first | exact i64_wrap (by omega) | assumption | rfl); exact rfl) | ((with_reducible apply al_len); (iterate 3 exact rfl)) | (refine al_call2 rfl rfl rfl rfl (by fail) rfl ?_) | (refine al_callb (bs := [_]) (args := [_, _]) rfl rfl rfl rfl (by fail) rfl ?_) | (refine al_callF (args := [_, _]) rfl rfl rfl (by fail) rfl ?_) | ((with_reducible apply al_bin); (iterate 5 exact rfl); (intro W; go_simp; try rfl); (intro W; go_simp; try rfl); exact rfl; exact rfl) | ((with_reducible apply al_nilS); kernel_rfl) | ((with_reducible apply awp_region_draw); kernel_rfl; kernel_rfl; exact rfl) | ((with_reducible apply awp_seq)) | ((with_reducible apply athen_normal)) | ((with_reducible apply awp_region)) | ((with_reducible apply al_nil)) | ((with_reducible apply awp_ret)) | ((with_reducible apply awp_skip)) | ((with_reducible apply athen_ret)) | ((with_reducible apply awp_block)) | ((with_reducible apply ablock_normal)) | ((with_reducible apply ablock_ret)) | ((with_reducible apply ablock_same)) | ((with_reducible apply awp_exit)) | ((with_reducible apply athen_exit)) | ((with_reducible apply roll_succ)) | ((with_reducible apply ablock_ne); exact rfl) | ((with_reducible apply awp_cond_t); exact rfl) | ((with_reducible apply awp_cond_f); exact rfl) | ((with_reducible apply awp_cond_1); exact rfl; (first | assumption | exact decide_eq_true (by omega) | (simp only [Bool.not_eq_true', decide_eq_false_iff_not, decide_eq_true_eq, Bool.not_eq_false']; omega))) | ((with_reducible apply awp_cond_0); exact rfl; (first | assumption | exact decide_eq_false (by omega) | (simp only [Bool.not_eq_true', decide_eq_false_iff_not, decide_eq_true_eq, Bool.not_eq_false']; omega)))))
  refine awp_loopL 23 (IsK lt l (vFn lf)) l.length _ [] ⟨0, 1, .inr rfl, rfl, rfl, h0, rfl, rfl⟩ rfl ⟨rfl, rfl, rfl, trivial⟩ trivial rfl ?_
  rintro n ts ms ⟨k, ki, hk, rfl, hki, hb, rfl, rfl⟩ hok
  clear hok h0
  by_cases q : k + 1 < l.length
  · have q' : ki < (l.length : Int) := by omega
    obtain ⟨x, n1, g1⟩ : ∃ x y, l[k]? = some (x, y) := ⟨_, _, List.getElem?_eq_getElem (by omega)⟩
    obtain ⟨y, n2, g2⟩ : ∃ x y, l[k + 1]? = some (x, y) := ⟨_, _, List.getElem?_eq_getElem q⟩
    have E1 := ikC_xy (j := ki - 1) (by omega) g1
    have E2 := ikC_xy (j := ki) (by omega) g2
    have C1 := hL y n2 x n1
    have d1 : l.getD k (0, 0) = (x, n1) := by rw [List.getD_eq_getElem?_getD, g1]; rfl
    have d2 : l.getD (k + 1) (0, 0) = (y, n2) := by rw [List.getD_eq_getElem?_getD, g2]; rfl
    have r0 : 0 ≤ ki - 1 := by omega
    have r1 : ki - 1 < (l.length : Int) := by omega
    have r2 : 0 ≤ ki := by omega
    cases hlt : lt (y, n2) (x, n1) with
    | true =>
      have hf : adjL lt l (l.length - 1) = false := adjL_false (i := k) (by omega) (by rw [d1, d2]; exact hlt)
      rw [hlt] at C1
      clear hL
      (repeat (first | ((with_reducible apply al_q); exact rfl) | ((with_reducible apply al_loadP1); (iterate 5 exact rfl)) | ((with_reducible apply al_loadPN); (iterate 5 exact rfl)) | ((with_reducible apply al_idxS); (iterate 3 exact rfl); (first | decide | omega); (first | decide | omega); (first | assumption | rfl); exact rfl) | ((with_reducible apply al_idx); (iterate 3 exact rfl); omega; omega; exact rfl) | ((with_reducible apply al_add); (iterate 3 exact rfl); (first | exact i64_wrap (by omega) | assumption | rfl); exact rfl) | ((with_reducible apply al_sub); (iterate 3 exact rfl); (first | exact i64_wrap (by omega) | assumption | rfl); exact rfl) | ((with_reducible apply al_len); (iterate 3 exact rfl)) | (refine al_call2 rfl rfl rfl rfl (by (first | exact C1)) rfl ?_) | (refine al_callb (bs := [_]) (args := [_, _]) rfl rfl rfl rfl (by (first | exact C1)) rfl ?_) | (refine al_callF (args := [_, _]) rfl rfl rfl (by (first | exact C1)) rfl ?_) | ((with_reducible apply al_bin); (iterate 5 exact rfl); (intro W; go_simp; try rfl); (intro W; go_simp; try rfl); exact rfl; exact rfl) | ((with_reducible apply al_nilS); kernel_rfl) | ((with_reducible apply awp_region_draw); kernel_rfl; kernel_rfl; exact rfl) | ((with_reducible apply awp_seq)) | ((with_reducible apply athen_normal)) | ((with_reducible apply awp_region)) | ((with_reducible apply al_nil)) | ((with_reducible apply awp_ret)) | ((with_reducible apply awp_skip)) | ((with_reducible apply athen_ret)) | ((with_reducible apply awp_block)) | ((with_reducible apply ablock_normal)) | ((with_reducible apply ablock_ret)) | ((with_reducible apply ablock_same)) | ((with_reducible apply awp_exit)) | ((with_reducible apply athen_exit)) | ((with_reducible apply roll_succ)) | ((with_reducible apply ablock_ne); exact rfl) | ((with_reducible apply awp_cond_t); exact rfl) | ((with_reducible apply awp_cond_f); exact rfl) | ((with_reducible apply awp_cond_1); exact rfl; (first | assumption | exact decide_eq_true (by omega) | (simp only [Bool.not_eq_true', decide_eq_false_iff_not, decide_eq_true_eq, Bool.not_eq_false']; omega))) | ((with_reducible apply awp_cond_0); exact rfl; (first | assumption | exact decide_eq_false (by omega) | (simp only [Bool.not_eq_true', decide_eq_false_iff_not, decide_eq_true_eq, Bool.not_eq_false']; omega)))))
      (first | (refine apost_ret rfl (resl_tmp rfl resl_nil) ?_))
      exact AV.Le.of_eq (by rw [hf]; rfl)
    | false =>
      have hn : adjL lt l (k + 1) = true := by rw [adjL_succ, hb, d1, d2, hlt]; rfl
      rw [hlt] at C1
      clear hL
      (repeat (first | ((with_reducible apply al_q); exact rfl) | ((with_reducible apply al_loadP1); (iterate 5 exact rfl)) | ((with_reducible apply al_loadPN); (iterate 5 exact rfl)) | ((with_reducible apply al_idxS); (iterate 3 exact rfl); (first | decide | omega); (first | decide | omega); (first | assumption | rfl); exact rfl) | ((with_reducible apply al_idx); (iterate 3 exact rfl); omega; omega; exact rfl) | ((with_reducible apply al_add); (iterate 3 exact rfl); (first | exact i64_wrap (by omega) | assumption | rfl); exact rfl) | ((with_reducible apply al_sub); (iterate 3 exact rfl); (first | exact i64_wrap (by omega) | assumption | rfl); exact rfl) | ((with_reducible apply al_len); (iterate 3 exact rfl)) | (refine al_call2 rfl rfl rfl rfl (by (first | exact C1)) rfl ?_) | (refine al_callb (bs := [_]) (args := [_, _]) rfl rfl rfl rfl (by (first | exact C1)) rfl ?_) | (refine al_callF (args := [_, _]) rfl rfl rfl (by (first | exact C1)) rfl ?_) | ((with_reducible apply al_bin); (iterate 5 exact rfl); (intro W; go_simp; try rfl); (intro W; go_simp; try rfl); exact rfl; exact rfl) | ((with_reducible apply al_nilS); kernel_rfl) | ((with_reducible apply awp_region_draw); kernel_rfl; kernel_rfl; exact rfl) | ((with_reducible apply awp_seq)) | ((with_reducible apply athen_normal)) | ((with_reducible apply awp_region)) | ((with_reducible apply al_nil)) | ((with_reducible apply awp_ret)) | ((with_reducible apply awp_skip)) | ((with_reducible apply athen_ret)) | ((with_reducible apply awp_block)) | ((with_reducible apply ablock_normal)) | ((with_reducible apply ablock_ret)) | ((with_reducible apply ablock_same)) | ((with_reducible apply awp_exit)) | ((with_reducible apply athen_exit)) | ((with_reducible apply roll_succ)) | ((with_reducible apply ablock_ne); exact rfl) | ((with_reducible apply awp_cond_t); exact rfl) | ((with_reducible apply awp_cond_f); exact rfl) | ((with_reducible apply awp_cond_1); exact rfl; (first | assumption | exact decide_eq_true (by omega) | (simp only [Bool.not_eq_true', decide_eq_false_iff_not, decide_eq_true_eq, Bool.not_eq_false']; omega))) | ((with_reducible apply awp_cond_0); exact rfl; (first | assumption | exact decide_eq_false (by omega) | (simp only [Bool.not_eq_true', decide_eq_false_iff_not, decide_eq_true_eq, Bool.not_eq_false']; omega)))))
      exact ⟨l.length - (k + 1), _, [], by omega, ⟨k + 1, ki + 1, .inl (by omega), rfl, by omega, hn, rfl, rfl⟩, rfl, ⟨rfl, rfl, rfl, trivial⟩, trivial, rfl⟩
  · have q' : ¬ ki < (l.length : Int) := by omega
    have hb' : adjL lt l (l.length - 1) = true := by
      by_cases e : k = l.length - 1
      · rw [← e]; exact hb
      · have : l.length - 1 = 0 := by omega
        rw [this]; rfl
    (repeat (first | ((with_reducible apply al_q); exact rfl) | ((with_reducible apply al_loadP1); (iterate 5 exact rfl)) | ((with_reducible apply al_loadPN); (iterate 5 exact rfl)) | ((with_reducible apply al_idxS); (iterate 3 exact rfl); (first | decide | omega); (first | decide | omega); (first | assumption | rfl); exact rfl) | ((with_reducible apply al_idx); (iterate 3 exact rfl); omega; omega; exact rfl) | ((with_reducible apply al_add); (iterate 3 exact rfl); (first | exact i64_wrap (by omega) | assumption | rfl); exact rfl) | ((with_reducible apply al_sub); (iterate 3 exact rfl); (first | exact i64_wrap (by omega) | assumption | rfl); exact rfl) | ((with_reducible apply al_len); (iterate 3 exact rfl)) | (refine al_call2 rfl rfl rfl rfl (by fail) rfl ?_) | (refine al_callb (bs := [_]) (args := [_, _]) rfl rfl rfl rfl (by fail) rfl ?_) | (refine al_callF (args := [_, _]) rfl rfl rfl (by fail) rfl ?_) | ((with_reducible apply al_bin); (iterate 5 exact rfl); (intro W; go_simp; try rfl); (intro W; go_simp; try rfl); exact rfl; exact rfl) | ((with_reducible apply al_nilS); kernel_rfl) | ((with_reducible apply awp_region_draw); kernel_rfl; kernel_rfl; exact rfl) | ((with_reducible apply awp_seq)) | ((with_reducible apply athen_normal)) | ((with_reducible apply awp_region)) | ((with_reducible apply al_nil)) | ((with_reducible apply awp_ret)) | ((with_reducible apply awp_skip)) | ((with_reducible apply athen_ret)) | ((with_reducible apply awp_block)) | ((with_reducible apply ablock_normal)) | ((with_reducible apply ablock_ret)) | ((with_reducible apply ablock_same)) | ((with_reducible apply awp_exit)) | ((with_reducible apply athen_exit)) | ((with_reducible apply roll_succ)) | ((with_reducible apply ablock_ne); exact rfl) | ((with_reducible apply awp_cond_t); exact rfl) | ((with_reducible apply awp_cond_f); exact rfl) | ((with_reducible apply awp_cond_1); exact rfl; (first | assumption | exact decide_eq_true (by omega) | (simp only [Bool.not_eq_true', decide_eq_false_iff_not, decide_eq_true_eq, Bool.not_eq_false']; omega))) | ((with_reducible apply awp_cond_0); exact rfl; (first | assumption | exact decide_eq_false (by omega) | (simp only [Bool.not_eq_true', decide_eq_false_iff_not, decide_eq_true_eq, Bool.not_eq_false']; omega)))))
    (first | (refine apost_ret rfl (resl_tmp rfl resl_nil) ?_))
    exact AV.Le.of_eq (by rw [hb']; rfl)
end Go.Proofs.Ytcplkjnmfdinaaa

namespace Go.Proofs.Ytcplkjnmfdinaaa
open Go.RowKit
set_option linter.unusedVariables false
set_option linter.unusedSimpArgs false
theorem same1_idle (w : World) : CallsD Try.prog 33 #[] .returning w fun e u' w' => e = .returned (.tuple #[]) ∧ u' = .returning ∧ w' = w := by
  refine callsD_of_wpS Try.func33 rfl fun c₀ cs hu => ?_
  apply wpS_region
  simp [wpOpsS, go_sem, recoverD, hu, Try.ntmps33, Exit.thenS]
  cases c₀
  simp_all [bodyPostS, results, Try.results33]
theorem w_same (x y : Int) (w : World) : Calls Try.prog 27 #[.int .i64 x, .int .i64 y] w fun e w' => e = .returned (.bool (decide (x = y))) ∧ w' = w := by
  go_enter_defers Try.func27, Try.ntmps27
  go_wp2
  refine leaves_cons (f := 33) (args := #[]) (by simp) (by simp [go_sem]) ?_
  refine (same1_idle _).mono ?_
  rintro e u' w'' ⟨rfl, rfl, rfl⟩
  simp [Leaves, settle, results, Try.results27, go_sem]
  by_cases h : x = y <;> simp [h]
theorem p_osame (x y : Int) : PCall Try.prog 27 [vI x, vI y] (vB (decide (x = y))) :=
  pcall_ev [.int .i64 x, .int .i64 y] (.bool (decide (x = y))) rfl rfl rfl rfl rfl fun W => (w_same x y W).mono fun e w' ⟨h1, h2⟩ => ⟨h1, by subst h2; exact Below.refl _ _⟩
end Go.Proofs.Ytcplkjnmfdinaaa

namespace Go.Proofs.Ytcplkjnmfdinaaa
open Go.RowKit
set_option linter.unusedVariables false
set_option linter.unusedSimpArgs false
/-- the block that holds the opposite: right, for a way that goes left; up, for one that goes down. -/
abbrev cB (b : Bool) : AC := .p (PtrP [.c (.bool (!b))])
abbrev vAlong (l d : Bool) : AV := .w (.one (.p (FunP (.func 28) [cB l, cB d])))
set_option maxRecDepth 100000 in
set_option maxHeartbeats 4000000 in
theorem p_Along {a1 a2 b1 b2 : Int} : PCall Try.prog 18 [vP a1 a2, vP b1 b2] (vAlong (decide (b1 < a1)) (decide (b2 < a2))) := by
  have e1 : decide (b1 ≥ a1) = !decide (b1 < a1) := by by_cases h : b1 < a1 <;> simp [h] <;> omega
  have e2 : decide (b2 ≥ a2) = !decide (b2 < a2) := by by_cases h : b2 < a2 <;> simp [h] <;> omega
  refine pcall_bodyT (f := 18) Try.func18 rfl rfl rfl rfl ?_
  refine awt_seq (awt_awp ?_)
  (repeat (first | ((with_reducible apply al_q); exact rfl) | ((with_reducible apply al_mkfn); exact rfl; exact (fun W => rfl); exact rfl) | ((with_reducible apply al_mkfnb); (iterate 4 exact rfl)) | (refine al_mkfnP (xs := [_, _]) (cs := [_, _]) rfl rfl rfl rfl ?_) | ((with_reducible apply al_bin); (iterate 5 exact rfl); (intro W; go_simp; try rfl); (intro W; go_simp; try rfl); exact rfl; exact rfl) | ((with_reducible apply al_nilS); kernel_rfl) | ((with_reducible apply awp_region_draw); kernel_rfl; kernel_rfl; exact rfl) | ((with_reducible apply awp_seq)) | ((with_reducible apply athen_normal)) | ((with_reducible apply awp_region)) | ((with_reducible apply al_nil)) | ((with_reducible apply awp_ret)) | ((with_reducible apply awp_skip)) | ((with_reducible apply athen_ret))))
  refine awt_seq (awt_awp ?_)
  (repeat (first | ((with_reducible apply al_q); exact rfl) | ((with_reducible apply al_mkfn); exact rfl; exact (fun W => rfl); exact rfl) | ((with_reducible apply al_mkfnb); (iterate 4 exact rfl)) | (refine al_mkfnP (xs := [_, _]) (cs := [_, _]) rfl rfl rfl rfl ?_) | ((with_reducible apply al_bin); (iterate 5 exact rfl); (intro W; go_simp; try rfl); (intro W; go_simp; try rfl); exact rfl; exact rfl) | ((with_reducible apply al_nilS); kernel_rfl) | ((with_reducible apply awp_region_draw); kernel_rfl; kernel_rfl; exact rfl) | ((with_reducible apply awp_seq)) | ((with_reducible apply athen_normal)) | ((with_reducible apply awp_region)) | ((with_reducible apply al_nil)) | ((with_reducible apply awp_ret)) | ((with_reducible apply awp_skip)) | ((with_reducible apply athen_ret))))
  refine awt_freeze 5 _ rfl rfl ?_
  refine awt_freeze 6 _ rfl rfl ?_
  refine awt_awp ?_
  (repeat (first | ((with_reducible apply al_q); exact rfl) | ((with_reducible apply al_mkfn); exact rfl; exact (fun W => rfl); exact rfl) | ((with_reducible apply al_mkfnb); (iterate 4 exact rfl)) | (refine al_mkfnP (xs := [_, _]) (cs := [_, _]) rfl rfl rfl rfl ?_) | ((with_reducible apply al_bin); (iterate 5 exact rfl); (intro W; go_simp; try rfl); (intro W; go_simp; try rfl); exact rfl; exact rfl) | ((with_reducible apply al_nilS); kernel_rfl) | ((with_reducible apply awp_region_draw); kernel_rfl; kernel_rfl; exact rfl) | ((with_reducible apply awp_seq)) | ((with_reducible apply athen_normal)) | ((with_reducible apply awp_region)) | ((with_reducible apply al_nil)) | ((with_reducible apply awp_ret)) | ((with_reducible apply awp_skip)) | ((with_reducible apply athen_ret))))
  (first | (refine apost_ret rfl (resl_tmp rfl resl_nil) ?_))
  exact AV.Le.of_eq (by rw [e1, e2]; rfl)
set_option maxRecDepth 100000 in
set_option maxHeartbeats 4000000 in
theorem p_along1 {x y z w : Int} {l d r : Bool} (hr : ahdN x y z w l d = r) : PCall Try.prog 28 [vP x y, vP z w, .w (.one (cB l)), .w (.one (cB d))] (vB r) := by
  have cs : (¬ x = z ∧ z < x ∧ r = l) ∨ (¬ x = z ∧ ¬ z < x ∧ r = !l) ∨ (x = z ∧ ¬ y = w ∧ w < y ∧ r = d) ∨ (x = z ∧ ¬ y = w ∧ ¬ w < y ∧ r = !d) ∨ (x = z ∧ y = w ∧ r = false) := by
    rw [← hr]; unfold ahdN
    by_cases h1 : x < z <;> by_cases h2 : z < x <;> by_cases h3 : y < w <;> by_cases h4 : w < y <;> simp [h1, h2, h3, h4] <;> omega
  clear hr
  rcases cs with ⟨h1, h2, rfl⟩ | ⟨h1, h2, rfl⟩ | ⟨h1, h3, h2, rfl⟩ | ⟨h1, h3, h2, rfl⟩ | ⟨h1, h3, rfl⟩
  all_goals
    refine pcall_body (f := 28) Try.func28 rfl rfl rfl rfl ?_
    (repeat (first | ((with_reducible apply al_q); exact rfl) | ((with_reducible apply al_loadP1); (iterate 5 exact rfl)) | ((with_reducible apply al_loadPN); (iterate 5 exact rfl)) | ((with_reducible apply al_fldP); (iterate 3 exact rfl)) | ((with_reducible apply al_eqP); (iterate 4 exact rfl)) | ((with_reducible apply al_eqB); (iterate 4 exact rfl)) | ((with_reducible apply al_neqP); (iterate 4 exact rfl)) | ((with_reducible apply al_eqT); (iterate 4 exact rfl); kernel_rfl) | ((with_reducible apply al_neT); (iterate 4 exact rfl); kernel_rfl) | ((with_reducible apply al_guard_b (c := true)); exact rfl; exact rfl; (first | assumption | exact decide_eq_true (by omega) | (simp only [Bool.not_eq_true', decide_eq_false_iff_not, decide_eq_true_eq, Bool.not_eq_false']; omega))) | ((with_reducible apply al_guard_b (c := false)); exact rfl; exact rfl; (first | assumption | exact decide_eq_false (by omega) | (simp only [Bool.not_eq_true', decide_eq_false_iff_not, decide_eq_true_eq, Bool.not_eq_false']; omega))) | ((with_reducible apply al_bin); (iterate 5 exact rfl); (intro W; go_simp; try rfl); (intro W; go_simp; try rfl); exact rfl; exact rfl) | ((with_reducible apply al_nilS); kernel_rfl) | ((with_reducible apply awp_region_draw); kernel_rfl; kernel_rfl; exact rfl) | ((with_reducible apply awp_seq)) | ((with_reducible apply athen_normal)) | ((with_reducible apply awp_region)) | ((with_reducible apply al_nil)) | ((with_reducible apply awp_ret)) | ((with_reducible apply awp_skip)) | ((with_reducible apply athen_ret)) | ((with_reducible apply awp_cond_t); exact rfl) | ((with_reducible apply awp_cond_f); exact rfl) | ((with_reducible apply awp_cond_1); exact rfl; (first | assumption | exact decide_eq_true (by omega) | (simp only [Bool.not_eq_true', decide_eq_false_iff_not, decide_eq_true_eq, Bool.not_eq_false']; omega))) | ((with_reducible apply awp_cond_0); exact rfl; (first | assumption | exact decide_eq_false (by omega) | (simp only [Bool.not_eq_true', decide_eq_false_iff_not, decide_eq_true_eq, Bool.not_eq_false']; omega)))))
    (first | (refine apost_ret rfl (resl_tmp rfl resl_nil) ?_))
    first
    | exact AV.Le.refl _
    | exact AV.Le.of_eq (by rw [decide_eq_false (show ¬ x < z by omega), Bool.false_beq, Bool.not_not]; rfl)
    | exact AV.Le.of_eq (by rw [decide_eq_true (show x < z by omega), Bool.true_beq]; rfl)
    | exact AV.Le.of_eq (by rw [decide_eq_false (show ¬ y < w by omega), Bool.false_beq, Bool.not_not]; rfl)
    | exact AV.Le.of_eq (by rw [decide_eq_true (show y < w by omega), Bool.true_beq]; rfl)
theorem ahdN_cases (x y z w : Int) (l d : Bool) : (ahdN x y z w l d = true ∧ ahdN z w x y l d = false ∧ eqP x y z w = false) ∨ (ahdN x y z w l d = false ∧ ahdN z w x y l d = true ∧ eqP x y z w = false) ∨ (ahdN x y z w l d = false ∧ ahdN z w x y l d = false ∧ eqP x y z w = true) := by
  unfold ahdN eqP
  by_cases h1 : x < z <;> by_cases h2 : z < x <;> by_cases h3 : y < w <;> by_cases h4 : w < y <;> cases l <;> cases d <;> simp [h1, h2, h3, h4] <;> omega
end Go.Proofs.Ytcplkjnmfdinaaa

namespace Go.Proofs.Ytcplkjnmfdinaaa
open Go.RowKit
set_option linter.unusedVariables false
set_option linter.unusedSimpArgs false
def CUniq (n : Nat) : Prop := ∀ l : List Int, l.length ≤ n → PCall Try.prog 16 [vIn l] (vIn (uqN l l.length))
def UqI (l u : List Int) (n : Nat) (ts : List (Nat × AV)) (ms : List (Nat × List AC)) : Prop :=
  ∃ (k : Nat) (ki N : Int), k ≤ u.length ∧ n = u.length - k ∧ ki = k ∧ N = u.length ∧ ms = [] ∧ ts = [(3, vIn u), (4, vIn u), (20, vI N), (21, vI ki)]
end Go.Proofs.Ytcplkjnmfdinaaa

namespace Go.Proofs.Ytcplkjnmfdinaaa
open Go.RowKit
set_option linter.unusedVariables false
set_option linter.unusedSimpArgs false
set_option maxRecDepth 100000 in
set_option maxHeartbeats 4000000 in
theorem p_below {x y : Int} : PCall Try.prog 23 [vI x, vI y] (vB (decide (x < y))) := by
  refine pcall_body (f := 23) Try.func23 rfl rfl rfl rfl ?_
  (repeat (first | ((with_reducible apply al_q); exact rfl) | ((with_reducible apply al_bin); (iterate 5 exact rfl); (intro W; go_simp; try rfl); (intro W; go_simp; try rfl); exact rfl; exact rfl) | ((with_reducible apply awp_seq)) | ((with_reducible apply athen_normal)) | ((with_reducible apply awp_region)) | ((with_reducible apply al_nil)) | ((with_reducible apply awp_ret)) | ((with_reducible apply awp_skip)) | ((with_reducible apply athen_ret))))
  (first | (refine apost_ret rfl (resl_tmp rfl resl_nil) ?_))
  exact AV.Le.refl _
def UoI (l : List Int) (m : Nat) (R : Rws) (ts : List (Nat × AV)) (ms : List (Nat × List AC)) : Prop :=
  ∃ (k : Nat) (v : Value) (ki : Int), k ≤ l.length ∧ m = l.length - k ∧ ki = k ∧ R = row1 0 (inRow v (uqN l k)) ∧ ts = [(0, vIn l), (3, vC v), (6, vIn l), (7, vI l.length), (8, vI ki)] ∧ ms = []
set_option maxRecDepth 100000 in
set_option maxHeartbeats 8000000 in
theorem p_Unique {l : List Int} (hl : l.length ≤ 100000) : PCall Try.prog 16 [vIn l] (vIn (uqN l l.length)) := by
  refine pcall_body (f := 16) Try.func16 rfl rfl rfl rfl ?_
  refine awp_rows ?_
  refine rwp_seq ?_
  (repeat (first | ((with_reducible apply hs_nilS); kernel_rfl) | ((with_reducible apply rwp_seq)) | ((with_reducible apply rthen_normal)) | ((with_reducible apply rwp_region)) | ((with_reducible apply hs_nil)) | ((with_reducible apply rwp_ret)) | ((with_reducible apply rwp_skip)) | ((with_reducible apply rthen_ret)) | ((with_reducible apply rwp_block)) | ((with_reducible apply rblock_normal)) | ((with_reducible apply rblock_ret)) | ((with_reducible apply rblock_same)) | ((with_reducible apply rwp_exit)) | ((with_reducible apply rthen_exit)) | ((with_reducible apply rblock_ne); exact rfl) | ((with_reducible apply rwp_cond_1); exact rfl; (first | assumption | exact decide_eq_true (by omega) | (simp only [Bool.not_eq_true', decide_eq_false_iff_not, decide_eq_true_eq, Bool.not_eq_false']; omega) | exact rfl)) | ((with_reducible apply rwp_cond_0); exact rfl; (first | assumption | exact decide_eq_false (by omega) | (simp only [Bool.not_eq_true', decide_eq_false_iff_not, decide_eq_true_eq, Bool.not_eq_false']; omega) | exact rfl)) | ((with_reducible apply hs_c); (repeat (first | ((with_reducible apply al_q); exact rfl) | ((with_reducible apply al_loadP1); (iterate 5 exact rfl)) | ((with_reducible apply al_loadPN); (iterate 5 exact rfl)) | ((with_reducible apply al_idxS); (iterate 3 exact rfl); (first | decide | omega); (first | decide | omega); (first | assumption | rfl); exact rfl) | ((with_reducible apply al_idx); (iterate 3 exact rfl); omega; omega; exact rfl) | ((with_reducible apply al_eqP); (iterate 4 exact rfl)) | ((with_reducible apply al_eqB); (iterate 4 exact rfl)) | ((with_reducible apply al_add); (iterate 3 exact rfl); (first | exact i64_wrap (by omega) | assumption | rfl); exact rfl) | ((with_reducible apply al_sub); (iterate 3 exact rfl); (first | exact i64_wrap (by omega) | assumption | rfl); exact rfl) | ((with_reducible apply al_len); (iterate 3 exact rfl)) | ((with_reducible apply al_bslice); (iterate 10 exact rfl)) | (refine al_call2 rfl rfl rfl rfl (by fail) rfl ?_) | ((with_reducible apply al_guard_b (c := true)); exact rfl; exact rfl; (first | assumption | exact decide_eq_true (by omega) | (simp only [Bool.not_eq_true', decide_eq_false_iff_not, decide_eq_true_eq, Bool.not_eq_false']; omega))) | ((with_reducible apply al_guard_b (c := false)); exact rfl; exact rfl; (first | assumption | exact decide_eq_false (by omega) | (simp only [Bool.not_eq_true', decide_eq_false_iff_not, decide_eq_true_eq, Bool.not_eq_false']; omega))) | ((with_reducible apply al_bin); (iterate 5 exact rfl); (intro W; go_simp; try rfl); (intro W; go_simp; try rfl); exact rfl; exact rfl) | ((with_reducible apply al_un); exact rfl; exact rfl; (intro W; go_simp; try rfl); exact rfl; exact rfl))); (with_reducible apply al_nil)) | ((with_reducible apply hs_len 0); (iterate 3 exact rfl); kernel_rfl; exact rfl) | ((with_reducible apply hs_idx 0); (iterate 4 exact rfl); (first | omega); (first | assumption | omega); exact rfl; kernel_rfl; exact rfl) | ((with_reducible apply hs_loadN 0); (iterate 3 exact rfl); (first | assumption | omega); assumption; exact rfl; kernel_rfl; exact rfl) | ((with_reducible apply hs_load1 0); (iterate 3 exact rfl); (first | assumption | omega); assumption; exact rfl; kernel_rfl; exact rfl)))
  refine rwp_nil 0 3 1 rfl ?_
  (repeat (first | ((with_reducible apply hs_nilS); kernel_rfl) | ((with_reducible apply rwp_seq)) | ((with_reducible apply rthen_normal)) | ((with_reducible apply rwp_region)) | ((with_reducible apply hs_nil)) | ((with_reducible apply rwp_ret)) | ((with_reducible apply rwp_skip)) | ((with_reducible apply rthen_ret)) | ((with_reducible apply rwp_block)) | ((with_reducible apply rblock_normal)) | ((with_reducible apply rblock_ret)) | ((with_reducible apply rblock_same)) | ((with_reducible apply rwp_exit)) | ((with_reducible apply rthen_exit)) | ((with_reducible apply rblock_ne); exact rfl) | ((with_reducible apply rwp_cond_1); exact rfl; (first | assumption | exact decide_eq_true (by omega) | (simp only [Bool.not_eq_true', decide_eq_false_iff_not, decide_eq_true_eq, Bool.not_eq_false']; omega) | exact rfl)) | ((with_reducible apply rwp_cond_0); exact rfl; (first | assumption | exact decide_eq_false (by omega) | (simp only [Bool.not_eq_true', decide_eq_false_iff_not, decide_eq_true_eq, Bool.not_eq_false']; omega) | exact rfl)) | ((with_reducible apply hs_c); (repeat (first | ((with_reducible apply al_q); exact rfl) | ((with_reducible apply al_loadP1); (iterate 5 exact rfl)) | ((with_reducible apply al_loadPN); (iterate 5 exact rfl)) | ((with_reducible apply al_idxS); (iterate 3 exact rfl); (first | decide | omega); (first | decide | omega); (first | assumption | rfl); exact rfl) | ((with_reducible apply al_idx); (iterate 3 exact rfl); omega; omega; exact rfl) | ((with_reducible apply al_eqP); (iterate 4 exact rfl)) | ((with_reducible apply al_eqB); (iterate 4 exact rfl)) | ((with_reducible apply al_add); (iterate 3 exact rfl); (first | exact i64_wrap (by omega) | assumption | rfl); exact rfl) | ((with_reducible apply al_sub); (iterate 3 exact rfl); (first | exact i64_wrap (by omega) | assumption | rfl); exact rfl) | ((with_reducible apply al_len); (iterate 3 exact rfl)) | ((with_reducible apply al_bslice); (iterate 10 exact rfl)) | (refine al_call2 rfl rfl rfl rfl (by fail) rfl ?_) | ((with_reducible apply al_guard_b (c := true)); exact rfl; exact rfl; (first | assumption | exact decide_eq_true (by omega) | (simp only [Bool.not_eq_true', decide_eq_false_iff_not, decide_eq_true_eq, Bool.not_eq_false']; omega))) | ((with_reducible apply al_guard_b (c := false)); exact rfl; exact rfl; (first | assumption | exact decide_eq_false (by omega) | (simp only [Bool.not_eq_true', decide_eq_false_iff_not, decide_eq_true_eq, Bool.not_eq_false']; omega))) | ((with_reducible apply al_bin); (iterate 5 exact rfl); (intro W; go_simp; try rfl); (intro W; go_simp; try rfl); exact rfl; exact rfl) | ((with_reducible apply al_un); exact rfl; exact rfl; (intro W; go_simp; try rfl); exact rfl; exact rfl))); (with_reducible apply al_nil)) | ((with_reducible apply hs_len 0); (iterate 3 exact rfl); kernel_rfl; exact rfl) | ((with_reducible apply hs_idx 0); (iterate 4 exact rfl); (first | omega); (first | assumption | omega); exact rfl; kernel_rfl; exact rfl) | ((with_reducible apply hs_loadN 0); (iterate 3 exact rfl); (first | assumption | omega); assumption; exact rfl; kernel_rfl; exact rfl) | ((with_reducible apply hs_load1 0); (iterate 3 exact rfl); (first | assumption | omega); assumption; exact rfl; kernel_rfl; exact rfl)))
  refine rwp_loopL 31 (UoI l) l.length (row1 0 (inRow (.slice none 0 0) [])) _ _ ⟨0, .slice none 0 0, 0, Nat.zero_le _, rfl, rfl, rfl, rfl, rfl⟩ (row1_le _ _ _) rfl ⟨rfl, rfl, rfl, rfl, rfl, trivial⟩ trivial rfl ?_
  rintro m R ts ms ⟨k, v, ki, hk, rfl, hki, rfl, rfl, rfl⟩ hok
  clear hok
  have hu := uqN_len l k
  by_cases hq : k < l.length
  · have q2 : ki < (l.length : Int) := by omega
    have q3 : 0 ≤ ki := by omega
    obtain ⟨x, g1⟩ : ∃ x, l[k]? = some x := ⟨_, List.getElem?_eq_getElem hq⟩
    have E1 := inC_at hki g1
    have hx : l.getD k 0 = x := by rw [List.getD_eq_getElem?_getD, g1]; rfl
    have e3 : ∀ v', inRow v' (uqN l k ++ [x]) = ⟨3, 1, v', (uqN l k).length + 1, inC (uqN l k) ++ [.c (.int .i64 x)]⟩ := fun v' => by
      unfold inRow; rw [inC_append, List.length_append]; rfl
    by_cases hk0 : k = 0
    · have hu' : uqN l (k + 1) = uqN l k ++ [x] := by rw [uqN, if_pos (.inl hk0), hx]
      have q5 : ki = 0 := by omega
      (repeat (first | ((with_reducible apply hs_nilS); kernel_rfl) | ((with_reducible apply rwp_seq)) | ((with_reducible apply rthen_normal)) | ((with_reducible apply rwp_region)) | ((with_reducible apply hs_nil)) | ((with_reducible apply rwp_ret)) | ((with_reducible apply rwp_skip)) | ((with_reducible apply rthen_ret)) | ((with_reducible apply rwp_block)) | ((with_reducible apply rblock_normal)) | ((with_reducible apply rblock_ret)) | ((with_reducible apply rblock_same)) | ((with_reducible apply rwp_exit)) | ((with_reducible apply rthen_exit)) | ((with_reducible apply rblock_ne); exact rfl) | ((with_reducible apply rwp_cond_1); exact rfl; (first | assumption | exact decide_eq_true (by omega) | (simp only [Bool.not_eq_true', decide_eq_false_iff_not, decide_eq_true_eq, Bool.not_eq_false']; omega) | exact rfl)) | ((with_reducible apply rwp_cond_0); exact rfl; (first | assumption | exact decide_eq_false (by omega) | (simp only [Bool.not_eq_true', decide_eq_false_iff_not, decide_eq_true_eq, Bool.not_eq_false']; omega) | exact rfl)) | ((with_reducible apply hs_c); (repeat (first | ((with_reducible apply al_q); exact rfl) | ((with_reducible apply al_loadP1); (iterate 5 exact rfl)) | ((with_reducible apply al_loadPN); (iterate 5 exact rfl)) | ((with_reducible apply al_idxS); (iterate 3 exact rfl); (first | decide | omega); (first | decide | omega); (first | assumption | rfl); exact rfl) | ((with_reducible apply al_idx); (iterate 3 exact rfl); omega; omega; exact rfl) | ((with_reducible apply al_eqP); (iterate 4 exact rfl)) | ((with_reducible apply al_eqB); (iterate 4 exact rfl)) | ((with_reducible apply al_add); (iterate 3 exact rfl); (first | exact i64_wrap (by omega) | assumption | rfl); exact rfl) | ((with_reducible apply al_sub); (iterate 3 exact rfl); (first | exact i64_wrap (by omega) | assumption | rfl); exact rfl) | ((with_reducible apply al_len); (iterate 3 exact rfl)) | ((with_reducible apply al_bslice); (iterate 10 exact rfl)) | (refine al_call2 rfl rfl rfl rfl (by fail) rfl ?_) | ((with_reducible apply al_guard_b (c := true)); exact rfl; exact rfl; (first | assumption | exact decide_eq_true (by omega) | (simp only [Bool.not_eq_true', decide_eq_false_iff_not, decide_eq_true_eq, Bool.not_eq_false']; omega))) | ((with_reducible apply al_guard_b (c := false)); exact rfl; exact rfl; (first | assumption | exact decide_eq_false (by omega) | (simp only [Bool.not_eq_true', decide_eq_false_iff_not, decide_eq_true_eq, Bool.not_eq_false']; omega))) | ((with_reducible apply al_bin); (iterate 5 exact rfl); (intro W; go_simp; try rfl); (intro W; go_simp; try rfl); exact rfl; exact rfl) | ((with_reducible apply al_un); exact rfl; exact rfl; (intro W; go_simp; try rfl); exact rfl; exact rfl))); (with_reducible apply al_nil)) | ((with_reducible apply hs_len 0); (iterate 3 exact rfl); kernel_rfl; exact rfl) | ((with_reducible apply hs_idx 0); (iterate 4 exact rfl); (first | omega); (first | assumption | omega); exact rfl; kernel_rfl; exact rfl) | ((with_reducible apply hs_loadN 0); (iterate 3 exact rfl); (first | assumption | omega); assumption; exact rfl; kernel_rfl; exact rfl) | ((with_reducible apply hs_load1 0); (iterate 3 exact rfl); (first | assumption | omega); assumption; exact rfl; kernel_rfl; exact rfl)))
      refine hs_app0 0 rfl rfl rfl rfl ?q1 ?q2 rfl rfl (fun v' hv' => ?_)
      case q1 => exact le_maxLen (by show (uqN l k).length + 1 ≤ 1000000; omega)
      case q2 => show ((uqN l k).length + 1) * 8 ≤ 140737488355328; omega
      (repeat (first | ((with_reducible apply hs_nilS); kernel_rfl) | ((with_reducible apply rwp_seq)) | ((with_reducible apply rthen_normal)) | ((with_reducible apply rwp_region)) | ((with_reducible apply hs_nil)) | ((with_reducible apply rwp_ret)) | ((with_reducible apply rwp_skip)) | ((with_reducible apply rthen_ret)) | ((with_reducible apply rwp_block)) | ((with_reducible apply rblock_normal)) | ((with_reducible apply rblock_ret)) | ((with_reducible apply rblock_same)) | ((with_reducible apply rwp_exit)) | ((with_reducible apply rthen_exit)) | ((with_reducible apply rblock_ne); exact rfl) | ((with_reducible apply rwp_cond_1); exact rfl; (first | assumption | exact decide_eq_true (by omega) | (simp only [Bool.not_eq_true', decide_eq_false_iff_not, decide_eq_true_eq, Bool.not_eq_false']; omega) | exact rfl)) | ((with_reducible apply rwp_cond_0); exact rfl; (first | assumption | exact decide_eq_false (by omega) | (simp only [Bool.not_eq_true', decide_eq_false_iff_not, decide_eq_true_eq, Bool.not_eq_false']; omega) | exact rfl)) | ((with_reducible apply hs_c); (repeat (first | ((with_reducible apply al_q); exact rfl) | ((with_reducible apply al_loadP1); (iterate 5 exact rfl)) | ((with_reducible apply al_loadPN); (iterate 5 exact rfl)) | ((with_reducible apply al_idxS); (iterate 3 exact rfl); (first | decide | omega); (first | decide | omega); (first | assumption | rfl); exact rfl) | ((with_reducible apply al_idx); (iterate 3 exact rfl); omega; omega; exact rfl) | ((with_reducible apply al_eqP); (iterate 4 exact rfl)) | ((with_reducible apply al_eqB); (iterate 4 exact rfl)) | ((with_reducible apply al_add); (iterate 3 exact rfl); (first | exact i64_wrap (by omega) | assumption | rfl); exact rfl) | ((with_reducible apply al_sub); (iterate 3 exact rfl); (first | exact i64_wrap (by omega) | assumption | rfl); exact rfl) | ((with_reducible apply al_len); (iterate 3 exact rfl)) | ((with_reducible apply al_bslice); (iterate 10 exact rfl)) | (refine al_call2 rfl rfl rfl rfl (by fail) rfl ?_) | ((with_reducible apply al_guard_b (c := true)); exact rfl; exact rfl; (first | assumption | exact decide_eq_true (by omega) | (simp only [Bool.not_eq_true', decide_eq_false_iff_not, decide_eq_true_eq, Bool.not_eq_false']; omega))) | ((with_reducible apply al_guard_b (c := false)); exact rfl; exact rfl; (first | assumption | exact decide_eq_false (by omega) | (simp only [Bool.not_eq_true', decide_eq_false_iff_not, decide_eq_true_eq, Bool.not_eq_false']; omega))) | ((with_reducible apply al_bin); (iterate 5 exact rfl); (intro W; go_simp; try rfl); (intro W; go_simp; try rfl); exact rfl; exact rfl) | ((with_reducible apply al_un); exact rfl; exact rfl; (intro W; go_simp; try rfl); exact rfl; exact rfl))); (with_reducible apply al_nil)) | ((with_reducible apply hs_len 0); (iterate 3 exact rfl); kernel_rfl; exact rfl) | ((with_reducible apply hs_idx 0); (iterate 4 exact rfl); (first | omega); (first | assumption | omega); exact rfl; kernel_rfl; exact rfl) | ((with_reducible apply hs_loadN 0); (iterate 3 exact rfl); (first | assumption | omega); assumption; exact rfl; kernel_rfl; exact rfl) | ((with_reducible apply hs_load1 0); (iterate 3 exact rfl); (first | assumption | omega); assumption; exact rfl; kernel_rfl; exact rfl)))
      exact ⟨l.length - (k + 1), row1 0 (inRow v' (uqN l (k + 1))), _, _, by omega, ⟨k + 1, v', ki + 1, by omega, rfl, by omega, rfl, rfl, rfl⟩, by rw [hu', e3]; exact row1_le _ _ _, rfl, ⟨rfl, rfl, rfl, rfl, rfl, trivial⟩, trivial, rfl⟩
    · obtain ⟨y, g2⟩ : ∃ y, l[k - 1]? = some y := ⟨_, List.getElem?_eq_getElem (by omega)⟩
      have E2 := inC_at (j := ki - 1) (by omega) g2
      have hy : l.getD (k - 1) 0 = y := by rw [List.getD_eq_getElem?_getD, g2]; rfl
      have q5 : ¬ ki = 0 := by omega
      have q7 : 0 ≤ ki - 1 := by omega
      have q8 : ki - 1 < (l.length : Int) := by omega
      have C1 := p_osame y x
      by_cases hxy : y = x
      · have hu' : uqN l (k + 1) = uqN l k := by rw [uqN, if_neg]; rw [hx, hy]; omega
        rw [decide_eq_true hxy] at C1
        (repeat (first | ((with_reducible apply hs_nilS); kernel_rfl) | ((with_reducible apply rwp_seq)) | ((with_reducible apply rthen_normal)) | ((with_reducible apply rwp_region)) | ((with_reducible apply hs_nil)) | ((with_reducible apply rwp_ret)) | ((with_reducible apply rwp_skip)) | ((with_reducible apply rthen_ret)) | ((with_reducible apply rwp_block)) | ((with_reducible apply rblock_normal)) | ((with_reducible apply rblock_ret)) | ((with_reducible apply rblock_same)) | ((with_reducible apply rwp_exit)) | ((with_reducible apply rthen_exit)) | ((with_reducible apply rblock_ne); exact rfl) | ((with_reducible apply rwp_cond_1); exact rfl; (first | assumption | exact decide_eq_true (by omega) | (simp only [Bool.not_eq_true', decide_eq_false_iff_not, decide_eq_true_eq, Bool.not_eq_false']; omega) | exact rfl)) | ((with_reducible apply rwp_cond_0); exact rfl; (first | assumption | exact decide_eq_false (by omega) | (simp only [Bool.not_eq_true', decide_eq_false_iff_not, decide_eq_true_eq, Bool.not_eq_false']; omega) | exact rfl)) | ((with_reducible apply hs_c); (repeat (first | ((with_reducible apply al_q); exact rfl) | ((with_reducible apply al_loadP1); (iterate 5 exact rfl)) | ((with_reducible apply al_loadPN); (iterate 5 exact rfl)) | ((with_reducible apply al_idxS); (iterate 3 exact rfl); (first | decide | omega); (first | decide | omega); (first | assumption | rfl); exact rfl) | ((with_reducible apply al_idx); (iterate 3 exact rfl); omega; omega; exact rfl) | ((with_reducible apply al_eqP); (iterate 4 exact rfl)) | ((with_reducible apply al_eqB); (iterate 4 exact rfl)) | ((with_reducible apply al_add); (iterate 3 exact rfl); (first | exact i64_wrap (by omega) | assumption | rfl); exact rfl) | ((with_reducible apply al_sub); (iterate 3 exact rfl); (first | exact i64_wrap (by omega) | assumption | rfl); exact rfl) | ((with_reducible apply al_len); (iterate 3 exact rfl)) | ((with_reducible apply al_bslice); (iterate 10 exact rfl)) | (refine al_call2 rfl rfl rfl rfl (by (first | exact C1)) rfl ?_) | ((with_reducible apply al_guard_b (c := true)); exact rfl; exact rfl; (first | assumption | exact decide_eq_true (by omega) | (simp only [Bool.not_eq_true', decide_eq_false_iff_not, decide_eq_true_eq, Bool.not_eq_false']; omega))) | ((with_reducible apply al_guard_b (c := false)); exact rfl; exact rfl; (first | assumption | exact decide_eq_false (by omega) | (simp only [Bool.not_eq_true', decide_eq_false_iff_not, decide_eq_true_eq, Bool.not_eq_false']; omega))) | ((with_reducible apply al_bin); (iterate 5 exact rfl); (intro W; go_simp; try rfl); (intro W; go_simp; try rfl); exact rfl; exact rfl) | ((with_reducible apply al_un); exact rfl; exact rfl; (intro W; go_simp; try rfl); exact rfl; exact rfl))); (with_reducible apply al_nil)) | ((with_reducible apply hs_len 0); (iterate 3 exact rfl); kernel_rfl; exact rfl) | ((with_reducible apply hs_idx 0); (iterate 4 exact rfl); (first | omega); (first | assumption | omega); exact rfl; kernel_rfl; exact rfl) | ((with_reducible apply hs_loadN 0); (iterate 3 exact rfl); (first | assumption | omega); assumption; exact rfl; kernel_rfl; exact rfl) | ((with_reducible apply hs_load1 0); (iterate 3 exact rfl); (first | assumption | omega); assumption; exact rfl; kernel_rfl; exact rfl)))
        exact ⟨l.length - (k + 1), row1 0 (inRow v (uqN l (k + 1))), _, _, by omega, ⟨k + 1, v, ki + 1, by omega, rfl, by omega, rfl, rfl, rfl⟩, by rw [hu']; exact RLe.refl _, rfl, ⟨rfl, rfl, rfl, rfl, rfl, trivial⟩, trivial, rfl⟩
      · have hu' : uqN l (k + 1) = uqN l k ++ [x] := by rw [uqN, if_pos (.inr (by rw [hx, hy]; exact fun e => hxy e.symm)), hx]
        rw [decide_eq_false hxy] at C1
        (repeat (first | ((with_reducible apply hs_nilS); kernel_rfl) | ((with_reducible apply rwp_seq)) | ((with_reducible apply rthen_normal)) | ((with_reducible apply rwp_region)) | ((with_reducible apply hs_nil)) | ((with_reducible apply rwp_ret)) | ((with_reducible apply rwp_skip)) | ((with_reducible apply rthen_ret)) | ((with_reducible apply rwp_block)) | ((with_reducible apply rblock_normal)) | ((with_reducible apply rblock_ret)) | ((with_reducible apply rblock_same)) | ((with_reducible apply rwp_exit)) | ((with_reducible apply rthen_exit)) | ((with_reducible apply rblock_ne); exact rfl) | ((with_reducible apply rwp_cond_1); exact rfl; (first | assumption | exact decide_eq_true (by omega) | (simp only [Bool.not_eq_true', decide_eq_false_iff_not, decide_eq_true_eq, Bool.not_eq_false']; omega) | exact rfl)) | ((with_reducible apply rwp_cond_0); exact rfl; (first | assumption | exact decide_eq_false (by omega) | (simp only [Bool.not_eq_true', decide_eq_false_iff_not, decide_eq_true_eq, Bool.not_eq_false']; omega) | exact rfl)) | ((with_reducible apply hs_c); (repeat (first | ((with_reducible apply al_q); exact rfl) | ((with_reducible apply al_loadP1); (iterate 5 exact rfl)) | ((with_reducible apply al_loadPN); (iterate 5 exact rfl)) | ((with_reducible apply al_idxS); (iterate 3 exact rfl); (first | decide | omega); (first | decide | omega); (first | assumption | rfl); exact rfl) | ((with_reducible apply al_idx); (iterate 3 exact rfl); omega; omega; exact rfl) | ((with_reducible apply al_eqP); (iterate 4 exact rfl)) | ((with_reducible apply al_eqB); (iterate 4 exact rfl)) | ((with_reducible apply al_add); (iterate 3 exact rfl); (first | exact i64_wrap (by omega) | assumption | rfl); exact rfl) | ((with_reducible apply al_sub); (iterate 3 exact rfl); (first | exact i64_wrap (by omega) | assumption | rfl); exact rfl) | ((with_reducible apply al_len); (iterate 3 exact rfl)) | ((with_reducible apply al_bslice); (iterate 10 exact rfl)) | (refine al_call2 rfl rfl rfl rfl (by (first | exact C1)) rfl ?_) | ((with_reducible apply al_guard_b (c := true)); exact rfl; exact rfl; (first | assumption | exact decide_eq_true (by omega) | (simp only [Bool.not_eq_true', decide_eq_false_iff_not, decide_eq_true_eq, Bool.not_eq_false']; omega))) | ((with_reducible apply al_guard_b (c := false)); exact rfl; exact rfl; (first | assumption | exact decide_eq_false (by omega) | (simp only [Bool.not_eq_true', decide_eq_false_iff_not, decide_eq_true_eq, Bool.not_eq_false']; omega))) | ((with_reducible apply al_bin); (iterate 5 exact rfl); (intro W; go_simp; try rfl); (intro W; go_simp; try rfl); exact rfl; exact rfl) | ((with_reducible apply al_un); exact rfl; exact rfl; (intro W; go_simp; try rfl); exact rfl; exact rfl))); (with_reducible apply al_nil)) | ((with_reducible apply hs_len 0); (iterate 3 exact rfl); kernel_rfl; exact rfl) | ((with_reducible apply hs_idx 0); (iterate 4 exact rfl); (first | omega); (first | assumption | omega); exact rfl; kernel_rfl; exact rfl) | ((with_reducible apply hs_loadN 0); (iterate 3 exact rfl); (first | assumption | omega); assumption; exact rfl; kernel_rfl; exact rfl) | ((with_reducible apply hs_load1 0); (iterate 3 exact rfl); (first | assumption | omega); assumption; exact rfl; kernel_rfl; exact rfl)))
        refine hs_app0 0 rfl rfl rfl rfl ?q1 ?q2 rfl rfl (fun v' hv' => ?_)
        case q1 => exact le_maxLen (by show (uqN l k).length + 1 ≤ 1000000; omega)
        case q2 => show ((uqN l k).length + 1) * 8 ≤ 140737488355328; omega
        (repeat (first | ((with_reducible apply hs_nilS); kernel_rfl) | ((with_reducible apply rwp_seq)) | ((with_reducible apply rthen_normal)) | ((with_reducible apply rwp_region)) | ((with_reducible apply hs_nil)) | ((with_reducible apply rwp_ret)) | ((with_reducible apply rwp_skip)) | ((with_reducible apply rthen_ret)) | ((with_reducible apply rwp_block)) | ((with_reducible apply rblock_normal)) | ((with_reducible apply rblock_ret)) | ((with_reducible apply rblock_same)) | ((with_reducible apply rwp_exit)) | ((with_reducible apply rthen_exit)) | ((with_reducible apply rblock_ne); exact rfl) | ((with_reducible apply rwp_cond_1); exact rfl; (first | assumption | exact decide_eq_true (by omega) | (simp only [Bool.not_eq_true', decide_eq_false_iff_not, decide_eq_true_eq, Bool.not_eq_false']; omega) | exact rfl)) | ((with_reducible apply rwp_cond_0); exact rfl; (first | assumption | exact decide_eq_false (by omega) | (simp only [Bool.not_eq_true', decide_eq_false_iff_not, decide_eq_true_eq, Bool.not_eq_false']; omega) | exact rfl)) | ((with_reducible apply hs_c); (repeat (first | ((with_reducible apply al_q); exact rfl) | ((with_reducible apply al_loadP1); (iterate 5 exact rfl)) | ((with_reducible apply al_loadPN); (iterate 5 exact rfl)) | ((with_reducible apply al_idxS); (iterate 3 exact rfl); (first | decide | omega); (first | decide | omega); (first | assumption | rfl); exact rfl) | ((with_reducible apply al_idx); (iterate 3 exact rfl); omega; omega; exact rfl) | ((with_reducible apply al_eqP); (iterate 4 exact rfl)) | ((with_reducible apply al_eqB); (iterate 4 exact rfl)) | ((with_reducible apply al_add); (iterate 3 exact rfl); (first | exact i64_wrap (by omega) | assumption | rfl); exact rfl) | ((with_reducible apply al_sub); (iterate 3 exact rfl); (first | exact i64_wrap (by omega) | assumption | rfl); exact rfl) | ((with_reducible apply al_len); (iterate 3 exact rfl)) | ((with_reducible apply al_bslice); (iterate 10 exact rfl)) | (refine al_call2 rfl rfl rfl rfl (by fail) rfl ?_) | ((with_reducible apply al_guard_b (c := true)); exact rfl; exact rfl; (first | assumption | exact decide_eq_true (by omega) | (simp only [Bool.not_eq_true', decide_eq_false_iff_not, decide_eq_true_eq, Bool.not_eq_false']; omega))) | ((with_reducible apply al_guard_b (c := false)); exact rfl; exact rfl; (first | assumption | exact decide_eq_false (by omega) | (simp only [Bool.not_eq_true', decide_eq_false_iff_not, decide_eq_true_eq, Bool.not_eq_false']; omega))) | ((with_reducible apply al_bin); (iterate 5 exact rfl); (intro W; go_simp; try rfl); (intro W; go_simp; try rfl); exact rfl; exact rfl) | ((with_reducible apply al_un); exact rfl; exact rfl; (intro W; go_simp; try rfl); exact rfl; exact rfl))); (with_reducible apply al_nil)) | ((with_reducible apply hs_len 0); (iterate 3 exact rfl); kernel_rfl; exact rfl) | ((with_reducible apply hs_idx 0); (iterate 4 exact rfl); (first | omega); (first | assumption | omega); exact rfl; kernel_rfl; exact rfl) | ((with_reducible apply hs_loadN 0); (iterate 3 exact rfl); (first | assumption | omega); assumption; exact rfl; kernel_rfl; exact rfl) | ((with_reducible apply hs_load1 0); (iterate 3 exact rfl); (first | assumption | omega); assumption; exact rfl; kernel_rfl; exact rfl)))
        exact ⟨l.length - (k + 1), row1 0 (inRow v' (uqN l (k + 1))), _, _, by omega, ⟨k + 1, v', ki + 1, by omega, rfl, by omega, rfl, rfl, rfl⟩, by rw [hu', e3]; exact row1_le _ _ _, rfl, ⟨rfl, rfl, rfl, rfl, rfl, trivial⟩, trivial, rfl⟩
  · have q2 : ¬ ki < (l.length : Int) := by omega
    have hkl : k = l.length := by omega
    subst hkl
    refine rwp_cool 0 3 (inRow v (uqN l l.length)) rfl rfl ?_
    (repeat (first | ((with_reducible apply hs_nilS); kernel_rfl) | ((with_reducible apply rwp_seq)) | ((with_reducible apply rthen_normal)) | ((with_reducible apply rwp_region)) | ((with_reducible apply hs_nil)) | ((with_reducible apply rwp_ret)) | ((with_reducible apply rwp_skip)) | ((with_reducible apply rthen_ret)) | ((with_reducible apply rwp_block)) | ((with_reducible apply rblock_normal)) | ((with_reducible apply rblock_ret)) | ((with_reducible apply rblock_same)) | ((with_reducible apply rwp_exit)) | ((with_reducible apply rthen_exit)) | ((with_reducible apply rblock_ne); exact rfl) | ((with_reducible apply rwp_cond_1); exact rfl; (first | assumption | exact decide_eq_true (by omega) | (simp only [Bool.not_eq_true', decide_eq_false_iff_not, decide_eq_true_eq, Bool.not_eq_false']; omega) | exact rfl)) | ((with_reducible apply rwp_cond_0); exact rfl; (first | assumption | exact decide_eq_false (by omega) | (simp only [Bool.not_eq_true', decide_eq_false_iff_not, decide_eq_true_eq, Bool.not_eq_false']; omega) | exact rfl)) | ((with_reducible apply hs_c); (repeat (first | ((with_reducible apply al_q); exact rfl) | ((with_reducible apply al_loadP1); (iterate 5 exact rfl)) | ((with_reducible apply al_loadPN); (iterate 5 exact rfl)) | ((with_reducible apply al_idxS); (iterate 3 exact rfl); (first | decide | omega); (first | decide | omega); (first | assumption | rfl); exact rfl) | ((with_reducible apply al_idx); (iterate 3 exact rfl); omega; omega; exact rfl) | ((with_reducible apply al_eqP); (iterate 4 exact rfl)) | ((with_reducible apply al_eqB); (iterate 4 exact rfl)) | ((with_reducible apply al_add); (iterate 3 exact rfl); (first | exact i64_wrap (by omega) | assumption | rfl); exact rfl) | ((with_reducible apply al_sub); (iterate 3 exact rfl); (first | exact i64_wrap (by omega) | assumption | rfl); exact rfl) | ((with_reducible apply al_len); (iterate 3 exact rfl)) | ((with_reducible apply al_bslice); (iterate 10 exact rfl)) | (refine al_call2 rfl rfl rfl rfl (by fail) rfl ?_) | ((with_reducible apply al_guard_b (c := true)); exact rfl; exact rfl; (first | assumption | exact decide_eq_true (by omega) | (simp only [Bool.not_eq_true', decide_eq_false_iff_not, decide_eq_true_eq, Bool.not_eq_false']; omega))) | ((with_reducible apply al_guard_b (c := false)); exact rfl; exact rfl; (first | assumption | exact decide_eq_false (by omega) | (simp only [Bool.not_eq_true', decide_eq_false_iff_not, decide_eq_true_eq, Bool.not_eq_false']; omega))) | ((with_reducible apply al_bin); (iterate 5 exact rfl); (intro W; go_simp; try rfl); (intro W; go_simp; try rfl); exact rfl; exact rfl) | ((with_reducible apply al_un); exact rfl; exact rfl; (intro W; go_simp; try rfl); exact rfl; exact rfl))); (with_reducible apply al_nil)) | ((with_reducible apply hs_len 0); (iterate 3 exact rfl); kernel_rfl; exact rfl) | ((with_reducible apply hs_idx 0); (iterate 4 exact rfl); (first | omega); (first | assumption | omega); exact rfl; kernel_rfl; exact rfl) | ((with_reducible apply hs_loadN 0); (iterate 3 exact rfl); (first | assumption | omega); assumption; exact rfl; kernel_rfl; exact rfl) | ((with_reducible apply hs_load1 0); (iterate 3 exact rfl); (first | assumption | omega); assumption; exact rfl; kernel_rfl; exact rfl)))
    (first | (refine apost_ret rfl (resl_tmp rfl resl_nil) ?_))
    exact AV.Le.refl _
set_option maxRecDepth 100000 in
set_option maxHeartbeats 8000000 in
theorem p_alive7 : PCall Try.prog 9 [] (vB true) := by
  have s1 : srtL ltK [((3 : Int), (0 : Int)), (1, 0), (2, 0)] = [(1, 0), (2, 0), (3, 0)] := by
    rw [srtL, dif_neg (by simp)]
    have h1 : srtL ltK [((3 : Int), (0 : Int))] = [(3, 0)] := by rw [srtL, dif_pos (by simp)]
    have h2 : srtL ltK [((1 : Int), (0 : Int)), (2, 0)] = [(1, 0), (2, 0)] := by
      rw [srtL, dif_neg (by simp)]
      have g1 : srtL ltK [((1 : Int), (0 : Int))] = [(1, 0)] := by rw [srtL, dif_pos (by simp)]
      have g2 : srtL ltK [((2 : Int), (0 : Int))] = [(2, 0)] := by rw [srtL, dif_pos (by simp)]
      show mrgL ltK (srtL ltK [((1 : Int), (0 : Int))]) (srtL ltK [((2 : Int), (0 : Int))]) = _
      rw [g1, g2]
      simp [mrgL]
    show mrgL ltK (srtL ltK [((3 : Int), (0 : Int))]) (srtL ltK [((1 : Int), (0 : Int)), (2, 0)]) = _
    rw [h1, h2]
    simp [mrgL]
  have s2 : mrgL ltK [((1 : Int), (0 : Int)), (4, 0)] [(2, 0)] = [(1, 0), (2, 0), (4, 0)] := by simp [mrgL]
  have C1 := p_SortK (lf := 23) (lt := ltK) (fun x n y m => p_below) 3 [((3 : Int), (0 : Int)), (1, 0), (2, 0)] (by simp) (by omega)
  rw [s1] at C1
  have D1 : PCall Try.prog 24 [vS 1 3 [.c (.int .i64 3), .c (.int .i64 1), .c (.int .i64 2)], vFn 23] (vS 1 3 [.c (.int .i64 1), .c (.int .i64 2), .c (.int .i64 3)]) := C1
  have C2 := p_mergeK (lf := 23) (lt := ltK) (fun x n y m => p_below) (a := [((1 : Int), (0 : Int)), (4, 0)]) (b := [(2, 0)]) (by simp) (by simp)
  rw [s2] at C2
  have D2 : PCall Try.prog 25 [vS 1 2 [.c (.int .i64 1), .c (.int .i64 4)], vS 1 1 [.c (.int .i64 2)], vFn 23] (vS 1 3 [.c (.int .i64 1), .c (.int .i64 2), .c (.int .i64 4)]) := C2
  have D3 : PCall Try.prog 16 [vS 1 3 [.c (.int .i64 1), .c (.int .i64 1), .c (.int .i64 2)]] (vS 1 2 [.c (.int .i64 1), .c (.int .i64 2)]) := p_Unique (l := [1, 1, 2]) (by simp)
  have D4 : PCall Try.prog 18 [vP 2 0, vP 0 0] (vAlong true false) := p_Along
  have D5 : PCall Try.prog 26 [vS 1 3 [.c (.int .i64 1), .c (.int .i64 2), .c (.int .i64 3)], vFn 23] (vB true) := p_IsK (lf := 23) (lt := ltK) (fun x n y m => p_below) (l := [((1 : Int), (0 : Int)), (2, 0), (3, 0)]) (by simp)
  have D6 : PCall Try.prog 26 [vS 1 2 [.c (.int .i64 2), .c (.int .i64 1)], vFn 23] (vB false) := p_IsK (lf := 23) (lt := ltK) (fun x n y m => p_below) (l := [((2 : Int), (0 : Int)), (1, 0)]) (by simp)
  have D7 : PCall Try.prog 28 [vP 2 0, vP 1 0, .w (.one (cB true)), .w (.one (cB false))] (vB true) := p_along1 rfl
  have D8 : PCall Try.prog 28 [vP 1 0, vP 2 0, .w (.one (cB true)), .w (.one (cB false))] (vB false) := p_along1 rfl
  clear C1 C2 s1 s2
  refine pcall_body (f := 9) Try.func9 rfl rfl rfl rfl ?_
  (repeat (first | ((with_reducible apply al_q); exact rfl) | ((with_reducible apply al_loadP1); (iterate 5 exact rfl)) | ((with_reducible apply al_loadPN); (iterate 5 exact rfl)) | ((with_reducible apply al_idxS); (iterate 3 exact rfl); (first | decide | omega); (first | decide | omega); (first | assumption | rfl); exact rfl) | ((with_reducible apply al_idx); (iterate 3 exact rfl); omega; omega; exact rfl) | ((with_reducible apply al_eqP); (iterate 4 exact rfl)) | ((with_reducible apply al_eqB); (iterate 4 exact rfl)) | ((with_reducible apply al_len); (iterate 3 exact rfl)) | ((with_reducible apply al_bslice); (iterate 10 exact rfl)) | ((with_reducible apply al_eqT); (iterate 4 exact rfl); kernel_rfl) | (refine al_call1 rfl rfl rfl (by (first | exact D1 | exact D2 | exact D3 | exact D4 | exact D5 | exact D6 | exact D7 | exact D8)) rfl ?_) | (refine al_call2 rfl rfl rfl rfl (by (first | exact D1 | exact D2 | exact D3 | exact D4 | exact D5 | exact D6 | exact D7 | exact D8)) rfl ?_) | (refine al_call3 rfl rfl rfl rfl rfl (by (first | exact D1 | exact D2 | exact D3 | exact D4 | exact D5 | exact D6 | exact D7 | exact D8)) rfl ?_) | (refine al_callb (bs := [_]) (args := [_, _]) rfl rfl rfl rfl (by (first | exact D1 | exact D2 | exact D3 | exact D4 | exact D5 | exact D6 | exact D7 | exact D8)) rfl ?_) | (refine al_callF (args := [_, _]) rfl rfl rfl (by (first | exact D1 | exact D2 | exact D3 | exact D4 | exact D5 | exact D6 | exact D7 | exact D8)) rfl ?_) | ((with_reducible apply al_guard_b (c := true)); exact rfl; exact rfl; (first | assumption | exact decide_eq_true (by omega) | (simp only [Bool.not_eq_true', decide_eq_false_iff_not, decide_eq_true_eq, Bool.not_eq_false']; omega))) | ((with_reducible apply al_guard_b (c := false)); exact rfl; exact rfl; (first | assumption | exact decide_eq_false (by omega) | (simp only [Bool.not_eq_true', decide_eq_false_iff_not, decide_eq_true_eq, Bool.not_eq_false']; omega))) | ((with_reducible apply al_bin); (iterate 5 exact rfl); (intro W; go_simp; try rfl); (intro W; go_simp; try rfl); exact rfl; exact rfl) | ((with_reducible apply al_un); exact rfl; exact rfl; (intro W; go_simp; try rfl); exact rfl; exact rfl) | ((with_reducible apply al_nilS); kernel_rfl) | ((with_reducible apply awp_region_draw); kernel_rfl; kernel_rfl; exact rfl) | ((with_reducible apply awp_seq)) | ((with_reducible apply athen_normal)) | ((with_reducible apply awp_region)) | ((with_reducible apply al_nil)) | ((with_reducible apply awp_ret)) | ((with_reducible apply awp_skip)) | ((with_reducible apply athen_ret))))
  (first | (refine apost_ret rfl (resl_tmp rfl resl_nil) ?_))
  exact AV.Le.refl _
end Go.Proofs.Ytcplkjnmfdinaaa

namespace Go.Proofs.Ytcplkjnmfdinaaa
set_option linter.unusedVariables false
/-- where a number lies in its strip, at two places of a way. -/
theorem way_lt {P a b x z n1 d1 n2 d2 : Int} (hP : 0 < P) (h1 : 0 < d1) (h2 : 0 < d2) (up : 2 * (a * (d1 - n1) + b * n1) < (2 * (P * x) + P) * d1) (lo : (2 * (P * z) - P) * d2 ≤ 2 * (a * (d2 - n2) + b * n2)) (hxz : x < z) : (b - a) * (n1 * d2) < (b - a) * (n2 * d1) := by
  have s1 : 2 * (a * (d1 - n1) + b * n1) * d2 < (2 * (P * x) + P) * d1 * d2 := Int.mul_lt_mul_of_pos_right up h2
  have s2 : (2 * (P * z) - P) * d2 * d1 ≤ 2 * (a * (d2 - n2) + b * n2) * d1 := Int.mul_le_mul_of_nonneg_right lo (by omega)
  have hPx : P * (x + 1) ≤ P * z := Int.mul_le_mul_of_nonneg_left (by omega) (by omega)
  have e0 : P * (x + 1) = P * x + P := by grind
  have s3 : (2 * (P * x) + P) * (d1 * d2) ≤ (2 * (P * z) - P) * (d1 * d2) := Int.mul_le_mul_of_nonneg_right (by omega) (Int.le_of_lt (Int.mul_pos h1 h2))
  have i1 : 2 * (a * (d1 - n1) + b * n1) * d2 = 2 * (a * (d1 * d2)) + 2 * ((b - a) * (n1 * d2)) := by grind
  have i2 : 2 * (a * (d2 - n2) + b * n2) * d1 = 2 * (a * (d1 * d2)) + 2 * ((b - a) * (n2 * d1)) := by grind
  have i3 : (2 * (P * x) + P) * d1 * d2 = (2 * (P * x) + P) * (d1 * d2) := by grind
  have i4 : (2 * (P * z) - P) * d2 * d1 = (2 * (P * z) - P) * (d1 * d2) := by grind
  omega
theorem way_up {P a b x z n1 d1 n2 d2 : Int} (hP : 0 < P) (h1 : 0 < d1) (h2 : 0 < d2) (up : 2 * (a * (d1 - n1) + b * n1) < (2 * (P * x) + P) * d1) (lo : (2 * (P * z) - P) * d2 ≤ 2 * (a * (d2 - n2) + b * n2)) (hxz : x < z) (hab : a ≤ b) : n1 * d2 < n2 * d1 := by
  have h := way_lt hP h1 h2 up lo hxz
  rcases Int.lt_or_le (n1 * d2) (n2 * d1) with q | q
  · exact q
  · have := Int.mul_le_mul_of_nonneg_left q (show 0 ≤ b - a by omega)
    omega
theorem way_dn {P a b x z n1 d1 n2 d2 : Int} (hP : 0 < P) (h1 : 0 < d1) (h2 : 0 < d2) (up : 2 * (a * (d1 - n1) + b * n1) < (2 * (P * x) + P) * d1) (lo : (2 * (P * z) - P) * d2 ≤ 2 * (a * (d2 - n2) + b * n2)) (hxz : x < z) (hab : b < a) : n2 * d1 < n1 * d2 := by
  have h := way_lt hP h1 h2 up lo hxz
  rcases Int.lt_or_le (n2 * d1) (n1 * d2) with q | q
  · exact q
  · have := Int.mul_le_mul_of_nonneg_left q (show 0 ≤ a - b by omega)
    have e1 : (a - b) * (n1 * d2) = - ((b - a) * (n1 * d2)) := by grind
    have e2 : (a - b) * (n2 * d1) = - ((b - a) * (n2 * d1)) := by grind
    omega
/-- at a place of the way: a number's strip. -/
structure At (P a b x n d : Int) : Prop where
  lo : (2 * (P * x) - P) * d ≤ 2 * (a * (d - n) + b * n)
  up : 2 * (a * (d - n) + b * n) < (2 * (P * x) + P) * d
/-- the first number goes with the way, or stays: the second doesn't go back. -/
theorem way_two {P a b c e x y z w n1 d1 n2 d2 : Int} (hP : 0 < P) (h1 : 0 < d1) (h2 : 0 < d2) (A1 : At P a b x n1 d1) (A2 : At P c e y n1 d1) (B1 : At P a b z n2 d2) (B2 : At P c e w n2 d2)
    (hx : (x < z ∧ a ≤ b) ∨ (z < x ∧ b < a)) : (c ≤ e → y ≤ w) ∧ (e < c → w ≤ y) := by
  have ht : n1 * d2 < n2 * d1 := by
    rcases hx with ⟨q1, q2⟩ | ⟨q1, q2⟩
    · exact way_up hP h1 h2 A1.up B1.lo q1 q2
    · exact way_dn hP h2 h1 B1.up A1.lo q1 q2
  refine ⟨fun he => ?_, fun he => ?_⟩
  · rcases Int.lt_or_le w y with q | q
    · have := way_up hP h2 h1 B2.up A2.lo q he; omega
    · exact q
  · rcases Int.lt_or_le y w with q | q
    · have := way_dn hP h1 h2 A2.up B2.lo q he; omega
    · exact q
end Go.Proofs.Ytcplkjnmfdinaaa

namespace Go.Proofs.Ytcplkjnmfdinaaa
open Go

section
variable {P : Program} {ops : Array Oper} {Q : Exit → Act → World → Prop} {md : Region.Mode} {S : World → Prop} {T : Nat → Bool}

/-- From here on in whatever order; S holds behind each operation but the late ones, which T names. -/
def Late (P : Program) (md : Region.Mode) (ops : Array Oper) (Q : Exit → Act → World → Prop) (S : World → Prop) (T : Nat → Bool) : Nat → Array Bool → Act → World → Prop
  | 0, l, a, w => Region.ready md ops l = [] ∧ Q .normal a w
  | n + 1, l, a, w => (Region.ready md ops l = [] → Q .normal a w) ∧ ∀ i ∈ Region.ready md ops l, wpOp P ops Q i (fun a' w' => (T i = true ∨ S w') ∧ Late P md ops Q S T n (l.setIfInBounds i true) a' w') a w

theorem Late.any {n : Nat} : ∀ {l : Array Bool} {a : Act} {w : World}, Late P md ops Q S T n l a w → wpAny P md ops Q n l a w := by
  induction n with
  | zero => exact fun h => h
  | succ n ih => exact fun h => ⟨h.1, fun i hi => wpOp_mono (fun _ _ k => ih k.2) (h.2 i hi)⟩

/-- What may come up waits for nothing that has not come up. -/
theorem no_wait {l : Array Bool} {i j : Nat} {oj : Oper} {e : Edge} (hun : l.getD i true = false) (hj : j ∈ Region.ready md ops l) (hoj : ops[j]? = some oj) (he : e ∈ oj.after) (hb : Region.binds md e = true) : e.on ≠ i := by
  rintro rfl
  obtain ⟨_, o, ho, hall⟩ := mem_ready.1 hj
  obtain rfl : oj = o := Option.some.inj (hoj.symm.trans ho)
  have h := hall e he hb
  cases hs : l[e.on]? with
  | none => simp [Array.getD_eq_getD_getElem?, hs] at hun
  | some b => simp [Array.getD_eq_getD_getElem?, hs] at hun h; rw [hun] at h; cases h

theorem un_set {l : Array Bool} {j m : Nat} (h : (l.setIfInBounds j true).getD m true = false) : l.getD m true = false := by
  by_cases e : j = m
  · subst e
    rw [Array.getD_eq_getD_getElem?, Array.getElem?_setIfInBounds] at h
    by_cases q : j < l.size
    · simp [q] at h
    · rw [if_pos rfl, if_neg q] at h; cases h
  · rw [getD_set_ne true e] at h; exact h
/-- One that may come up is taken first: every other one waits for it, or is apart from it; the late ones wait for it, or for number k, which waits for it. -/
theorem Late.first {i k : Nat} {oi : Oper} {v : Value} {U : Nat → Prop} (hi : ops[i]? = some oi) (hsel : ∀ (j : Nat) (o : Oper) cs b, ops[j]? = some o → o.op ≠ .select cs b)
    (hQ : ∀ c a w, Q (.panic c) (a.put oi.dst v) w → Q (.panic c) a w)
    (hap : ∀ j oj, U j → ops[j]? = some oj → j ≠ i → (∀ e ∈ oj.after, Region.binds md e = true → e.on ≠ i) → oi.apart ops oj = true)
    (hT : ∀ j oj, U j → T j = true → ops[j]? = some oj → ∃ e ∈ oj.after, Region.binds md e = true ∧ (e.on = i ∨ e.on = k))
    (hk : ∀ ok, ops[k]? = some ok → ∃ e ∈ ok.after, Region.binds md e = true ∧ e.on = i) (n : Nat) :
    ∀ (l : Array Bool) (a : Act) (w : World), (∀ j, l.getD j true = false → U j) → l.getD k true = false → i ∈ Region.ready md ops l → YieldsIf P ops S oi v a → S w →
      Late P md ops Q S T n (l.setIfInBounds i true) (a.put oi.dst v) w → Late P md ops Q S T (n + 1) l a w := by
  induction n with
  | zero =>
    intro l a w _ _ hr hy hS H
    refine ⟨fun h => absurd (h ▸ hr) (List.not_mem_nil), fun j hj => ?_⟩
    by_cases e : j = i
    · exact e ▸ hy.wpOp hi hS ⟨.inr hS, H⟩
    · exact absurd (H.1 ▸ ready_mono hj e) (List.not_mem_nil)
  | succ n ih =>
    intro l a w hU hl hr hy hS H
    have hun : l.getD i true = false := (mem_ready.1 hr).1
    refine ⟨fun h => absurd (h ▸ hr) (List.not_mem_nil), fun j hj => ?_⟩
    by_cases e : j = i
    · exact e ▸ hy.wpOp hi hS ⟨.inr hS, H⟩
    obtain ⟨_, oj, hoj, _⟩ := mem_ready.1 hj
    have hno : ∀ e ∈ oj.after, Region.binds md e = true → e.on ≠ i := fun e he hb => no_wait hun hj hoj he hb
    have hUj : U j := hU j (mem_ready.1 hj).1
    refine wpOp_mono (fun a' w' h => ?_) (wpOp_putIf hoj (hap j oj hUj hoj e hno) (fun cs b => hsel i oi cs b hi) (fun cs b => hsel j oj cs b hoj) hQ hy (H.2 j (ready_mono hj e)))
    obtain ⟨hy', ht | hS', H'⟩ := h
    · obtain ⟨x, hx, hb, hon | hon⟩ := hT j oj hUj ht hoj
      · exact absurd hon (hno x hx hb)
      · exact absurd hon (no_wait hl hj hoj hx hb)
    · have jk : j ≠ k := fun ek => by
        subst ek
        obtain ⟨x, hx, hb, hon⟩ := hk oj hoj
        exact hno x hx hb hon
      refine ⟨.inr hS', ih _ a' w' (fun m hm => hU m (un_set hm)) (by rw [getD_set_ne true jk]; exact hl) (ready_mono hr (Ne.symm e)) hy' hS' ?_⟩
      rw [Array.setIfInBounds_comm _ _ e]
      exact H'

/-- the three conditions, as one Bool. -/
def mayFirst (md : Region.Mode) (ops : Array Oper) (T : Nat → Bool) (l : Array Bool) (oi : Oper) (i k : Nat) : Bool :=
  (List.range ops.size).all (fun j => l.getD j true || (j == i || Region.waitsFor md ops j i || (match ops[j]? with | some oj => oi.apart ops oj | none => true)) && (!T j || Region.waitsFor md ops j i || Region.waitsFor md ops j k)) && Region.waitsFor md ops k i && !l.getD k true
end
end Go.Proofs.Ytcplkjnmfdinaaa

namespace Go.Proofs.Ytcplkjnmfdinaaa
set_option linter.unusedVariables false

/-- the number of a row, x standing above its highest digit. -/
def dvx : List Int → Int → Int
  | [], x => x
  | d :: ds, x => d + 10000 * dvx ds x
/-- a row's number. -/
def dval (ds : List Int) : Int := dvx ds 0
/-- all are digits. -/
def IsD (ds : List Int) : Prop := ∀ d ∈ ds, 0 ≤ d ∧ d < 10000
/-- the number of a row's digits from k on. -/
def hi (ds : List Int) (k : Nat) : Int := dval (ds.drop k)
/-- no nought at the high end. -/
def NoZ (ds : List Int) : Prop := 0 < ds.length → ds.getD (ds.length - 1) 0 ≠ 0

theorem IsD.tail {d : Int} {ds : List Int} (h : IsD (d :: ds)) : IsD ds := fun x hx => h x (List.mem_cons_of_mem _ hx)
theorem IsD.head {d : Int} {ds : List Int} (h : IsD (d :: ds)) : 0 ≤ d ∧ d < 10000 := h d List.mem_cons_self
theorem IsD.nil : IsD [] := fun d h => by cases h
theorem IsD.take {ds : List Int} (h : IsD ds) (k : Nat) : IsD (ds.take k) := fun x hx => h x (List.mem_of_mem_take hx)
theorem IsD.drop {ds : List Int} (h : IsD ds) (k : Nat) : IsD (ds.drop k) := fun x hx => h x (List.mem_of_mem_drop hx)
theorem IsD.set {ds : List Int} (h : IsD ds) (k : Nat) {d : Int} (h0 : 0 ≤ d) (h1 : d < 10000) : IsD (ds.set k d) := by
  intro x hx
  rcases List.mem_or_eq_of_mem_set hx with k | k
  · exact h x k
  · exact k ▸ ⟨h0, h1⟩
theorem IsD.getD {ds : List Int} (h : IsD ds) (k : Nat) : 0 ≤ ds.getD k 0 ∧ ds.getD k 0 < 10000 := by
  by_cases e : k < ds.length
  · rw [List.getD_eq_getElem?_getD, List.getElem?_eq_getElem e]
    exact h _ (List.getElem_mem e)
  · rw [List.getD_eq_getElem?_getD, List.getElem?_eq_none (by omega)]
    exact ⟨by decide, by decide⟩
theorem dvx_nonneg {a : List Int} (h : IsD a) {x : Int} (hx : 0 ≤ x) : 0 ≤ dvx a x := by
  induction a with
  | nil => exact hx
  | cons d ds ih => have := h.head; have := ih h.tail; simp only [dvx]; omega
theorem dval_nonneg {a : List Int} (h : IsD a) : 0 ≤ dval a := dvx_nonneg h (by omega)
theorem dval_cons (d : Int) (ds : List Int) : dval (d :: ds) = d + 10000 * dval ds := rfl
theorem dval_nil : dval [] = 0 := rfl
theorem dval_lt {ds : List Int} (h : IsD ds) : dval ds < 10000 ^ ds.length := by
  induction ds with
  | nil => decide
  | cons d ds ih => have := h.head; have := ih h.tail; rw [dval_cons, List.length_cons, Int.pow_succ]; omega
theorem pow_pos' (k : Nat) : (0 : Int) < 10000 ^ k := Int.pow_pos (by decide)
theorem pow_mono {k j : Nat} (h : k ≤ j) : (10000 : Int) ^ k ≤ 10000 ^ j := by
  obtain ⟨d, rfl⟩ := Nat.exists_eq_add_of_le h
  clear h
  induction d with
  | zero => exact Int.le_refl _
  | succ d ih => have := pow_pos' (k + d); rw [← Nat.add_assoc, Int.pow_succ]; omega
theorem nm_ge {ds : List Int} (h : IsD ds) (n : NoZ ds) (k : Nat) (e : ds.length = k + 1) : (10000 : Int) ^ k ≤ dval ds := by
  induction ds generalizing k with
  | nil => cases e
  | cons d ds ih =>
    rw [dval_cons]
    have hh := h.head
    cases k with
    | zero =>
      obtain rfl : ds = [] := List.eq_nil_of_length_eq_zero (by simpa using e)
      have := n (by simp)
      simp at this
      show (1 : Int) ≤ _
      rw [dval_nil]
      omega
    | succ k =>
      have hl : ds.length = k + 1 := by simpa using e
      have n' : NoZ ds := by
        intro hp
        have := n (by simp)
        rw [List.length_cons, hl] at this
        rw [hl]
        simpa using this
      have := ih h.tail n' k hl
      rw [Int.pow_succ]
      omega
/-- a row without noughts at its high end is as short as its number. -/
theorem nm_len {ds : List Int} (h : IsD ds) (n : NoZ ds) {k : Nat} (hk : dval ds < 10000 ^ k) : ds.length ≤ k := by
  rcases Nat.lt_or_ge k ds.length with hlt | hge
  · exfalso
    obtain ⟨j, hj⟩ : ∃ j, ds.length = j + 1 := ⟨ds.length - 1, by omega⟩
    have h1 := nm_ge h n j hj
    have h2 : (10000 : Int) ^ k ≤ 10000 ^ j := pow_mono (by omega)
    omega
  · exact hge
theorem nm_zero {ds : List Int} (h : IsD ds) (n : NoZ ds) (e : dval ds = 0) : ds = [] := by
  have := nm_len h n (k := 0) (by rw [e]; decide)
  exact List.eq_nil_of_length_eq_zero (by omega)
end Go.Proofs.Ytcplkjnmfdinaaa
namespace Go.Proofs.Ytcplkjnmfdinaaa
set_option linter.unusedVariables false

theorem getD_set_ne {o : List Int} {k j : Nat} (h : k ≠ j) (d : Int) : (o.set k d).getD j 0 = o.getD j 0 := by
  rw [List.getD_eq_getElem?_getD, List.getElem?_set_ne h, List.getD_eq_getElem?_getD]
/-- the part of a row from i to i + k. -/
def mid (o : List Int) (i k : Nat) : List Int := (o.drop i).take k
/-- What a product's inner round keeps: the row from i on, and what is to come, is what it was at first, and x times b. -/
def MulIn (o : List Int) (i k : Nat) (c x : Int) (b : List Int) (T : Int) : Prop := dvx (mid o i k) (hi o (i + k) + c + x * hi b k) = T
/-- What a product's outer round keeps. -/
def MulOut (o a b : List Int) (i : Nat) : Prop := dvx (o.take i) (hi o i + hi a i * dval b) = dval a * dval b
/-- a sign and a row: a number. -/
def sg (neg : Bool) (n : Int) : Int := if neg then -n else n
theorem sg_false (n : Int) : sg false n = n := rfl
theorem sg_true (n : Int) : sg true n = -n := rfl
/-- A row of digits, and a sign, that stand for n: no nought at the high end, and 0 has no sign. -/
structure Std (neg : Bool) (ds : List Int) (n : Int) : Prop where
  dg : IsD ds
  nm : NoZ ds
  sign : neg = true → ds ≠ []
  val : n = sg neg (dval ds)
theorem Std.pos {neg : Bool} {ds : List Int} {n : Int} (h : Std neg ds n) (hn : ds ≠ []) : 0 < dval ds := by
  have h1 := dval_nonneg h.dg
  rcases Int.lt_or_eq_of_le h1 with k | k
  · exact k
  · exact absurd (nm_zero h.dg h.nm k.symm) hn
theorem Std.abs {neg : Bool} {ds : List Int} {n : Int} (h : Std neg ds n) : dval ds = n.natAbs := by
  have h1 := dval_nonneg h.dg
  have hv := h.val
  cases neg with
  | false => rw [sg_false] at hv; omega
  | true => rw [sg_true] at hv; omega
theorem Std.len {neg : Bool} {ds : List Int} {n : Int} (h : Std neg ds n) {k : Nat} (hk : (n.natAbs : Int) < 10000 ^ k) : ds.length ≤ k := nm_len h.dg h.nm (by rw [h.abs]; exact hk)
end Go.Proofs.Ytcplkjnmfdinaaa

namespace Go.Proofs.Ytcplkjnmfdinaaa
open Go.RowKit
set_option linter.unusedVariables false

/-- a slice of ints that reads as the row ds. -/
def Dg (w : World) (A : Option Addr) (l c : Nat) (ds : List Int) : Prop :=
  ds.length = l ∧ l ≤ c ∧ c ≤ 9223372036854775807 ∧ (0 < l → ∃ g, A = some ⟨g, 0, none⟩ ∧ g < w.heap.size ∧ ∀ j, j < l → w.cell? ⟨g, j, none⟩ = some (.int .i64 (ds.getD j 0)))
theorem Dg.call {w w' : World} {A : Option Addr} {l c : Nat} {ds : List Int} (h : Dg w A l c ds) (hb : Below w.heap.size w w') : Dg w' A l c ds := by
  obtain ⟨h1, h2, h3, k⟩ := h
  refine ⟨h1, h2, h3, fun hne => ?_⟩
  obtain ⟨g, rfl, hg, hc⟩ := k hne
  exact ⟨g, rfl, Nat.lt_of_lt_of_le hg hb.size, fun j hj => (hb.cell (p := ⟨g, j, none⟩) hg).trans (hc j hj)⟩
theorem Dg.alloc {w : World} {A : Option Addr} {l c : Nat} {ds : List Int} (h : Dg w A l c ds) (o : Obj) : Dg (w.alloc o) A l c ds := h.call ((Below.refl _ _).alloc (Nat.le_refl _) o)
theorem Dg.nil {w : World} {A : Option Addr} {c : Nat} (hc : c ≤ 9223372036854775807) : Dg w A 0 c [] := ⟨rfl, Nat.zero_le _, hc, fun h => absurd h (by omega)⟩
theorem Dg.take {w : World} {A : Option Addr} {l c : Nat} {ds : List Int} (h : Dg w A l c ds) {k : Nat} (hk : k ≤ l) : Dg w A k c (ds.take k) := by
  obtain ⟨h1, h2, h3, h4⟩ := h
  refine ⟨by rw [List.length_take]; omega, by omega, h3, fun hp => ?_⟩
  obtain ⟨g, e, hg, hc⟩ := h4 (by omega)
  refine ⟨g, e, hg, fun j hj => ?_⟩
  rw [hc j (by omega), List.getD_eq_getElem?_getD, List.getD_eq_getElem?_getD, List.getElem?_take_of_lt hj]
theorem Dg.own {w : World} {base : Nat} {v : Value} {n : Nat} {ds : List Int} (h : w.ownsRow base 3 1 v n (ds.map (Value.int .i64))) : ∃ A c, v = .slice A n c ∧ Dg w A n c ds := by
  have hl : ds.length = n := by have := h.1; simpa using this
  have hh := h
  rcases h.2 with ⟨rfl, rfl⟩ | ⟨g, cap, cur, rfl, hb, hg, hn, hm, hs, ht⟩
  · exact ⟨none, 0, rfl, hl, Nat.le_refl _, by omega, fun k => absurd k (by omega)⟩
  · refine ⟨_, cap, rfl, hl, hn, by simpa [maxLen] using hm, fun _ => ⟨g, rfl, (Array.getElem?_eq_some_iff.1 hg).1, fun j hj => ?_⟩⟩
    rw [hh.cellAt j (by omega), List.getElem?_map, List.getElem?_eq_getElem (by omega), List.getD_eq_getElem?_getD, List.getElem?_eq_getElem (by omega)]
    rfl
/-- A number of the reference package, in memory w: its sign, its slice; n: the number. -/
def IsN (w : World) (neg : Bool) (A : Option Addr) (l c : Nat) (n : Int) : Prop := ∃ ds, Dg w A l c ds ∧ Std neg ds n
theorem IsN.call {w w' : World} {neg : Bool} {A : Option Addr} {l c : Nat} {n : Int} (h : IsN w neg A l c n) (hb : Below w.heap.size w w') : IsN w' neg A l c n := by
  obtain ⟨ds, h1, h2⟩ := h
  exact ⟨ds, h1.call hb, h2⟩
theorem IsN.len {w : World} {neg : Bool} {A : Option Addr} {l c : Nat} {n : Int} (h : IsN w neg A l c n) {k : Nat} (hk : (n.natAbs : Int) < 10000 ^ k) : l ≤ k := by
  obtain ⟨ds, h1, h2⟩ := h
  rw [← h1.1]
  exact h2.len hk
/-- the number n comes back, in memory of its own; all elder memory is as it was. -/
def RN (n : Int) (w : World) (e : Ending) (w' : World) : Prop := ∃ neg A l c, e = .returned (.agg #[.bool neg, .slice A l c]) ∧ IsN w' neg A l c n ∧ Below w.heap.size w w'
/-- a row whose number is n comes back. -/
def RD (n : Int) (k : Nat) (w : World) (e : Ending) (w' : World) : Prop := ∃ A l c ds, e = .returned (.slice A l c) ∧ Dg w' A l c ds ∧ IsD ds ∧ dval ds = n ∧ l ≤ k ∧ Below w.heap.size w w'

/-- the slice lies in no block below b. -/
def Fr (b : Nat) (A : Option Addr) : Prop := ∀ a, A = some a → b ≤ a.block
/-- RN, in memory that is new. -/
def RNF (n : Int) (w : World) (e : Ending) (w' : World) : Prop := ∃ neg A l c, e = .returned (.agg #[.bool neg, .slice A l c]) ∧ IsN w' neg A l c n ∧ Below w.heap.size w w' ∧ Fr w.heap.size A
/-- RD, in memory that is new. -/
def RDF (n : Int) (k : Nat) (w : World) (e : Ending) (w' : World) : Prop := ∃ A l c ds, e = .returned (.slice A l c) ∧ Dg w' A l c ds ∧ IsD ds ∧ dval ds = n ∧ l ≤ k ∧ Below w.heap.size w w' ∧ Fr w.heap.size A
/-- RN, in the row that was given. -/
def RT (n : Int) (A : Option Addr) (c : Nat) (w : World) (e : Ending) (w' : World) : Prop := ∃ neg l, e = .returned (.agg #[.bool neg, .slice A l c]) ∧ IsN w' neg A l c n ∧ Below w.heap.size w w'
theorem Fr.own {w : World} {base : Nat} {t : TypeId} {A : Option Addr} {n c : Nat} {xs : List Value} (h : w.ownsRow base t 1 (.slice A n c) n xs) : Fr base A := fun a e => by
  subst e
  exact (h.lt a.block rfl).1
end Go.Proofs.Ytcplkjnmfdinaaa
namespace Go.Proofs.Ytcplkjnmfdinaaa
open Go.RowKit
set_option linter.unusedVariables false

def capOf : Value → Nat
  | .slice _ k _ => k
  | _ => 0
end Go.Proofs.Ytcplkjnmfdinaaa
namespace Go.Proofs.Ytcplkjnmfdinaaa
open Go.RowKit
set_option linter.unusedVariables false

end Go.Proofs.Ytcplkjnmfdinaaa
namespace Go.Proofs.Ytcplkjnmfdinaaa
open Go.RowKit
set_option linter.unusedVariables false

/-- what a sum's round keeps. -/
structure PlusR (w wr : World) (ds es : List Int) (l m : Nat) (v : Value) (c : Int) (k : Nat) (os : List Int) : Prop where
  c0 : 0 ≤ c
  c1 : c ≤ 1
  len : os.length = k
  dg : IsD os
  val : dvx os (c + hi ds k + hi es k) = dval ds + dval es
  more : 0 < c → k ≤ l ∨ k ≤ m
  top : k ≤ l ∨ k ≤ m + 1 ∨ k ≤ l + 1
  own : wr.ownsRow w.heap.size 3 1 v k (os.map (Value.int .i64))
  below : Below w.heap.size w wr
end Go.Proofs.Ytcplkjnmfdinaaa
namespace Go.Proofs.Ytcplkjnmfdinaaa
open Go.RowKit
set_option linter.unusedVariables false

/-- what a difference's round keeps. -/
structure MinusR (w wr : World) (ds es : List Int) (l : Nat) (v : Value) (c : Int) (k : Nat) (os : List Int) : Prop where
  c0 : 0 ≤ c
  c1 : c ≤ 1
  len : os.length = k
  dg : IsD os
  val : dvx os (hi ds k - hi es k - c) = dval ds - dval es
  top : k ≤ l
  own : wr.ownsRow w.heap.size 3 1 v k (os.map (Value.int .i64))
  below : Below w.heap.size w wr
end Go.Proofs.Ytcplkjnmfdinaaa
namespace Go.Proofs.Ytcplkjnmfdinaaa
open Go.RowKit
set_option linter.unusedVariables false

theorem IsN.alloc {w : World} {neg : Bool} {A : Option Addr} {l c : Nat} {n : Int} (h : IsN w neg A l c n) (o : Obj) : IsN (w.alloc o) neg A l c n := h.call ((Below.refl _ _).alloc (Nat.le_refl _) o)
theorem IsN.drew {w : World} {neg : Bool} {A : Option Addr} {l c : Nat} {n : Int} (h : IsN w neg A l c n) : IsN w.drew neg A l c n := h.call ((Below.refl _ _).drew)
/-- a block of two cells, the first of which holds a bool. -/
def HasBB (w : World) (b : Nat) : Prop := ∃ x u, Box w b (.bool x) u
theorem HasBB.of {w : World} {b : Nat} {x : Bool} {u : Value} (h : Box w b (.bool x) u) : HasBB w b := ⟨x, u, h⟩
theorem HasBB.call {w w1 : World} {b : Nat} (h : HasBB w b) (hb : Below w.heap.size w w1) : HasBB w1 b := by
  obtain ⟨x, u, k⟩ := h
  exact ⟨x, u, k.call hb⟩
theorem HasBB.alloc {w : World} {b : Nat} (h : HasBB w b) (o : Obj) : HasBB (w.alloc o) b := by
  obtain ⟨x, u, k⟩ := h
  exact ⟨x, u, k.alloc o⟩
theorem HasBB.drew {w : World} {b : Nat} (h : HasBB w b) : HasBB w.drew b := by
  obtain ⟨x, u, k⟩ := h
  exact ⟨x, u, k.drew⟩
theorem HasBB.new {w : World} {b : Nat} {x : Bool} {u : Value} {t : TypeId} (e : b = w.heap.size) : HasBB (w.alloc (.cells #[.bool x, u] t)) b := ⟨x, u, Box.new e⟩
theorem HasBB.set {w : World} {b g : Nat} (h : HasBB w b) (o : Nat) {x : Value} (ne : g ≠ b) : HasBB (w.setCell ⟨g, o, none⟩ x) b := by
  obtain ⟨y, u, k⟩ := h
  exact ⟨y, u, k.set o ne⟩
theorem HasBB.put {w : World} {b : Nat} {x : Bool} {u : Value} (h : HasBB w b) : HasBB ((w.setCell ⟨b, 0, none⟩ (.bool x)).setCell ⟨b, 1, none⟩ u) b := by
  obtain ⟨y, v, k⟩ := h
  exact ⟨x, u, Box.put (HasBox.of k)⟩
theorem Dg.set {w : World} {A : Option Addr} {l c : Nat} {ds : List Int} (h : Dg w A l c ds) {b : Nat} {x : Bool} (hb : w.cell? ⟨b, 0, none⟩ = some (.bool x)) (o : Nat) (v : Value) : Dg (w.setCell ⟨b, o, none⟩ v) A l c ds := by
  obtain ⟨h1, h2, h3, h4⟩ := h
  refine ⟨h1, h2, h3, fun hp => ?_⟩
  obtain ⟨g, e, hg, hc⟩ := h4 hp
  have hne : g ≠ b := by
    rintro rfl
    have := hc 0 hp
    rw [hb] at this
    cases this
  refine ⟨g, e, by simpa [World.setCell] using hg, fun j hj => ?_⟩
  rw [World.cell?_setCell_other _ _ _ _ (fun e => hne (congrArg Addr.block e).symm)]
  exact hc j hj
theorem IsN.put {w : World} {neg : Bool} {A : Option Addr} {l c : Nat} {n : Int} {b : Nat} {x : Bool} {u : Value} (h : IsN w neg A l c n) (hb : HasBB w b) : IsN ((w.setCell ⟨b, 0, none⟩ (.bool x)).setCell ⟨b, 1, none⟩ u) neg A l c n := by
  obtain ⟨ds, hD, hS⟩ := h
  obtain ⟨y, v, ⟨k1, k2⟩, k3, k4⟩ := hb
  refine ⟨ds, (hD.set k1 _ _).set (x := x) ?_ _ _, hS⟩
  rw [World.cell?_setCell_same _ _ _ k1]
end Go.Proofs.Ytcplkjnmfdinaaa
namespace Go.Proofs.Ytcplkjnmfdinaaa
open Go.RowKit
set_option linter.unusedVariables false

theorem Std.below {ds : List Int} {n : Int} (h : Std true ds n) : n < 0 := by have := h.pos (h.sign rfl); rw [h.val]; simp [sg]; omega
end Go.Proofs.Ytcplkjnmfdinaaa

namespace Go.Proofs.Ytcplkjnmfdinaaa
open Go.RowKit
set_option linter.unusedVariables false

end Go.Proofs.Ytcplkjnmfdinaaa
namespace Go.Proofs.Ytcplkjnmfdinaaa
open Go.RowKit
set_option linter.unusedVariables false

theorem dvx_ge {os : List Int} (h : IsD os) {y : Int} (hy : 0 ≤ y) : (10000 : Int) ^ os.length * y ≤ dvx os y := by
  induction os with
  | nil => simp [dvx]
  | cons d ds ih =>
    have h1 := h.head
    have h2 := ih h.tail
    rw [List.length_cons, Int.pow_succ, dvx, Int.mul_comm (10000 ^ ds.length) 10000, Int.mul_assoc]
    omega
/-- what the rounds of Of and Unsigned keep: N: the number without its sign; z: what is left of it. -/
structure OfR (w wr : World) (x : Bool) (N : Nat) (v : Value) (k : Nat) (os : List Int) (z : Nat) : Prop where
  b0 : Box wr w.heap.size (.bool false) (.slice none 0 0)
  b1 : Box wr (w.heap.size + 1) (.bool x) v
  own : wr.ownsRow (w.heap.size + 2) 3 1 v k (os.map (Value.int .i64))
  len : os.length = k
  dg : IsD os
  val : dvx os z = N
  nm : z = 0 → NoZ os
  below : Below w.heap.size w wr
theorem OfR.short {w wr : World} {x : Bool} {N : Nat} {v : Value} {k : Nat} {os : List Int} {z : Nat} (h : OfR w wr x N v k os z) (hN : N < 100000000000000000000) (hz : 0 < z) : k < 5 := by
  rcases Nat.lt_or_ge k 5 with q | q
  · exact q
  · exfalso
    have h1 := dvx_ge h.dg (y := z) (by omega)
    rw [h.val, h.len] at h1
    have h2 : (10000 : Int) ^ 5 ≤ 10000 ^ k := pow_mono q
    have h3 : (10000 : Int) ^ k * 1 ≤ 10000 ^ k * z := Int.mul_le_mul_of_nonneg_left (by omega) (Int.le_of_lt (pow_pos' k))
    have h4 : (10000 : Int) ^ 5 = 100000000000000000000 := by decide
    omega
end Go.Proofs.Ytcplkjnmfdinaaa
namespace Go.Proofs.Ytcplkjnmfdinaaa
open Go.RowKit
set_option linter.unusedVariables false

end Go.Proofs.Ytcplkjnmfdinaaa
namespace Go.Proofs.Ytcplkjnmfdinaaa
open Go.RowKit
set_option linter.unusedVariables false

end Go.Proofs.Ytcplkjnmfdinaaa

namespace Go.Proofs.Ytcplkjnmfdinaaa
open Go.RowKit
set_option linter.unusedVariables false

/-- the memory of a product under way: its two numbers, the place of its result, and the row os. -/
structure MulW (w wr : World) (x : Bool) (A : Option Addr) (l c : Nat) (ds : List Int) (y : Bool) (B : Option Addr) (m d : Nat) (es : List Int) (os : List Int) : Prop where
  b0 : Box wr w.heap.size (.bool x) (.slice A l c)
  b1 : Box wr (w.heap.size + 1) (.bool y) (.slice B m d)
  b2 : Box wr (w.heap.size + 1 + 1) (.bool false) (.slice none 0 0)
  own : wr.ownsRow (w.heap.size + 1 + 1 + 1) 3 1 (.slice (some ⟨w.heap.size + 1 + 1 + 1, 0, none⟩) (l + m + 1) (l + m + 1)) (l + m + 1) (os.map (Value.int .i64))
  dg : IsD os
  below : Below w.heap.size w wr
section
variable {w wr : World} {x y : Bool} {A B : Option Addr} {l c m d : Nat} {ds es os : List Int}
theorem MulW.len (h : MulW w wr x A l c ds y B m d es os) : os.length = l + m + 1 := by have := h.own.1; simpa using this
theorem MulW.cell (h : MulW w wr x A l c ds y B m d es os) {j : Nat} (hj : j < l + m + 1) : wr.cell? ⟨w.heap.size + 1 + 1 + 1, j, none⟩ = some (.int .i64 (os.getD j 0)) ∧ wr.frozen? ⟨w.heap.size + 1 + 1 + 1, j, none⟩ = false := by
  refine ⟨?_, h.own.frozenAt j⟩
  have hl := h.len
  rw [h.own.cellAt j (by omega), List.getElem?_map, List.getElem?_eq_getElem (by omega), List.getD_eq_getElem?_getD, List.getElem?_eq_getElem (by omega)]
  rfl
theorem MulW.store (h : MulW w wr x A l c ds y B m d es os) (j : Nat) {s : Int} (h0 : 0 ≤ s) (h1 : s < 10000) : MulW w (wr.setCell ⟨w.heap.size + 1 + 1 + 1, j, none⟩ (.int .i64 s)) x A l c ds y B m d es (os.set j s) := by
  refine ⟨h.b0.set _ (by omega), h.b1.set _ (by omega), h.b2.set _ (by omega), ?_, h.dg.set j h0 h1, below_set h.below _ _ _ (by omega)⟩
  rw [List.map_set]
  exact (h.own.stored j _).1
end
/-- what an inner round keeps. -/
structure MulI (os0 : List Int) (i l m : Nat) (a : Int) (es : List Int) (k : Nat) (cc : Int) (os : List Int) : Prop where
  c0 : 0 ≤ cc
  c1 : cc ≤ 9999
  val : MulIn os i k cc a es (hi os0 i + a * dval es)
  low : os.take i = os0.take i
  top : ∀ j, i + m + 1 ≤ j → os.getD j 0 = 0
  at_ : k ≤ m → os.getD (i + m) 0 = 0
  more : 0 < cc → k ≤ m
  kk : k ≤ m + 1
/-- what an outer round keeps. -/
structure MulO (os ds es : List Int) (i l m : Nat) : Prop where
  val : MulOut os ds es i
  top : ∀ j, i + m ≤ j → os.getD j 0 = 0
  ii : i ≤ l
end Go.Proofs.Ytcplkjnmfdinaaa
namespace Go.Proofs.Ytcplkjnmfdinaaa
open Go.RowKit
set_option linter.unusedVariables false

theorem MulW.row {w wr : World} {x y : Bool} {A B : Option Addr} {l c m d : Nat} {ds es os : List Int} (h : MulW w wr x A l c ds y B m d es os) : Dg wr (some ⟨w.heap.size + 1 + 1 + 1, 0, none⟩) (l + m + 1) (l + m + 1) os := by
  obtain ⟨A', c', e, hD⟩ := Dg.own h.own
  cases e
  exact hD
end Go.Proofs.Ytcplkjnmfdinaaa
namespace Go.Proofs.Ytcplkjnmfdinaaa
open Go.RowKit
set_option linter.unusedVariables false

end Go.Proofs.Ytcplkjnmfdinaaa
namespace Go.Proofs.Ytcplkjnmfdinaaa
open Go.RowKit
set_option linter.unusedVariables false
attribute [local go_sem ↓] Go.wp_at_zero Go.wp_at_succ

/-- one block that holds a number of the reference package, the number itself, and what is below. -/
structure OneN (w : World) (g : Nat) (x : Bool) (A : Option Addr) (l c : Nat) (n : Int) (W : World) : Prop where
  b : Box W g (.bool x) (.slice A l c)
  n : IsN W x A l c n
  below : Below w.heap.size w W
section
variable {w W w1 : World} {g : Nat} {x : Bool} {A : Option Addr} {l c : Nat} {n : Int}
theorem OneN.call (h : OneN w g x A l c n W) (hb : Below W.heap.size W w1) : OneN w g x A l c n w1 := ⟨h.b.call hb, h.n.call hb, below_call h.below hb⟩
theorem OneN.s (h : OneN w g x A l c n W) : W.cell? ⟨g, 0, none⟩ = some (.bool x) ∧ W.cell? ⟨g, 1, none⟩ = some (.slice A l c) := h.b.1
end
end Go.Proofs.Ytcplkjnmfdinaaa
namespace Go.Proofs.Ytcplkjnmfdinaaa
open Go.RowKit
set_option linter.unusedVariables false

/-- what an outer round of a division keeps: the digits from k on are divided. -/
def DivO (ds qs : List Int) (k : Nat) (b r : Int) : Prop := hi ds k = hi qs k * b + r ∧ 0 ≤ r ∧ r < b ∧ (∀ j, j < k → qs.getD j 0 = 0)
/-- what an inner round keeps: d is a digit of the quotient that is still counted. -/
def DivI (ds qs : List Int) (k : Nat) (b r d : Int) : Prop := hi ds k = (d + 10000 * hi qs (k + 1)) * b + r ∧ 0 ≤ r ∧ r < (10000 - d) * b ∧ 0 ≤ d ∧ qs.getD k 0 = d ∧ (∀ j, j < k → qs.getD j 0 = 0)
/-- the memory of a division under way. -/
structure DivW (w : World) (g : Nat) (wr : World) (x : Bool) (A : Option Addr) (l c : Nat) (ds : List Int) (y : Bool) (B : Option Addr) (m d : Nat) (b : Int) (qs : List Int) (z : Bool) (C : Option Addr) (p e : Nat) (r : Int) : Prop where
  b0 : Box wr w.heap.size (.bool x) (.slice A l c)
  b1 : Box wr (w.heap.size + 1) (.bool y) (.slice B m d)
  b2 : Box wr (w.heap.size + 1 + 1) (.bool false) (.slice none 0 0)
  b3 : Box wr (w.heap.size + 1 + 1 + 1) (.bool false) (.slice none 0 0)
  own : wr.ownsRow (w.heap.size + 1 + 1 + 1 + 1) 3 1 (.slice (some ⟨w.heap.size + 1 + 1 + 1 + 1, 0, none⟩) l l) l (qs.map (Value.int .i64))
  dg : IsD qs
  br : Box wr (g) (.bool z) (.slice C p e)
  nb : IsN wr y B m d b
  nr : IsN wr z C p e r
  fb : ∀ a, B = some a → a.block ≠ w.heap.size + 1 + 1 + 1 + 1
  fr : ∀ a, C = some a → w.heap.size + 1 + 1 + 1 + 1 < a.block
  below : Below w.heap.size w wr
section
variable {w wr : World} {g : Nat} {x y z : Bool} {A B C : Option Addr} {l c m d p e : Nat} {ds qs : List Int} {b r : Int}
theorem DivW.len (h : DivW w g wr x A l c ds y B m d b qs z C p e r) : qs.length = l := by have := h.own.1; simpa using this
theorem DivW.cell (h : DivW w g wr x A l c ds y B m d b qs z C p e r) {j : Nat} (hj : j < l) : wr.cell? ⟨w.heap.size + 1 + 1 + 1 + 1, j, none⟩ = some (.int .i64 (qs.getD j 0)) ∧ wr.frozen? ⟨w.heap.size + 1 + 1 + 1 + 1, j, none⟩ = false := by
  refine ⟨?_, h.own.frozenAt j⟩
  have hl := h.len
  rw [h.own.cellAt j (by omega), List.getElem?_map, List.getElem?_eq_getElem (by omega), List.getD_eq_getElem?_getD, List.getElem?_eq_getElem (by omega)]
  rfl
/-- the remainder's block, and memory beyond, are written; all else stands. -/
theorem DivW.turn {w1 : World} {z' : Bool} {C' : Option Addr} {p' e' : Nat} {r' : Int} (h : DivW w g wr x A l c ds y B m d b qs z C p e r) (hg : w.heap.size + 1 + 1 + 1 + 1 < g) (hb : Below wr.heap.size wr w1) (hr : IsN w1 z' C' p' e' r') (hf : ∀ a, C' = some a → w.heap.size + 1 + 1 + 1 + 1 < a.block) :
    DivW w g ((w1.setCell ⟨g, 0, none⟩ (.bool z')).setCell ⟨g, 1, none⟩ (.slice C' p' e')) x A l c ds y B m d b qs z' C' p' e' r' := by
  have hbr := HasBB.of (h.br.call hb)
  refine ⟨((h.b0.call hb).set _ (by omega)).set _ (by omega), ((h.b1.call hb).set _ (by omega)).set _ (by omega), ((h.b2.call hb).set _ (by omega)).set _ (by omega), ((h.b3.call hb).set _ (by omega)).set _ (by omega), ?_, h.dg, Box.put (HasBox.of (h.br.call hb)), (h.nb.call hb).put hbr, hr.put hbr, h.fb, hf, below_set (below_set (below_call h.below hb) _ _ _ (by omega)) _ _ _ (by omega)⟩
  have k1 : w1.ownsRow (w.heap.size + 1 + 1 + 1 + 1) 3 1 (.slice (some ⟨w.heap.size + 1 + 1 + 1 + 1, 0, none⟩) l l) l (qs.map (Value.int .i64)) := h.own.kept (row := none) ⟨hb.os, hb.tape, hb.output, hb.size, fun i hi _ => hb.block i hi⟩ (.inr (by simp [Value.ownBlock]))
  have far : ∀ (W : World) (o : Nat) (u : Value), W.ownsRow (w.heap.size + 1 + 1 + 1 + 1) 3 1 (.slice (some ⟨w.heap.size + 1 + 1 + 1 + 1, 0, none⟩) l l) l (qs.map (Value.int .i64)) → (W.setCell ⟨g, o, none⟩ u).ownsRow (w.heap.size + 1 + 1 + 1 + 1) 3 1 (.slice (some ⟨w.heap.size + 1 + 1 + 1 + 1, 0, none⟩) l l) l (qs.map (Value.int .i64)) := fun W o u hW =>
    hW.kept (row := some g) ⟨rfl, rfl, rfl, by simp [World.setCell], fun k _ hk => Below.heap_setCell W ⟨g, o, none⟩ u k (fun e => hk (by rw [e]))⟩ (.inr (by simp [Value.ownBlock]; omega))
  exact far _ _ _ (far _ _ _ k1)
theorem DivW.call {w1 : World} (h : DivW w g wr x A l c ds y B m d b qs z C p e r) (hb : Below wr.heap.size wr w1) : DivW w g w1 x A l c ds y B m d b qs z C p e r :=
  ⟨h.b0.call hb, h.b1.call hb, h.b2.call hb, h.b3.call hb, h.own.kept (row := none) ⟨hb.os, hb.tape, hb.output, hb.size, fun i hi _ => hb.block i hi⟩ (.inr (by simp [Value.ownBlock])), h.dg, h.br.call hb, h.nb.call hb, h.nr.call hb, h.fb, h.fr, below_call h.below hb⟩
theorem DivW.row (h : DivW w g wr x A l c ds y B m d b qs z C p e r) : Dg wr (some ⟨w.heap.size + 1 + 1 + 1 + 1, 0, none⟩) l l qs := by
  obtain ⟨A', c', e', hD⟩ := Dg.own h.own
  cases e'
  exact hD
theorem DivW.drew (h : DivW w g wr x A l c ds y B m d b qs z C p e r) : DivW w g wr.drew x A l c ds y B m d b qs z C p e r :=
  ⟨h.b0.drew, h.b1.drew, h.b2.drew, h.b3.drew, h.own, h.dg, h.br.drew, h.nb.drew, h.nr.drew, h.fb, h.fr, h.below.drew⟩
theorem DivW.store (h : DivW w g wr x A l c ds y B m d b qs z C p e r) (hg : w.heap.size + 1 + 1 + 1 + 1 < g) {j : Nat} (hj : j < l) {s : Int} (h0 : 0 ≤ s) (h1 : s < 10000) :
    DivW w g (wr.setCell ⟨w.heap.size + 1 + 1 + 1 + 1, j, none⟩ (.int .i64 s)) x A l c ds y B m d b (qs.set j s) z C p e r := by
  have keepN : ∀ {z : Bool} {C : Option Addr} {p e : Nat} {r : Int}, IsN wr z C p e r → (∀ a, C = some a → a.block ≠ w.heap.size + 1 + 1 + 1 + 1) → IsN (wr.setCell ⟨w.heap.size + 1 + 1 + 1 + 1, j, none⟩ (.int .i64 s)) z C p e r := fun {z C p e r} hN hne => by
    obtain ⟨es, ⟨k1, k2, k3, k4⟩, hS⟩ := hN
    refine ⟨es, ⟨k1, k2, k3, fun hp => ?_⟩, hS⟩
    obtain ⟨g', e1, e2, e3⟩ := k4 hp
    refine ⟨g', e1, by simpa [World.setCell] using e2, fun i hi => ?_⟩
    rw [World.cell?_setCell_other _ _ _ _ (fun e => hne _ e1 (congrArg Addr.block e).symm)]
    exact e3 i hi
  refine ⟨h.b0.set _ (by omega), h.b1.set _ (by omega), h.b2.set _ (by omega), h.b3.set _ (by omega), ?_, h.dg.set j h0 h1, h.br.set _ (by omega), keepN h.nb h.fb, keepN h.nr (fun a e => by have := h.fr a e; omega), h.fb, h.fr, below_set h.below _ _ _ (by omega)⟩
  rw [List.map_set]
  exact (h.own.stored j _).1
end
end Go.Proofs.Ytcplkjnmfdinaaa
namespace Go.Proofs.Ytcplkjnmfdinaaa
open Go.RowKit
set_option linter.unusedVariables false
set_option linter.unusedSimpArgs false
attribute [local go_sem ↓] Go.wp_at_zero Go.wp_at_succ

/-- two numbers come back. -/
def RN2 (n m : Int) (w : World) (e : Ending) (w' : World) : Prop := ∃ x A l c y B k d, e = .returned (.tuple #[.agg #[.bool x, .slice A l c], .agg #[.bool y, .slice B k d]]) ∧ IsN w' x A l c n ∧ IsN w' y B k d m ∧ Below w.heap.size w w'
/-- two numbers come back, in new memory. -/
def RN2F (n m : Int) (w : World) (e : Ending) (w' : World) : Prop := ∃ x A l c y B k d, e = .returned (.tuple #[.agg #[.bool x, .slice A l c], .agg #[.bool y, .slice B k d]]) ∧ IsN w' x A l c n ∧ IsN w' y B k d m ∧ Below w.heap.size w w' ∧ Fr w.heap.size A ∧ Fr w.heap.size B
theorem Std.lt {neg : Bool} {ds : List Int} {n : Int} (h : Std neg ds n) : n < 10000 ^ ds.length := by have := dval_lt h.dg; have := h.abs; omega
end Go.Proofs.Ytcplkjnmfdinaaa

namespace Go.Proofs.Ytcplkjnmfdinaaa
open Go.RowKit
set_option linter.unusedVariables false

end Go.Proofs.Ytcplkjnmfdinaaa
namespace Go.Proofs.Ytcplkjnmfdinaaa
set_option linter.unusedVariables false

/-- how many bits n needs. -/
def IsLen (n len : Nat) : Prop := (n = 0 ∧ len = 0) ∨ (1 ≤ len ∧ len ≤ 128 ∧ 2 ^ (len - 1) ≤ n ∧ n < 2 ^ len)
end Go.Proofs.Ytcplkjnmfdinaaa
namespace Go.Proofs.Ytcplkjnmfdinaaa
open Go.RowKit
set_option linter.unusedVariables false

def RMul (n : Int) (w : World) (e : Ending) (w' : World) : Prop := ∃ H L, e = .returned (.tuple #[.int .u64 H, .int .u64 L]) ∧ IsS H L n ∧ w = w'
def fitS (n : Int) : Bool := decide (n < 340282366920938463463374607431768211456)
def RSF (n : Int) (w : World) (e : Ending) (w' : World) : Prop := ∃ H L, e = .returned (.tuple #[.agg #[.int .u64 H, .int .u64 L], .bool (fitS n)]) ∧ IsS H L (if fitS n then n else 0) ∧ Below w.heap.size w w'
def RLen (n : Int) (w : World) (e : Ending) (w' : World) : Prop := ∃ k : Nat, e = .returned (.int .i64 k) ∧ IsLen n.toNat k ∧ Below w.heap.size w w'
end Go.Proofs.Ytcplkjnmfdinaaa
namespace Go.Proofs.Ytcplkjnmfdinaaa
open Go.RowKit
set_option linter.unusedVariables false

def MulCut (w : World) (N : Int) (a b c d : Value) (s6 s7 : Value) (wx : World) : Prop :=
  ∃ (g : Nat) (ph pl : Int), s6 = .pointer (some ⟨g, 0, none⟩) ∧ s7 = .bool (fitS N) ∧ w.heap.size + 3 ≤ g ∧ IsS ph pl (if fitS N then N else 0) ∧
    Box wx g (.int .u64 ph) (.int .u64 pl) ∧ Box wx w.heap.size a b ∧ Box wx (w.heap.size + 1) c d ∧ Box wx (w.heap.size + 1 + 1) (.int .i64 0) (.int .u64 0) ∧ g < wx.heap.size ∧ Below w.heap.size w wx
end Go.Proofs.Ytcplkjnmfdinaaa
namespace Go.Proofs.Ytcplkjnmfdinaaa
open Go.RowKit
set_option linter.unusedVariables false

end Go.Proofs.Ytcplkjnmfdinaaa
namespace Go.Proofs.Ytcplkjnmfdinaaa
open Go.RowKit
set_option linter.unusedVariables false

end Go.Proofs.Ytcplkjnmfdinaaa

namespace Go.Proofs.Ytcplkjnmfdinaaa
set_option linter.unusedVariables false

/-- what holds of the divisor's two digits, of what is divided, and of the next digit. -/
structure Kn (u d a b : Int) : Prop where
  a0 : 2147483648 ≤ a
  a1 : a < 4294967296
  b0 : 0 ≤ b
  b1 : b < 4294967296
  u0 : 0 ≤ u
  u1 : u < a * 4294967296 + b
  d0 : 0 ≤ d
  d1 : d < 4294967296
/-- the right digit. -/
def kq (u d a b : Int) : Int := (u * 4294967296 + d) / (a * 4294967296 + b)
/-- what is left. -/
def kr (u d a b : Int) : Int := (u * 4294967296 + d) % (a * 4294967296 + b)
/-- what holds of a digit that is tried. -/
structure KTry (u d a b q r : Int) : Prop where
  sum : q * a + r = u
  q0 : 0 ≤ q
  r0 : 0 ≤ r
  le : kq u d a b ≤ q

variable {u d a b q r : Int}
theorem Kn.y0 (h : Kn u d a b) : 0 < a * 4294967296 + b := by have := h.a0; have := h.b0; omega
theorem Kn.q0 (h : Kn u d a b) : 0 ≤ kq u d a b := Int.ediv_nonneg (by have := h.u0; have := h.d0; omega) (Int.le_of_lt h.y0)
theorem Kn.qlt (h : Kn u d a b) : kq u d a b < 4294967296 := by
  unfold kq
  refine Int.ediv_lt_of_lt_mul h.y0 ?_
  have h1 := h.u1; have h2 := h.d1
  generalize a * 4294967296 + b = y at *
  omega
/-- q times the divisor is not above just if q is not above the digit. -/
theorem Kn.le_iff (h : Kn u d a b) (q : Int) : q ≤ kq u d a b ↔ q * (a * 4294967296 + b) ≤ u * 4294967296 + d := by
  unfold kq
  exact Int.le_ediv_iff_mul_le h.y0
theorem mul_y (q a b : Int) : q * (a * 4294967296 + b) = q * a * 4294967296 + q * b := by rw [Int.mul_add, Int.mul_assoc]
theorem KTry.down (h : Kn u d a b) (t : KTry u d a b q r) (k : 4294967296 ≤ q ∨ 4294967296 * r + d < q * b) : KTry u d a b (q - 1) (r + a) ∧ 1 ≤ q := by
  have hlt : kq u d a b < q := by
    rcases k with k | k
    · exact Int.lt_of_lt_of_le h.qlt k
    · rcases Int.lt_or_le (kq u d a b) q with l | l
      · exact l
      · have h1 := (h.le_iff q).1 l
        rw [mul_y] at h1
        have h2 := t.sum
        generalize q * a = qa at *
        generalize q * b = qb at *
        omega
  have h0 := h.q0
  refine ⟨⟨?_, by omega, by have := t.r0; have := h.a0; omega, by omega⟩, by omega⟩
  rw [Int.sub_mul, ← t.sum]
  omega
theorem KTry.done (h : Kn u d a b) (t : KTry u d a b q r) (k : q * b ≤ 4294967296 * r + d) : q = kq u d a b := by
  have h1 : q ≤ kq u d a b := by
    rw [h.le_iff, mul_y]
    have h2 := t.sum
    generalize q * a = qa at *
    generalize q * b = qb at *
    omega
  have := t.le
  omega
theorem KTry.small (h : Kn u d a b) (t : KTry u d a b q r) (k : 4294967296 ≤ r) : q < 4294967296 := by
  rcases Int.lt_or_le q 4294967296 with l | l
  · exact l
  · have h1 := Int.mul_le_mul_of_nonneg_right l (show (0 : Int) ≤ a by have := h.a0; omega)
    have h2 := t.sum; have h3 := h.u1; have h4 := h.b1
    omega
theorem KTry.mul_lt (h : Kn u d a b) (t : KTry u d a b q r) (k : q < 4294967296) : 0 ≤ q * b ∧ q * b < 18446744073709551616 := by
  refine ⟨Int.mul_nonneg t.q0 h.b0, ?_⟩
  have h1 : q * b ≤ 4294967295 * 4294967295 := Int.mul_le_mul (by omega) (by have := h.b1; omega) h.b0 (by omega)
  omega
theorem KTry.out (h : Kn u d a b) (t : KTry u d a b q r) (k : 4294967296 ≤ r) : q = kq u d a b := by
  have h1 := t.small h k
  refine t.done h ?_
  have h2 := (t.mul_lt h h1).2
  have h3 := h.d0
  omega
theorem Kn.rest (h : Kn u d a b) : IntKind.u64.wrap (IntKind.u64.wrap (IntKind.u64.wrap (u * 4294967296) + d) - IntKind.u64.wrap (kq u d a b * (a * 4294967296 + b))) = kr u d a b := by
  have h1 : u * 4294967296 + d - kq u d a b * (a * 4294967296 + b) = kr u d a b := by
    unfold kq kr
    rw [Int.emod_def, Int.mul_comm (a * 4294967296 + b)]
  have h2 : 0 ≤ kr u d a b := Int.emod_nonneg _ (by have := h.y0; omega)
  have h3 : kr u d a b < a * 4294967296 + b := Int.emod_lt_of_pos _ h.y0
  have h4 := h.a1; have h5 := h.b1
  simp only [IntKind.wrap_u64]
  generalize kr u d a b = k at *
  generalize kq u d a b * (a * 4294967296 + b) = p at *
  omega
theorem Kn.next (h : Kn u d a b) (e : Int) (e0 : 0 ≤ e ∧ e < 4294967296) : Kn (kr u d a b) e a b :=
  ⟨h.a0, h.a1, h.b0, h.b1, Int.emod_nonneg _ (by have := h.y0; omega), Int.emod_lt_of_pos _ h.y0, e0.1, e0.2⟩
/-- two digits, one behind the other. -/
theorem Kn.two (h : Kn u d a b) (e : Int) (e0 : 0 ≤ e ∧ e < 4294967296) :
    kq u d a b * 4294967296 + kq (kr u d a b) e a b = (u * 18446744073709551616 + d * 4294967296 + e) / (a * 4294967296 + b) ∧ kr (kr u d a b) e a b = (u * 18446744073709551616 + d * 4294967296 + e) % (a * 4294967296 + b) := by
  have k := h.next e e0
  have y0 := h.y0
  have s1 : u * 4294967296 + d = (a * 4294967296 + b) * kq u d a b + kr u d a b := (Int.mul_ediv_add_emod _ _).symm
  have s2 : kr u d a b * 4294967296 + e = (a * 4294967296 + b) * kq (kr u d a b) e a b + kr (kr u d a b) e a b := (Int.mul_ediv_add_emod _ _).symm
  have r0 : 0 ≤ kr (kr u d a b) e a b := Int.emod_nonneg _ (by omega)
  have r1 : kr (kr u d a b) e a b < a * 4294967296 + b := Int.emod_lt_of_pos _ y0
  generalize kr (kr u d a b) e a b = R at *
  generalize kq (kr u d a b) e a b = Q2 at *
  generalize kr u d a b = R1 at *
  generalize kq u d a b = Q1 at *
  generalize a * 4294967296 + b = y at *
  have t : u * 18446744073709551616 + d * 4294967296 + e = R + y * (Q1 * 4294967296 + Q2) := by
    rw [Int.mul_add, ← Int.mul_assoc]
    generalize y * Q1 = p at *
    generalize y * Q2 = p2 at *
    omega
  rw [t]
  constructor
  · rw [Int.add_mul_ediv_left _ _ (by omega), Int.ediv_eq_zero_of_lt r0 r1]
    omega
  · rw [Int.add_mul_emod_self_left, Int.emod_eq_of_lt r0 r1]
/-- y's length, and what it is shifted by. -/
structure Lz (y s : Int) : Prop where
  s0 : 0 ≤ s
  s1 : s < 64
  lo : 9223372036854775808 ≤ y * 2 ^ s.toNat
  hi : y * 2 ^ s.toNat < 18446744073709551616
/-- what is divided, shifted as the divisor is. -/
structure Nm (hi lo y s U V Y : Int) : Prop where
  y : Y = y * 2 ^ s.toNat
  n : (hi * 18446744073709551616 + lo) * 2 ^ s.toNat = U * 18446744073709551616 + V
  u0 : 0 ≤ U
  u1 : U < Y
  v0 : 0 ≤ V
  v1 : V < 18446744073709551616
theorem Nm.quo {hi lo y s U V Y : Int} (h : Nm hi lo y s U V Y) (k : Lz y s) : (U * 18446744073709551616 + V / 4294967296 * 4294967296 + V % 4294967296) / (Y / 4294967296 * 4294967296 + Y % 4294967296) = (hi * 18446744073709551616 + lo) / y ∧
    (U * 18446744073709551616 + V / 4294967296 * 4294967296 + V % 4294967296) % (Y / 4294967296 * 4294967296 + Y % 4294967296) / 2 ^ s.toNat = (hi * 18446744073709551616 + lo) % y := by
  have p0 : (0 : Int) < 2 ^ s.toNat := Int.pow_pos (by omega)
  rw [show U * 18446744073709551616 + V / 4294967296 * 4294967296 + V % 4294967296 = U * 18446744073709551616 + V by omega, show Y / 4294967296 * 4294967296 + Y % 4294967296 = Y by omega, ← h.n, h.y]
  generalize (2 : Int) ^ s.toNat = p at *
  constructor
  · exact Int.mul_ediv_mul_of_pos_left _ _ p0
  · rw [Int.emod_def, Int.mul_ediv_mul_of_pos_left _ _ p0, Int.mul_right_comm, ← Int.sub_mul, Int.mul_ediv_cancel _ (by omega), Int.emod_def]
end Go.Proofs.Ytcplkjnmfdinaaa
namespace Go.Proofs.Ytcplkjnmfdinaaa
set_option linter.unusedVariables false

end Go.Proofs.Ytcplkjnmfdinaaa
namespace Go.Proofs.Ytcplkjnmfdinaaa
open Go.RowKit
set_option linter.unusedVariables false

def RLz (y : Int) (w : World) (e : Ending) (w' : World) : Prop := ∃ s : Int, e = .returned (.int .i64 s) ∧ Lz y s ∧ w = w'
def RDiv (q r : Int) (w : World) (e : Ending) (w' : World) : Prop := e = .returned (.tuple #[.int .u64 q, .int .u64 r]) ∧ Below w.heap.size w w'
end Go.Proofs.Ytcplkjnmfdinaaa
namespace Go.Proofs.Ytcplkjnmfdinaaa
open Go.RowKit
set_option linter.unusedVariables false

def RGuess (q : Int) (w : World) (e : Ending) (w' : World) : Prop := ∃ g : Int, e = .returned (.int .u64 g) ∧ (0 ≤ g ∧ g ≤ q ∧ q ≤ g + 1 ∧ g < 18446744073709551616) ∧ Below w.heap.size w w'
def RSS (q r : Int) (w : World) (e : Ending) (w' : World) : Prop := ∃ a b c d : Int, e = .returned (.tuple #[.agg #[.int .u64 a, .int .u64 b], .agg #[.int .u64 c, .int .u64 d]]) ∧ IsS a b q ∧ IsS c d r ∧ Below w.heap.size w w'
end Go.Proofs.Ytcplkjnmfdinaaa
namespace Go.Proofs.Ytcplkjnmfdinaaa
open Go.RowKit
set_option linter.unusedVariables false

end Go.Proofs.Ytcplkjnmfdinaaa

namespace Go.Proofs.Ytcplkjnmfdinaaa
open Go.RowKit
set_option linter.unusedVariables false

def DivCut (w : World) (Q R : Int) (a b c d : Value) (s7 s8 : Value) (wx : World) : Prop :=
  ∃ (g7 g8 : Nat) (qh ql rh rl : Int), s7 = .pointer (some ⟨g7, 0, none⟩) ∧ s8 = .pointer (some ⟨g8, 0, none⟩) ∧ w.heap.size + 4 ≤ g7 ∧ w.heap.size + 4 ≤ g8 ∧ IsS qh ql Q ∧ IsS rh rl R ∧
    Box wx g7 (.int .u64 qh) (.int .u64 ql) ∧ Box wx g8 (.int .u64 rh) (.int .u64 rl) ∧ Box wx w.heap.size a b ∧ Box wx (w.heap.size + 1) c d ∧ Box wx (w.heap.size + 1 + 1) (.int .i64 0) (.int .u64 0) ∧ Box wx (w.heap.size + 1 + 1 + 1) (.int .i64 0) (.int .u64 0) ∧ Below w.heap.size w wx
def Div7 (w : World) (x y : Int) (wx : World) : Prop := ∃ c1 c2 e1 e2 : Int, IsW c1 c2 x ∧ IsW e1 e2 y ∧ Box wx (w.heap.size + 1 + 1) (.int .i64 c1) (.int .u64 c2) ∧ Box wx (w.heap.size + 1 + 1 + 1) (.int .i64 e1) (.int .u64 e2) ∧ Below w.heap.size w wx
def RDV (n m : Int) (w : World) (e : Ending) (w' : World) : Prop := ∃ a b c d : Int, e = .returned (.tuple #[.agg #[.int .i64 a, .int .u64 b], .agg #[.int .i64 c, .int .u64 d], .bool true]) ∧ IsW a b (n / m) ∧ IsW c d (n % m) ∧ Below w.heap.size w w'
end Go.Proofs.Ytcplkjnmfdinaaa

namespace Go.Proofs.Ytcplkjnmfdinaaa
open Go.RowKit
set_option linter.unusedVariables false

/-- four cells of a block, and that they may be written. -/
def Box4 (w : World) (b : Nat) (u v x y : Value) : Prop := (w.cell? ⟨b, 0, none⟩ = some u ∧ w.cell? ⟨b, 1, none⟩ = some v ∧ w.cell? ⟨b, 2, none⟩ = some x ∧ w.cell? ⟨b, 3, none⟩ = some y) ∧ (w.frozen? ⟨b, 0, none⟩ = false ∧ w.frozen? ⟨b, 1, none⟩ = false ∧ w.frozen? ⟨b, 2, none⟩ = false ∧ w.frozen? ⟨b, 3, none⟩ = false)
section
variable {w W w1 : World} {b g : Nat} {u v x y q : Value}
theorem Box4.lt (h : Box4 w b u v x y) : b < w.heap.size := World.block_lt_of_cell? w _ h.1.1
theorem Box4.call (h : Box4 W b u v x y) (hb : Below W.heap.size W w1) : Box4 w1 b u v x y := by
  have hl := h.lt
  obtain ⟨⟨h1, h2, h3, h4⟩, k1, k2, k3, k4⟩ := h
  exact ⟨⟨(hb.cell (p := ⟨b, 0, none⟩) hl).trans h1, (hb.cell (p := ⟨b, 1, none⟩) hl).trans h2, (hb.cell (p := ⟨b, 2, none⟩) hl).trans h3, (hb.cell (p := ⟨b, 3, none⟩) hl).trans h4⟩, (hb.frozen (p := ⟨b, 0, none⟩) hl).trans k1, (hb.frozen (p := ⟨b, 1, none⟩) hl).trans k2, (hb.frozen (p := ⟨b, 2, none⟩) hl).trans k3, (hb.frozen (p := ⟨b, 3, none⟩) hl).trans k4⟩
theorem Box4.alloc (h : Box4 W b u v x y) (o : Obj) : Box4 (W.alloc o) b u v x y := h.call ((Below.refl _ _).alloc (Nat.le_refl _) o)
theorem Box4.drew (h : Box4 W b u v x y) : Box4 W.drew b u v x y := h.call ((Below.refl _ _).drew)
theorem Box4.new {t : TypeId} (e : b = W.heap.size) : Box4 (W.alloc (.cells #[u, v, x, y] t)) b u v x y := by
  subst e
  unfold Box4
  go_simp
theorem Box4.set (h : Box4 W b u v x y) (o : Nat) (ne : g ≠ b) : Box4 (W.setCell ⟨g, o, none⟩ q) b u v x y := by
  obtain ⟨⟨h1, h2, h3, h4⟩, k1, k2, k3, k4⟩ := h
  have n0 : ∀ i, (⟨g, o, none⟩ : Addr) ≠ ⟨b, i, none⟩ := fun i e => ne (congrArg Addr.block e)
  refine ⟨⟨?_, ?_, ?_, ?_⟩, ?_, ?_, ?_, ?_⟩
  · rw [World.cell?_setCell_other _ _ _ _ (n0 0)]; exact h1
  · rw [World.cell?_setCell_other _ _ _ _ (n0 1)]; exact h2
  · rw [World.cell?_setCell_other _ _ _ _ (n0 2)]; exact h3
  · rw [World.cell?_setCell_other _ _ _ _ (n0 3)]; exact h4
  · go_simp
  · go_simp
  · go_simp
  · go_simp
end
section
variable {W : World} {b : Nat} {u v x y u' v' : Value}
end
/-- the whole part of n over d; 0, where d is not above 0. -/
def flo (n d : Int) : Int := if 0 < d then n / d else 0
end Go.Proofs.Ytcplkjnmfdinaaa
namespace Go.Proofs.Ytcplkjnmfdinaaa
open Go.RowKit
set_option linter.unusedVariables false
attribute [local go_sem ↓] Go.wp_at_zero Go.wp_at_succ

theorem Box.both {w : World} {b : Nat} {u v : Value} (h : Box w b u v) : w.cell? ⟨b, 0, none⟩ = some u ∧ w.cell? ⟨b, 1, none⟩ = some v := h.1
/-- the whole number nearest to n over d, of a half the upper one. -/
def nea (n d : Int) : Int := if n % d < d - n % d then n / d else n / d + 1
end Go.Proofs.Ytcplkjnmfdinaaa
namespace Go.Proofs.Ytcplkjnmfdinaaa
open Go.RowKit
set_option linter.unusedVariables false
attribute [local go_sem ↓] Go.wp_at_zero Go.wp_at_succ

/-- a fraction comes back. -/
def RF (n d : Int) (w : World) (e : Ending) (w' : World) : Prop := ∃ a b c f, e = .returned (.agg #[.int .i64 a, .int .u64 b, .int .i64 c, .int .u64 f]) ∧ IsW a b n ∧ IsW c f d ∧ Below w.heap.size w w'
/-- a fraction, and whether there is one. -/
def RFB (is : Bool) (n d : Int) (w : World) (e : Ending) (w' : World) : Prop := ∃ a b c f, e = .returned (.tuple #[.agg #[.int .i64 a, .int .u64 b, .int .i64 c, .int .u64 f], .bool is]) ∧ IsW a b n ∧ IsW c f d ∧ Below w.heap.size w w'
/-- what Make answers. -/
def mkIs (n d : Int) : Bool := decide (0 < d) || (decide (d < 0) && fits (-n) && fits (-d))
/-- what Make answers, of a d below 0. -/
def RFM (n d : Int) (w : World) (e : Ending) (w' : World) : Prop := RFB (fits (-n) && fits (-d)) (if (fits (-n) && fits (-d)) = true then -n else 0) (if (fits (-n) && fits (-d)) = true then -d else 0) w e w'
end Go.Proofs.Ytcplkjnmfdinaaa
namespace Go.Proofs.Ytcplkjnmfdinaaa
open Go.RowKit
set_option linter.unusedVariables false
attribute [local go_sem ↓] Go.wp_at_zero Go.wp_at_succ

theorem Box4.cs {w : World} {b : Nat} {u v x y : Value} (h : Box4 w b u v x y) : w.cell? ⟨b, 0, none⟩ = some u ∧ w.cell? ⟨b, 1, none⟩ = some v ∧ w.cell? ⟨b, 2, none⟩ = some x ∧ w.cell? ⟨b, 3, none⟩ = some y := h.1
/-- the Int n comes back, and true. -/
def RWT (n : Int) (w : World) (e : Ending) (w' : World) : Prop := ∃ H L, e = .returned (.tuple #[.agg #[.int .i64 H, .int .u64 L], .bool true]) ∧ IsW H L n ∧ Below w.heap.size w w'
/-- what Snap tells. -/
def sna (n d : Int) (k : Nat) : Int := if k = 0 then nea n d else nea (n / d) (2 ^ k)
end Go.Proofs.Ytcplkjnmfdinaaa
namespace Go.Proofs.Ytcplkjnmfdinaaa
open Go.RowKit
set_option linter.unusedVariables false
attribute [local go_sem ↓] Go.wp_at_zero Go.wp_at_succ

/-- two rows of two Ints come back. -/
def RBoth (q0 q1 r0 r1 : Int) (w : World) (e : Ending) (w' : World) : Prop := ∃ a b c d x y z t, e = .returned (.tuple #[.agg #[.int .i64 a, .int .u64 b, .int .i64 c, .int .u64 d], .agg #[.int .i64 x, .int .u64 y, .int .i64 z, .int .u64 t]]) ∧ IsW a b q0 ∧ IsW c d q1 ∧ IsW x y r0 ∧ IsW z t r1 ∧ Below w.heap.size w w'
end Go.Proofs.Ytcplkjnmfdinaaa
namespace Go.Proofs.Ytcplkjnmfdinaaa
open Go.RowKit
set_option linter.unusedVariables false
attribute [local go_sem ↓] Go.wp_at_zero Go.wp_at_succ

/-- what Cmp keeps from round to round: g, g': the two rows' blocks; C: what is to be told; k: what bounds the rounds. -/
def CmpR (w : World) (g g' : Nat) (C : Int) (k : Nat) (W : World) : Prop := ∃ a0 b0 n0 a1 b1 n1 c0 e0 d0 c1 e1 d1 : Int,
  Box4 W g (.int .i64 a0) (.int .u64 b0) (.int .i64 a1) (.int .u64 b1) ∧ Box4 W g' (.int .i64 c0) (.int .u64 e0) (.int .i64 c1) (.int .u64 e1) ∧ (IsW a0 b0 n0 ∧ IsW a1 b1 n1 ∧ IsW c0 e0 d0 ∧ IsW c1 e1 d1) ∧ (0 < d0 ∧ 0 < d1 ∧ d0 + d1 ≤ k) ∧ icmp (n0 * d1) (n1 * d0) = C ∧ Below w.heap.size w W
/-- two rows in new blocks. -/
def CmpC (w : World) (C : Int) (k : Nat) (s t : Value) (W : World) : Prop := ∃ g g', s = .pointer (some ⟨g, 0, none⟩) ∧ t = .pointer (some ⟨g', 0, none⟩) ∧ g ≠ g' ∧ w.heap.size < g ∧ w.heap.size < g' ∧ CmpR w g g' C k W
/-- what Cmp tells. -/
def cmpv (n0 d0 n1 d1 : Int) : Int := if 0 < d0 ∧ 0 < d1 then icmp (n0 * d1) (n1 * d0) else 0
end Go.Proofs.Ytcplkjnmfdinaaa
namespace Go.Proofs.Ytcplkjnmfdinaaa
open Go.RowKit
set_option linter.unusedVariables false
set_option linter.unusedSimpArgs false
attribute [local go_sem ↓] Go.wp_at_zero Go.wp_at_succ

/-- four Ints' halves compared. -/
def eqF (a b c d a' b' c' d' : Int) : Bool := eqW a b a' b' && eqW c d c' d'
/-- blocks of four cells and of two that the walk holds on to. -/
structure AlW (w : World) (g g' : Nat) (a b c d s t : Int) (W : World) : Prop where
  f : Box4 W g (.int .i64 a) (.int .u64 b) (.int .i64 c) (.int .u64 d)
  s : Box W g' (.int .i64 s) (.int .u64 t)
  below : Below w.heap.size w W
section
variable {w W w1 : World} {g g' : Nat} {a b c d s t : Int}
theorem AlW.call (h : AlW w g g' a b c d s t W) (hb : Below W.heap.size W w1) : AlW w g g' a b c d s t w1 := ⟨h.f.call hb, h.s.call hb, below_call h.below hb⟩
theorem AlW.k (h : AlW w g g' a b c d s t W) : (W.cell? ⟨g, 0, none⟩ = some (.int .i64 a) ∧ W.cell? ⟨g, 1, none⟩ = some (.int .u64 b) ∧ W.cell? ⟨g, 2, none⟩ = some (.int .i64 c) ∧ W.cell? ⟨g, 3, none⟩ = some (.int .u64 d)) ∧ (W.cell? ⟨g', 0, none⟩ = some (.int .i64 s) ∧ W.cell? ⟨g', 1, none⟩ = some (.int .u64 t)) := ⟨h.f.1, h.s.1⟩
end
end Go.Proofs.Ytcplkjnmfdinaaa

namespace Go.Proofs.Ytcplkjnmfdinaaa
open Go.RowKit
set_option linter.unusedVariables false
set_option linter.unusedSimpArgs false
/-! Ints -/
def hiW (n : Int) : Int := n / 18446744073709551616
def loW (n : Int) : Int := n % 18446744073709551616
abbrev iw (n : Int) : AW := .agg [.c (.int .i64 (hiW n)), .c (.int .u64 (loW n))]
abbrev wv (n : Int) : AV := .w (iw n)
/-- 'z, and true', or zero, and false. -/
abbrev wf (z : Int) : AV := .tup [iw (if fits z then z else 0), .one (.c (.bool (fits z)))]
/-! numbers of the reference package -/
theorem IsN.frame {w w' : World} {neg : Bool} {A : Option Addr} {l c : Nat} {n : Int} (h : IsN w neg A l c n) (hf : ∀ a, A = some a → 0 < l → w'.heap[a.block]? = w.heap[a.block]?) : IsN w' neg A l c n := by
  obtain ⟨ds, ⟨h1, h2, h3, h4⟩, hS⟩ := h
  refine ⟨ds, ⟨h1, h2, h3, fun hp => ?_⟩, hS⟩
  obtain ⟨g, rfl, hg, hc⟩ := h4 hp
  have e := hf _ rfl hp
  refine ⟨g, rfl, ?_, fun j hj => ?_⟩
  · have h5 : w.heap[g]? = some w.heap[g] := Array.getElem?_eq_getElem hg
    have h6 : w'.heap[g]? = some w.heap[g] := e.trans h5
    exact (Array.getElem?_eq_some_iff.1 h6).1
  · have e' : w'.heap[(⟨g, j, none⟩ : Addr).block]? = w.heap[(⟨g, j, none⟩ : Addr).block]? := e
    rw [World.cell?_of_block (w := w) e']; exact hc j hj
def NumP (n : Int) : SP where
  holds w v := ∃ A l c, v = .slice A l c ∧ IsN w (decide (n < 0)) A l c n
  foot w v b := ∃ A l c a, v = .slice A l c ∧ 0 < l ∧ A = some a ∧ a.block = b
  frame w w' v := by
    rintro ⟨A, l, c, rfl, h⟩ hf
    exact ⟨⟨A, l, c, rfl, h.frame fun a ha hl => hf a.block ⟨A, l, c, a, rfl, hl, ha, rfl⟩⟩, fun b hb => hb⟩
  old w v b := by
    rintro ⟨A, l, c, rfl, ds, ⟨h1, h2, h3, h4⟩, hS⟩ ⟨A', l', c', a, e, hl, ha, hb⟩
    cases e
    obtain ⟨g, rfl, hg, hc⟩ := h4 hl
    cases ha
    subst hb
    exact hg
  cell w v := by rintro ⟨A, l, c, rfl, h⟩; rfl
abbrev ni (n : Int) : AW := .agg [.c (.bool (decide (n < 0))), .p (NumP n)]
abbrev nv (n : Int) : AV := .w (ni n)
/-- n has no more than k digits. -/
def NB (k : Nat) (n : Int) : Prop := (n.natAbs : Int) < 10000 ^ k
theorem NB.len {w : World} {x : Bool} {A : Option Addr} {l c k : Nat} {n : Int} (b : NB k n) (h : IsN w x A l c n) : l ≤ k := h.len b
theorem NB.up {k j : Nat} {n : Int} (b : NB k n) (h : k ≤ j) : NB j n := by
  unfold NB at *
  have : (10000 : Int) ^ k ≤ 10000 ^ j := by
    have := Nat.pow_le_pow_right (show 0 < 10000 by decide) h
    have e1 : ((10000 : Int) ^ k) = ((10000 ^ k : Nat) : Int) := by simp
    have e2 : ((10000 : Int) ^ j) = ((10000 ^ j : Nat) : Int) := by simp
    rw [e1, e2]; omega
  omega
theorem pow10_pos (k : Nat) : (0 : Int) < 10000 ^ k := Int.pow_pos (by decide)
theorem NB.add {k : Nat} {n m : Int} (a : NB k n) (b : NB k m) : NB (k + 1) (n + m) := by
  unfold NB at *
  rw [Int.pow_succ]
  omega
theorem NB.neg {k : Nat} {n : Int} (a : NB k n) : NB k (-n) := by unfold NB at *; rw [Int.natAbs_neg]; exact a
theorem NB.mul {k j : Nat} {n m : Int} (a : NB k n) (b : NB j m) : NB (k + j) (n * m) := by
  unfold NB at *
  rw [Int.natAbs_mul, Int.pow_add, Int.natCast_mul]
  exact Int.mul_lt_mul' (Int.le_of_lt a) b (by omega) (pow10_pos k)
end Go.Proofs.Ytcplkjnmfdinaaa

namespace Go.Proofs.Ytcplkjnmfdinaaa
open Go.RowKit
set_option linter.unusedVariables false
set_option linter.unusedSimpArgs false
abbrev fi (n d : Int) : AW := .agg [.c (.int .i64 (hiW n)), .c (.int .u64 (loW n)), .c (.int .i64 (hiW d)), .c (.int .u64 (loW d))]
abbrev fv (n d : Int) : AV := .w (fi n d)
abbrev fx (n d : Int) : Value := .agg #[.int .i64 (hiW n), .int .u64 (loW n), .int .i64 (hiW d), .int .u64 (loW d)]
abbrev wx (n : Int) : Value := .agg #[.int .i64 (hiW n), .int .u64 (loW n)]
/-- a fraction of the reference package. -/
abbrev rfi (n d : Int) : AW := .agg [.c (.bool (decide (n < 0))), .p (NumP n), .c (.bool (decide (d < 0))), .p (NumP d)]
abbrev rfv (n d : Int) : AV := .w (rfi n d)
end Go.Proofs.Ytcplkjnmfdinaaa

namespace Go.Proofs.Ytcplkjnmfdinaaa
open Go.RowKit
set_option linter.unusedVariables false

/-- r is the rung nearest to k. -/
def IsR (k : Int) (r : Nat) : Prop := r ≤ 28 ∧ ((k < 0 ∧ r = 0) ∨ (28 < k ∧ r = 28) ∨ (r : Int) = k)
theorem isR_ex (k : Int) : ∃ r, IsR k r := by
  by_cases h : k < 0
  · exact ⟨0, by omega, .inl ⟨h, rfl⟩⟩
  · by_cases h' : 28 < k
    · exact ⟨28, by omega, .inr (.inl ⟨h', rfl⟩)⟩
    · exact ⟨k.toNat, by omega, .inr (.inr (by omega))⟩
theorem rv_int {a b : Int} {w w' : World} (e : a = b) (h : Below w.heap.size w w') : RV (.int .i64 b) w (.returned (.int .i64 a)) w' := ⟨by rw [e], h⟩
theorem rv_bool {a b : Bool} {w w' : World} (e : a = b) (h : Below w.heap.size w w') : RV (.bool b) w (.returned (.bool a)) w' := ⟨by rw [e], h⟩
set_option maxHeartbeats 400000 in
theorem nearestRung_any (k : Int) (r : Nat) (w : World) (h : IsR k r) : Calls Try.prog 46 #[.int .i64 k] w (RV (.int .i64 r) w) := by
  have HI := Lib.hid h
  clear h
  go_enter Try.func46, Try.ntmps46
  go_wp2
  all_goals
    go_ret
    refine rv_int ?_ (Below.refl _ _)
    have h1 := HI.out
    unfold IsR at h1
    omega
theorem wrap64_mid (n : Int) (h : -9223372036854775808 ≤ n ∧ n ≤ 9223372036854775807) : wrap64 n = n := by unfold wrap64; omega
theorem pow28 {r : Nat} (h : r ≤ 28) : (1 : Int) ≤ 2 ^ r ∧ (2 : Int) ^ r ≤ 268435456 := by
  have h1 := Nat.pow_le_pow_right (show 0 < 2 by decide) h
  have h2 := Nat.pow_pos (show 0 < 2 by decide) (n := r)
  have e : ((2 : Int) ^ r) = ((2 ^ r : Nat) : Int) := by simp
  rw [show (2 : Nat) ^ 28 = 268435456 by decide] at h1
  rw [e]
  omega
/-- the number of the pixels in which places with x v are. -/
def gsn (v : Int) (r : Nat) : Int := (2 * v + 2 ^ r) / (2 * 2 ^ r)
theorem wrap_pow {r : Nat} (h : r ≤ 28) : wrap64 (2 ^ r) = 2 ^ r := wrap64_mid _ (by have := pow28 h; omega)
set_option maxHeartbeats 400000 in
theorem side_any (k : Int) (r : Nat) (w : World) (h : IsR k r) : Calls Try.prog 36 #[.int .i64 k] w (RV (.int .i64 (2 ^ r)) w) := by
  have HI := Lib.hid (fun w => nearestRung_any k r w h)
  have hr : r ≤ 28 := h.1
  clear h
  go_enter Try.func36, Try.ntmps36
  go_wp2_with (go_at_call 46; ((with_reducible refine (HI.out _).mono ?_); rintro e w1 ⟨rfl, hb⟩))
  go_ret
  exact rv_int (wrap_pow hr) (by (repeat (first | (with_reducible exact Below.refl _ _) | with_reducible assumption | (with_reducible refine below_alloc ?_ _) | (focus ((with_reducible refine below_set ?_ _ _ _ ?_); rotate_left; omega)) | (with_reducible refine Below.drew ?_) | (with_reducible refine below_call ?_ hb))))
/-- a closure over the bound m comes back. -/
def RC (m : Int) (w : World) (e : Ending) (w' : World) : Prop := ∃ b, e = .returned (.func (Fn.func 47) #[] #[.pointer (some ⟨b, 0, none⟩)]) ∧ w'.cell? ⟨b, 0, none⟩ = some (.int .i64 m) ∧ Below w.heap.size w w'
set_option maxHeartbeats 400000 in
theorem notTooFar_any (k : Int) (r : Nat) (w : World) (h : IsR k r) : Calls Try.prog 34 #[.int .i64 k] w (RC (134217728 / 2 ^ r) w) := by
  have HI := Lib.hid (fun w => nearestRung_any k r w h)
  have hr : r ≤ 28 := h.1
  clear h
  go_enter Try.func34, Try.ntmps34
  go_wp2_with (go_at_call 46; ((with_reducible refine (HI.out _).mono ?_); rintro e w1 ⟨rfl, hb⟩))
  go_ret
  exact ⟨_, rfl, by go_simp, by (repeat (first | (with_reducible exact Below.refl _ _) | with_reducible assumption | (with_reducible refine below_alloc ?_ _) | (focus ((with_reducible refine below_set ?_ _ _ _ ?_); rotate_left; omega)) | (with_reducible refine Below.drew ?_) | (with_reducible refine below_call ?_ hb)))⟩
/-- is n from -m to m? -/
def wi (m n : Int) : Bool := decide (-m ≤ n) && decide (n ≤ m)
set_option maxHeartbeats 400000 in
theorem near_any (b : Nat) (m n : Int) (w : World) (hc : w.cell? ⟨b, 0, none⟩ = some (.int .i64 m)) (m0 : 0 ≤ m) (m1 : m ≤ 134217728) : Calls Try.prog 47 #[.int .i64 n, .pointer (some ⟨b, 0, none⟩)] w (RV (.bool (wi m n)) w) := by
  go_enter Try.func47, Try.ntmps47
  go_wp2
  · go_ret
    exact rv_bool (by unfold wi; rw [decide_eq_true (show -m ≤ n by assumption)]; rfl) (Below.refl _ _)
  · go_ret
    exact rv_bool (by unfold wi; rw [decide_eq_false (show ¬ (-m ≤ n) by omega)]; rfl) (Below.refl _ _)
/-- is the center of the pixel (x, y) not too far? -/
def inB (r : Nat) (x y : Int) : Bool := wi (134217728 / 2 ^ r) x && wi (134217728 / 2 ^ r) y
theorem far_bd (r : Nat) : (0 : Int) ≤ 134217728 / 2 ^ r ∧ (134217728 : Int) / 2 ^ r ≤ 134217728 := by
  have hp : (0 : Int) < 2 ^ r := Int.pow_pos (by decide)
  exact ⟨Int.ediv_nonneg (by decide) (by omega), Int.ediv_le_self _ (by decide)⟩
theorem wi_mul (r : Nat) (n : Int) : wi (134217728 / 2 ^ r) n = decide (-134217728 ≤ 2 ^ r * n ∧ 2 ^ r * n ≤ 134217728) := by
  have hp : (0 : Int) < 2 ^ r := Int.pow_pos (by decide)
  unfold wi
  rw [Bool.eq_iff_iff, Bool.and_eq_true, decide_eq_true_eq, decide_eq_true_eq, decide_eq_true_eq, Int.mul_comm]
  generalize (2 : Int) ^ r = P at *
  have h1 := Int.le_ediv_iff_mul_le (a := n) (b := 134217728) hp
  have h2 := Int.le_ediv_iff_mul_le (a := -n) (b := 134217728) hp
  rw [Int.neg_mul] at h2
  constructor
  · intro ⟨q1, q2⟩
    exact ⟨by have := h2.1 (by omega); omega, h1.1 q2⟩
  · intro ⟨q1, q2⟩
    exact ⟨by have := h2.2 (by omega); omega, h1.2 q2⟩
theorem inB_mul (r : Nat) (x y : Int) : inB r x y = true ↔ (-134217728 ≤ 2 ^ r * x ∧ 2 ^ r * x ≤ 134217728) ∧ (-134217728 ≤ 2 ^ r * y ∧ 2 ^ r * y ≤ 134217728) := by
  unfold inB
  rw [wi_mul, wi_mul, Bool.and_eq_true, decide_eq_true_eq, decide_eq_true_eq]
set_option maxHeartbeats 400000 in
theorem In_any (x y k : Int) (r : Nat) (w : World) (h : IsR k r) : Calls Try.prog 30 #[.agg #[.int .i64 x, .int .i64 y], .int .i64 k] w (RV (.bool (inB r x y)) w) := by
  have HI := Lib.hid (fun w => notTooFar_any k r w h)
  obtain ⟨m0, m1⟩ := far_bd r
  have HU := Lib.hid (show inB r x y = (wi (134217728 / 2 ^ r) x && wi (134217728 / 2 ^ r) y) from rfl)
  clear h
  generalize (134217728 : Int) / 2 ^ r = M at *
  have HX := Lib.hid m0
  have HY := Lib.hid m1
  clear m0 m1
  go_enter Try.func30, Try.ntmps30
  go_wp2_with (first
    | (go_at_call 34; ((with_reducible refine (HI.out _).mono ?_); rintro e w1 ⟨b, rfl, hc, hb⟩; have B_w1_0 : Box w1 (w.heap.size) (.int .i64 x) (.int .i64 y) := (by (repeat (first | with_reducible assumption | (focus ((with_reducible refine Box.new ?_); simp; done)) | (with_reducible refine Box.alloc ?_ _) | (with_reducible refine Box.drew ?_) | (with_reducible refine Box.put ?_) | (focus ((with_reducible refine Box.set ?_ _ ?_); rotate_left; omega)) | (focus ((with_reducible apply HasBox.of); with_reducible assumption)) | (focus ((with_reducible refine HasBox.new ?_); simp; done)) | (with_reducible refine HasBox.set ?_ _ _) | (with_reducible refine HasBox.drew ?_) | (with_reducible refine HasBox.alloc ?_ _) | (with_reducible refine Box.call ?_ hb) | (with_reducible refine HasBox.call ?_ hb)))); obtain ⟨⟨c_w1_0, d_w1_0⟩, f_w1_0, g_w1_0⟩ := id B_w1_0))
    | (go_at_call 47; ((with_reducible refine (near_any b M x _ hc HX.out HY.out).mono ?_); rintro e w2 ⟨rfl, hb2⟩; have hc2 := (hb2.cell (p := ⟨b, 0, none⟩) (World.block_lt_of_cell? _ _ hc)).trans hc; clear hc; have B_w2_0 : Box w2 (w.heap.size) (.int .i64 x) (.int .i64 y) := (by (repeat (first | with_reducible assumption | (focus ((with_reducible refine Box.new ?_); simp; done)) | (with_reducible refine Box.alloc ?_ _) | (with_reducible refine Box.drew ?_) | (with_reducible refine Box.put ?_) | (focus ((with_reducible refine Box.set ?_ _ ?_); rotate_left; omega)) | (focus ((with_reducible apply HasBox.of); with_reducible assumption)) | (focus ((with_reducible refine HasBox.new ?_); simp; done)) | (with_reducible refine HasBox.set ?_ _ _) | (with_reducible refine HasBox.drew ?_) | (with_reducible refine HasBox.alloc ?_ _) | (with_reducible refine Box.call ?_ hb2) | (with_reducible refine HasBox.call ?_ hb2)))); obtain ⟨⟨c_w2_0, d_w2_0⟩, f_w2_0, g_w2_0⟩ := id B_w2_0))
    | (go_at_call 47; ((with_reducible refine (near_any b M y _ hc2 HX.out HY.out).mono ?_); rintro e w3 ⟨rfl, hb3⟩)))
  · go_ret
    exact rv_bool (by rw [HU.out]; simp_all) (by (repeat (first | (with_reducible exact Below.refl _ _) | with_reducible assumption | (with_reducible refine below_alloc ?_ _) | (focus ((with_reducible refine below_set ?_ _ _ _ ?_); rotate_left; omega)) | (with_reducible refine Below.drew ?_) | (with_reducible refine below_call ?_ hb3) | (with_reducible refine below_call ?_ hb2) | (with_reducible refine below_call ?_ hb))))
  · go_ret
    exact rv_bool (by rw [HU.out]; simp_all) (by (repeat (first | (with_reducible exact Below.refl _ _) | with_reducible assumption | (with_reducible refine below_alloc ?_ _) | (focus ((with_reducible refine below_set ?_ _ _ _ ?_); rotate_left; omega)) | (with_reducible refine Below.drew ?_) | (with_reducible refine below_call ?_ hb2) | (with_reducible refine below_call ?_ hb))))
set_option maxHeartbeats 400000 in
theorem gRight_any (k : Int) (w : World) : Calls Try.prog 29 #[.int .i64 k] w (RV (.bool (decide (0 ≤ k) && decide (k ≤ 28))) w) := by
  go_enter Try.func29, Try.ntmps29
  go_wp2
  · go_ret
    exact rv_bool (by rw [decide_eq_true (show 0 ≤ k by assumption)]; rfl) (Below.refl _ _)
  · go_ret
    exact rv_bool (by rw [decide_eq_false (show ¬ (0 ≤ k) by omega)]; rfl) (Below.refl _ _)
set_option maxHeartbeats 400000 in
theorem Compare_any (n m : Int) (w : World) : Calls Try.prog 54 #[.int .i64 n, .int .i64 m] w (RV (.int .i64 (icmp n m)) w) := by
  go_enter Try.func54, Try.ntmps54
  go_wp2
  all_goals
    go_ret
    refine rv_int ?_ (Below.refl _ _)
    unfold icmp
    repeat' split
    all_goals omega
/-- how two pixels compare. -/
def pcmp (x y x' y' : Int) : Int := if x = x' then icmp y y' else icmp x x'
end Go.Proofs.Ytcplkjnmfdinaaa
namespace Go.Proofs.Ytcplkjnmfdinaaa
open Go.RowKit
set_option linter.unusedVariables false
set_option linter.unusedSimpArgs false
attribute [local go_sem ↓] Go.wp_at_zero Go.wp_at_succ

/-- two pairs come back. -/
def RP (a b c d : Int) (w : World) (e : Ending) (w' : World) : Prop := e = .returned (.tuple #[.agg #[.int .i64 a, .int .i64 b], .agg #[.int .i64 c, .int .i64 d]]) ∧ Below w.heap.size w w'
end Go.Proofs.Ytcplkjnmfdinaaa
namespace Go.Proofs.Ytcplkjnmfdinaaa
open Go.RowKit
set_option linter.unusedVariables false
set_option linter.unusedSimpArgs false
attribute [local go_sem ↓] Go.wp_at_zero Go.wp_at_succ

/-- the Int z comes back, and s. -/
def RWB (s : Bool) (z : Int) (w : World) (e : Ending) (w' : World) : Prop := ∃ H L, e = .returned (.tuple #[.agg #[.int .i64 H, .int .u64 L], .bool s]) ∧ IsW H L z ∧ Below w.heap.size w w'
/-- a number comes back, and b. -/
def RT2 (v : Int) (b : Bool) (w : World) (e : Ending) (w' : World) : Prop := e = .returned (.tuple #[.int .i64 v, .bool b]) ∧ Below w.heap.size w w'
/-- behind the first statement: what was snapped, in a block of its own. -/
def SnC (w : World) (s : Bool) (z : Int) (u v : Value) (W : World) : Prop := ∃ g ga gb, u = .pointer (some ⟨g, 0, none⟩) ∧ v = .bool s ∧ IsW ga gb z ∧ Box W g (.int .i64 ga) (.int .u64 gb) ∧ Below w.heap.size w W
end Go.Proofs.Ytcplkjnmfdinaaa

namespace Go.Proofs.Ytcplkjnmfdinaaa
open Go.RowKit
set_option linter.unusedVariables false
set_option linter.unusedSimpArgs false
theorem p_side {k : Int} {r : Nat} (h : IsR k r) : PCall Try.prog 36 [vI k] (vI (2 ^ r)) :=
  pcall_ev [.int .i64 k] (.int .i64 (2 ^ r)) rfl rfl rfl rfl rfl fun W => side_any k r W h
theorem p_gRight {k : Int} : PCall Try.prog 29 [vI k] (vB (decide (0 ≤ k) && decide (k ≤ 28))) :=
  pcall_ev [.int .i64 k] (.bool (decide (0 ≤ k) && decide (k ≤ 28))) rfl rfl rfl rfl rfl fun W => gRight_any k W
theorem p_In {x y k : Int} {r : Nat} {b : Bool} (h : IsR k r) (hb : inB r x y = b) : PCall Try.prog 30 [vP x y, vI k] (vB b) := by
  subst hb
  exact pcall_ev [.agg #[.int .i64 x, .int .i64 y], .int .i64 k] (.bool (inB r x y)) rfl rfl rfl rfl rfl fun W => In_any x y k r W h
set_option maxRecDepth 100000 in
set_option maxHeartbeats 4000000 in
theorem p_Center {x y k : Int} {r : Nat} (h : IsR k r) (hb : inB r x y = true) : PCall Try.prog 35 [vP x y, vI k] (vP (2 ^ r * x) (2 ^ r * y)) := by
  obtain ⟨⟨q1, q2⟩, q3, q4⟩ := (inB_mul r x y).1 hb
  have C1 := p_In h hb
  have C2 := p_side h
  clear h hb
  generalize (2 : Int) ^ r = P at *
  refine pcall_body (f := 35) Try.func35 rfl rfl rfl rfl ?_
  (repeat (first | ((with_reducible apply al_q); exact rfl) | ((with_reducible apply al_mul); (iterate 3 exact rfl); (first | exact i64_wrap (by omega) | assumption | rfl); exact rfl) | (refine al_call1 rfl rfl rfl (by (first | exact C1 | exact C2)) rfl ?_) | (refine al_call2 rfl rfl rfl rfl (by (first | exact C1 | exact C2)) rfl ?_) | ((with_reducible apply al_bin); (iterate 5 exact rfl); (intro W; go_simp; try rfl); (intro W; go_simp; try rfl); exact rfl; exact rfl) | ((with_reducible apply al_un); exact rfl; exact rfl; (intro W; go_simp; try rfl); exact rfl; exact rfl) | ((with_reducible apply awp_seq)) | ((with_reducible apply athen_normal)) | ((with_reducible apply awp_region)) | ((with_reducible apply al_nil)) | ((with_reducible apply awp_ret)) | ((with_reducible apply awp_skip)) | ((with_reducible apply athen_ret)) | ((with_reducible apply awp_cond_t); exact rfl) | ((with_reducible apply awp_cond_f); exact rfl) | ((with_reducible apply awp_cond_1); exact rfl; (first | assumption | exact decide_eq_true (by omega) | (simp only [Bool.not_eq_true', decide_eq_false_iff_not, decide_eq_true_eq, Bool.not_eq_false']; omega))) | ((with_reducible apply awp_cond_0); exact rfl; (first | assumption | exact decide_eq_false (by omega) | (simp only [Bool.not_eq_true', decide_eq_false_iff_not, decide_eq_true_eq, Bool.not_eq_false']; omega)))))
  (first | (refine apost_ret rfl (resl_agg rfl rfl rfl resl_nil) ?_) | (refine apost_ret rfl (resl_one rfl rfl rfl resl_nil) ?_))
  exact AV.Le.refl _
set_option maxRecDepth 100000 in
set_option maxHeartbeats 4000000 in
theorem p_Sides {x y k : Int} {r : Nat} (h : IsR k r) (hb : inB r x y = true) : PCall Try.prog 31 [vP x y, vI k] (.tup [.agg [.c (.int .i64 (2 * (2 ^ r * x) - 2 ^ r)), .c (.int .i64 (2 * (2 ^ r * y) - 2 ^ r))], .agg [.c (.int .i64 (2 * (2 ^ r * x) + 2 ^ r)), .c (.int .i64 (2 * (2 ^ r * y) + 2 ^ r))]]) := by
  obtain ⟨⟨q1, q2⟩, q3, q4⟩ := (inB_mul r x y).1 hb
  obtain ⟨q5, q6⟩ := pow28 h.1
  have C1 := p_In h hb
  have C2 := p_side h
  have C3 := p_Center h hb
  clear h hb
  generalize (2 : Int) ^ r = P at *
  generalize P * x = X at *
  generalize P * y = Y at *
  refine pcall_body (f := 31) Try.func31 rfl rfl rfl rfl ?_
  (repeat (first | ((with_reducible apply al_q); exact rfl) | ((with_reducible apply al_add); (iterate 3 exact rfl); (first | exact i64_wrap (by omega) | assumption | rfl); exact rfl) | ((with_reducible apply al_sub); (iterate 3 exact rfl); (first | exact i64_wrap (by omega) | assumption | rfl); exact rfl) | ((with_reducible apply al_mul); (iterate 3 exact rfl); (first | exact i64_wrap (by omega) | assumption | rfl); exact rfl) | (refine al_call1 rfl rfl rfl (by (first | exact C1 | exact C2 | exact C3)) rfl ?_) | (refine al_call2 rfl rfl rfl rfl (by (first | exact C1 | exact C2 | exact C3)) rfl ?_) | ((with_reducible apply al_bin); (iterate 5 exact rfl); (intro W; go_simp; try rfl); (intro W; go_simp; try rfl); exact rfl; exact rfl) | ((with_reducible apply al_un); exact rfl; exact rfl; (intro W; go_simp; try rfl); exact rfl; exact rfl) | ((with_reducible apply al_nilS); kernel_rfl) | ((with_reducible apply awp_region_draw); kernel_rfl; kernel_rfl; exact rfl) | ((with_reducible apply awp_seq)) | ((with_reducible apply athen_normal)) | ((with_reducible apply awp_region)) | ((with_reducible apply al_nil)) | ((with_reducible apply awp_ret)) | ((with_reducible apply awp_skip)) | ((with_reducible apply athen_ret)) | ((with_reducible apply awp_cond_t); exact rfl) | ((with_reducible apply awp_cond_f); exact rfl) | ((with_reducible apply awp_cond_1); exact rfl; (first | assumption | exact decide_eq_true (by omega) | (simp only [Bool.not_eq_true', decide_eq_false_iff_not, decide_eq_true_eq, Bool.not_eq_false']; omega))) | ((with_reducible apply awp_cond_0); exact rfl; (first | assumption | exact decide_eq_false (by omega) | (simp only [Bool.not_eq_true', decide_eq_false_iff_not, decide_eq_true_eq, Bool.not_eq_false']; omega)))))
  (first | (refine apost_ret rfl (resl_agg rfl rfl rfl (resl_agg rfl rfl rfl resl_nil)) ?_) | (refine apost_ret rfl (resl_one rfl rfl rfl (resl_agg rfl rfl rfl resl_nil)) ?_) | (refine apost_ret rfl (resl_agg rfl rfl rfl (resl_one rfl rfl rfl resl_nil)) ?_) | (refine apost_ret rfl (resl_one rfl rfl rfl (resl_one rfl rfl rfl resl_nil)) ?_))
  exact AV.Le.refl _
def snb (n d : Int) (r : Nat) : Bool := decide (0 < d) && wi (134217728 / 2 ^ r) (sna n d r)
def snv (n d : Int) (r : Nat) : Int := if snb n d r then sna n d r else 0
/-! the reference package -/
set_option maxRecDepth 100000 in
set_option maxHeartbeats 4000000 in
theorem p_Rung {k : Int} {r : Nat} (h : IsR k r) : PCall Try.prog 20 [vI k] (vI r) := by
  obtain ⟨h0, h1⟩ := h
  have hk : (r : Int) ≤ 28 := by omega
  rcases h1 with ⟨h1, rfl⟩ | ⟨h1, rfl⟩ | rfl
  all_goals
    refine pcall_body (f := 20) Try.func20 rfl rfl rfl rfl ?_
    (repeat (first | ((with_reducible apply al_q); exact rfl) | ((with_reducible apply al_bin); (iterate 5 exact rfl); (intro W; go_simp; try rfl); (intro W; go_simp; try rfl); exact rfl; exact rfl) | ((with_reducible apply awp_seq)) | ((with_reducible apply athen_normal)) | ((with_reducible apply awp_region)) | ((with_reducible apply al_nil)) | ((with_reducible apply awp_ret)) | ((with_reducible apply awp_skip)) | ((with_reducible apply athen_ret)) | ((with_reducible apply awp_cond_t); exact rfl) | ((with_reducible apply awp_cond_f); exact rfl) | ((with_reducible apply awp_cond_1); exact rfl; (first | assumption | exact decide_eq_true (by omega) | (simp only [Bool.not_eq_true', decide_eq_false_iff_not, decide_eq_true_eq, Bool.not_eq_false']; omega))) | ((with_reducible apply awp_cond_0); exact rfl; (first | assumption | exact decide_eq_false (by omega) | (simp only [Bool.not_eq_true', decide_eq_false_iff_not, decide_eq_true_eq, Bool.not_eq_false']; omega)))))
    (first | (refine apost_ret rfl (resl_tmp rfl resl_nil) ?_))
    exact AV.Le.refl _
/-- is a number times 2^r not too far? -/
def nrB (n : Int) (r : Nat) : Bool := decide (-134217728 ≤ n * 2 ^ r) && decide (n * 2 ^ r ≤ 134217728)
end Go.Proofs.Ytcplkjnmfdinaaa

namespace Go.Proofs.Ytcplkjnmfdinaaa
open Go.RowKit
set_option linter.unusedVariables false
set_option linter.unusedSimpArgs false
/-- is a number not too far? -/
def fB (n : Int) : Bool := decide (-536870912 ≤ n) && decide (n ≤ 536870912)
def rB (x y : Int) : Bool := fB x && fB y
/-- the product of three points. -/
def cr (o1 o2 a1 a2 b1 b2 : Int) : Int := (a1 - o1) * (b2 - o2) - (a2 - o2) * (b1 - o1)
/-- the product, or 0, if a point is not right. -/
def crV (o1 o2 a1 a2 b1 b2 : Int) : Int := if (rB o1 o2 && rB a1 a2 && rB b1 b2) = true then cr o1 o2 a1 a2 b1 b2 else 0
/-- the sign of a number. -/
def sgn4 (n : Int) : Int := if n < 0 then -1 else if 0 < n then 1 else 0
/-! boxes -/
abbrev imin (a b : Int) : Int := if b < a then b else a
abbrev imax (a b : Int) : Int := if b > a then b else a
def hB (l1 l2 h1 h2 p1 p2 : Int) : Bool := decide (l1 ≤ p1) && decide (p1 ≤ h1) && decide (l2 ≤ p2) && decide (p2 ≤ h2)
/-- is p on the segment from a to b? -/
def onB (p1 p2 a1 a2 b1 b2 : Int) : Bool := rB p1 p2 && rB a1 a2 && rB b1 b2 && hB (imin a1 b1) (imin a2 b2) (imax a1 b1) (imax a2 b2) p1 p2 && decide (cr a1 a2 b1 b2 p1 p2 = 0)
end Go.Proofs.Ytcplkjnmfdinaaa

namespace Go.Proofs.Ytcplkjnmfdinaaa
set_option linter.unusedVariables false
/-- is a point right in layer 5? -/
def rB5 (x y : Int) : Bool := decide (x ≤ 134217728) && decide (y ≤ 134217728) && decide (-134217728 ≤ x) && decide (-134217728 ≤ y)
theorem rB5_iff {x y : Int} : rB5 x y = true ↔ (-134217728 ≤ x ∧ x ≤ 134217728) ∧ -134217728 ≤ y ∧ y ≤ 134217728 := by
  unfold rB5
  simp only [Bool.and_eq_true, decide_eq_true_eq]
  omega
/-- the first point is no greater than the second. -/
def lx (a1 a2 b1 b2 : Int) : Prop := a1 < b1 ∨ (a1 = b1 ∧ a2 ≤ b2)
instance (a1 a2 b1 b2 : Int) : Decidable (lx a1 a2 b1 b2) := by unfold lx; exact inferInstance
theorem lx.trans {a1 a2 b1 b2 c1 c2 : Int} (h : lx a1 a2 b1 b2) (k : lx b1 b2 c1 c2) : lx a1 a2 c1 c2 := by unfold lx at *; omega
/-- p is on the segment from s to t, s no greater than t. -/
def inBox (p1 p2 a1 a2 b1 b2 : Int) : Prop := imin a1 b1 ≤ p1 ∧ p1 ≤ imax a1 b1 ∧ imin a2 b2 ≤ p2 ∧ p2 ≤ imax a2 b2
/-- p is on the segment from s to t. -/
def On (p1 p2 s1 s2 t1 t2 : Int) : Prop := cr s1 s2 t1 t2 p1 p2 = 0 ∧ inBox p1 p2 s1 s2 t1 t2
/-- how two directions turn. -/
def par (s1 s2 s3 s4 t1 t2 t3 t4 : Int) : Int := (s3 - s1) * (t4 - t2) - (s4 - s2) * (t3 - t1)
/-- is n over d between two numbers? -/
def bw (n d a b : Int) : Prop := imin a b * d ≤ n ∧ n ≤ imax a b * d
/-! what two segments have in common -/
structure Mt where
  k : Int
  n : Int
  d : Int
  m : Int
  e : Int
  p1 : Int
  p2 : Int
  q1 : Int
  q2 : Int
def noM : Mt := ⟨0, 0, 0, 0, 0, 0, 0, 0, 0⟩
def plM (n d m e : Int) : Mt := ⟨1, n, d, m, e, 0, 0, 0, 0⟩
def alM (p1 p2 q1 q2 : Int) : Mt := ⟨2, 0, 0, 0, 0, p1, p2, q1, q2⟩
def nr1 (n d : Int) : Int := if d < 0 then -n else n
def nr2 (d : Int) : Int := if d < 0 then -d else d
/-- the lines' numbers. -/
def nX (a1 a2 b1 b2 c1 c2 d1 d2 : Int) : Int := ((b2 - a2) * a1 + (a1 - b1) * a2) * (c1 - d1) - (a1 - b1) * ((d2 - c2) * c1 + (c1 - d1) * c2)
def nY (a1 a2 b1 b2 c1 c2 d1 d2 : Int) : Int := (b2 - a2) * ((d2 - c2) * c1 + (c1 - d1) * c2) - ((b2 - a2) * a1 + (a1 - b1) * a2) * (d2 - c2)
def wD (a1 a2 b1 b2 c1 c2 d1 d2 : Int) : Int := (b2 - a2) * (c1 - d1) - (a1 - b1) * (d2 - c2)
section
variable (a1 a2 b1 b2 c1 c2 d1 d2 : Int)
end
/-- two lines of other directions meet within both segments. -/
def four (a1 a2 b1 b2 c1 c2 d1 d2 x y d : Int) : Prop := bw x d a1 b1 ∧ bw y d a2 b2 ∧ bw x d c1 d1 ∧ bw y d c2 d2
instance (n d a b : Int) : Decidable (bw n d a b) := by unfold bw; exact inferInstance
instance (a1 a2 b1 b2 c1 c2 d1 d2 x y d : Int) : Decidable (four a1 a2 b1 b2 c1 c2 d1 d2 x y d) := by unfold four; exact inferInstance
def meetW (a1 a2 b1 b2 c1 c2 d1 d2 x y d : Int) : Mt := if four a1 a2 b1 b2 c1 c2 d1 d2 x y d then plM x d y d else noM
def meetN (a1 a2 b1 b2 c1 c2 d1 d2 : Int) : Mt :=
  meetW a1 a2 b1 b2 c1 c2 d1 d2 (nr1 (nX a1 a2 b1 b2 c1 c2 d1 d2) (wD a1 a2 b1 b2 c1 c2 d1 d2)) (nr1 (nY a1 a2 b1 b2 c1 c2 d1 d2) (wD a1 a2 b1 b2 c1 c2 d1 d2)) (nr2 (wD a1 a2 b1 b2 c1 c2 d1 d2))
/-- both above 0, or both below. -/
def same (m n : Int) : Prop := (0 < m ∧ 0 < n) ∨ (m < 0 ∧ n < 0)
instance (m n : Int) : Decidable (same m n) := by unfold same; exact inferInstance
/-! the lesser, and the greater, of two points -/
def lo1 (a1 a2 b1 b2 : Int) : Int := if lx a1 a2 b1 b2 then a1 else b1
def lo2 (a1 a2 b1 b2 : Int) : Int := if lx a1 a2 b1 b2 then a2 else b2
def hi1 (a1 a2 b1 b2 : Int) : Int := if lx a1 a2 b1 b2 then b1 else a1
def hi2 (a1 a2 b1 b2 : Int) : Int := if lx a1 a2 b1 b2 then b2 else a2
theorem on_comm {p1 p2 a1 a2 b1 b2 : Int} : On p1 p2 b1 b2 a1 a2 ↔ On p1 p2 a1 a2 b1 b2 := by
  unfold On inBox
  have e : cr b1 b2 a1 a2 p1 p2 = - cr a1 a2 b1 b2 p1 p2 := by unfold cr; grind
  have m : ∀ x y : Int, imin x y = imin y x := fun x y => by unfold imin; split <;> split <;> omega
  have n : ∀ x y : Int, imax x y = imax y x := fun x y => by unfold imax; split <;> split <;> omega
  rw [e, m a1, m a2, n a1, n a2]
  constructor <;> rintro ⟨h, k⟩ <;> exact ⟨by omega, k⟩
instance (p1 p2 a1 a2 b1 b2 : Int) : Decidable (inBox p1 p2 a1 a2 b1 b2) := by unfold inBox; exact inferInstance
instance (p1 p2 a1 a2 b1 b2 : Int) : Decidable (On p1 p2 a1 a2 b1 b2) := by unfold On; exact inferInstance
def inlP (f1 f2 g1 g2 : Int) : Mt := if f1 = g1 ∧ f2 = g2 then plM f1 1 f2 1 else alM f1 f2 g1 g2
def inl (s1 s2 s3 s4 t1 t2 t3 t4 : Int) : Mt :=
  if On (hi1 s1 s2 t1 t2) (hi2 s1 s2 t1 t2) s1 s2 s3 s4 ∧ On (hi1 s1 s2 t1 t2) (hi2 s1 s2 t1 t2) t1 t2 t3 t4 then inlP (hi1 s1 s2 t1 t2) (hi2 s1 s2 t1 t2) (lo1 s3 s4 t3 t4) (lo2 s3 s4 t3 t4) else noM
def ok5 (x y : Int) : Bool := decide (x ≤ 134217728) && decide (y ≤ 134217728) && decide (-134217728 ≤ x) && decide (-134217728 ≤ y)
/-- the sorted segments in one line. -/
def inlS (a1 a2 b1 b2 c1 c2 d1 d2 : Int) : Mt := inl (lo1 a1 a2 b1 b2) (lo2 a1 a2 b1 b2) (hi1 a1 a2 b1 b2) (hi2 a1 a2 b1 b2) (lo1 c1 c2 d1 d2) (lo2 c1 c2 d1 d2) (hi1 c1 c2 d1 d2) (hi2 c1 c2 d1 d2)
/-- what two segments of right points have in common. -/
def meetV (a1 a2 b1 b2 c1 c2 d1 d2 : Int) : Mt := if wD a1 a2 b1 b2 c1 c2 d1 d2 = 0 then inlS a1 a2 b1 b2 c1 c2 d1 d2 else meetN a1 a2 b1 b2 c1 c2 d1 d2
/-- by the ends' sides: s, t in order. -/
def meetS (s1 s2 s3 s4 t1 t2 t3 t4 A B C D : Int) : Mt :=
  if A = B then inl s1 s2 s3 s4 t1 t2 t3 t4
  else if same A B ∨ same C D then noM
  else plM (nr1 (t3 * A - t1 * B) (A - B)) (nr2 (A - B)) (nr1 (t4 * A - t2 * B) (A - B)) (nr2 (A - B))
/-! the least, and the greatest, of a row -/
def lt' (a b : Int × Int) : Prop := a.1 < b.1 ∨ (a.1 = b.1 ∧ a.2 < b.2)
instance (a b : Int × Int) : Decidable (lt' a b) := by unfold lt'; exact inferInstance
def lea (a b : Int × Int) : Int × Int := if lt' a b then a else b
def mos (a b : Int × Int) : Int × Int := if lea a b = a then b else a
/-- the ends that are on both segments. -/
def ends (a1 a2 b1 b2 c1 c2 d1 d2 : Int) : List (Int × Int) := [(a1, a2), (b1, b2), (c1, c2), (d1, d2)].filter fun p => decide (On p.1 p.2 a1 a2 b1 b2) && decide (On p.1 p.2 c1 c2 d1 d2)
def rowM : List (Int × Int) → Mt
  | [] => noM
  | x :: l => inlP (l.foldl lea x).1 (l.foldl lea x).2 (l.foldl mos x).1 (l.foldl mos x).2
end Go.Proofs.Ytcplkjnmfdinaaa

namespace Go.Proofs.Ytcplkjnmfdinaaa
set_option linter.unusedVariables false
/-- a place on the way: n over d, left itself or not. -/
structure Bd where
  n : Int
  d : Int
  own : Bool
structure Pa where
  f : Bd
  t : Bd
def cmB (x y : Bd) : Int := icmp (x.n * y.d) (y.n * x.d)
def laB (x y : Bd) : Bd := if 0 < cmB x y ∨ (cmB x y = 0 ∧ y.own = true) then x else y
def eaB (x y : Bd) : Bd := if cmB x y < 0 ∨ (cmB x y = 0 ∧ y.own = true) then x else y
def kpB (p : Pa) (u v : Int) (own : Bool) : Pa :=
  if 0 < v - u then ⟨laB p.f ⟨-u, v - u, own⟩, p.t⟩
  else if v - u < 0 then ⟨p.f, eaB p.t ⟨u, -(v - u), own⟩⟩
  else if u < 0 ∨ (u = 0 ∧ own = false) then ⟨⟨1, 1, false⟩, ⟨0, 1, false⟩⟩ else p
def anB (p : Pa) : Bool := decide (cmB p.f p.t < 0) || (decide (cmB p.f p.t = 0) && p.f.own && p.t.own)
def alB : Pa := ⟨⟨0, 1, true⟩, ⟨1, 1, true⟩⟩
theorem ic_lt (x y : Int) : icmp x y < 0 ↔ x < y := by unfold icmp; split <;> (try split) <;> omega
theorem ic_gt (x y : Int) : 0 < icmp x y ↔ y < x := by unfold icmp; split <;> (try split) <;> omega
theorem ic_eq (x y : Int) : icmp x y = 0 ↔ x = y := by unfold icmp; split <;> (try split) <;> omega
/-- is n over d not ahead of a bound; not behind it? -/
def Aft (x : Bd) (n d : Int) : Prop := x.n * d < n * x.d ∨ (x.own = true ∧ x.n * d = n * x.d)
def Bef (y : Bd) (n d : Int) : Prop := n * y.d < y.n * d ∨ (y.own = true ∧ n * y.d = y.n * d)
def InP (p : Pa) (n d : Int) : Prop := Aft p.f n d ∧ Bef p.t n d
theorem mul_lt {a b c : Int} (h : a < b) (hc : 0 < c) : a * c < b * c := Int.mul_lt_mul_of_pos_right h hc
theorem lt_mul {a b c : Int} (h : a * c < b * c) (hc : 0 < c) : a < b := Int.lt_of_mul_lt_mul_right h (by omega)
theorem eq_mul {a b c : Int} (h : a * c = b * c) (hc : 0 < c) : a = b := Int.eq_of_mul_eq_mul_right (by omega) h
/-- fractions: no greater, no greater. -/
theorem fr_ll {a b c d e f : Int} (hb : 0 < b) (hd : 0 < d) (hf : 0 < f) (h : a * d < c * b) (k : c * f < e * d) : a * f < e * b := by
  have h1 := mul_lt h hf
  have h2 := mul_lt k hb
  refine lt_mul (c := d) ?_ hd
  have e1 : a * d * f = a * f * d := by grind
  have e2 : c * b * f = c * f * b := by grind
  have e3 : e * d * b = e * b * d := by grind
  omega
theorem fr_el {a b c d e f : Int} (hb : 0 < b) (hd : 0 < d) (hf : 0 < f) (h : a * d = c * b) (k : c * f < e * d) : a * f < e * b := by
  have h2 := mul_lt k hb
  refine lt_mul (c := d) ?_ hd
  have e1 : a * d * f = a * f * d := by grind
  have e2 : c * b * f = c * f * b := by grind
  have e3 : e * d * b = e * b * d := by grind
  have h1 : a * d * f = c * b * f := by rw [h]
  omega
theorem fr_le {a b c d e f : Int} (hb : 0 < b) (hd : 0 < d) (hf : 0 < f) (h : a * d < c * b) (k : c * f = e * d) : a * f < e * b := by
  have h1 := mul_lt h hf
  refine lt_mul (c := d) ?_ hd
  have e1 : a * d * f = a * f * d := by grind
  have e2 : c * b * f = c * f * b := by grind
  have e3 : e * d * b = e * b * d := by grind
  have h2 : c * f * b = e * d * b := by rw [k]
  omega
theorem fr_ee {a b c d e f : Int} (hb : 0 < b) (hd : 0 < d) (hf : 0 < f) (h : a * d = c * b) (k : c * f = e * d) : a * f = e * b := by
  refine eq_mul (c := d) ?_ hd
  have e1 : a * d * f = a * f * d := by grind
  have e2 : c * b * f = c * f * b := by grind
  have e3 : e * d * b = e * b * d := by grind
  have h1 : a * d * f = c * b * f := by rw [h]
  have h2 : c * f * b = e * d * b := by rw [k]
  omega
theorem cm_tri (x y : Bd) : (x.n * y.d < y.n * x.d ∧ cmB x y < 0) ∨ (x.n * y.d = y.n * x.d ∧ cmB x y = 0) ∨ (y.n * x.d < x.n * y.d ∧ 0 < cmB x y) := by
  have h1 := ic_lt (x.n * y.d) (y.n * x.d)
  have h2 := ic_gt (x.n * y.d) (y.n * x.d)
  have h3 := ic_eq (x.n * y.d) (y.n * x.d)
  unfold cmB
  omega
theorem la_cases (x y : Bd) : (laB x y = x ∧ (0 < cmB x y ∨ (cmB x y = 0 ∧ y.own = true))) ∨ (laB x y = y ∧ ¬ (0 < cmB x y ∨ (cmB x y = 0 ∧ y.own = true))) := by
  unfold laB
  split
  · rename_i h; exact .inl ⟨rfl, h⟩
  · rename_i h; exact .inr ⟨rfl, h⟩
theorem ea_cases (x y : Bd) : (eaB x y = x ∧ (cmB x y < 0 ∨ (cmB x y = 0 ∧ y.own = true))) ∨ (eaB x y = y ∧ ¬ (cmB x y < 0 ∨ (cmB x y = 0 ∧ y.own = true))) := by
  unfold eaB
  split
  · rename_i h; exact .inl ⟨rfl, h⟩
  · rename_i h; exact .inr ⟨rfl, h⟩
theorem aft_la {x y : Bd} {n d : Int} (hx : 0 < x.d) (hy : 0 < y.d) (hd : 0 < d) : Aft (laB x y) n d ↔ Aft x n d ∧ Aft y n d := by
  unfold Aft
  rcases la_cases x y with ⟨e, h⟩ | ⟨e, h⟩ <;> rw [e] <;> rcases cm_tri x y with ⟨t, c⟩ | ⟨t, c⟩ | ⟨t, c⟩
  · omega
  · have ho : y.own = true := by rcases h with h | ⟨_, h⟩ <;> first | exact h | (exfalso; omega)
    refine ⟨fun k => ⟨k, ?_⟩, fun k => k.1⟩
    rcases k with k | ⟨_, k⟩
    · exact .inl (fr_el hy hx hd t.symm k)
    · exact .inr ⟨ho, fr_ee hy hx hd t.symm k⟩
  · refine ⟨fun k => ⟨k, ?_⟩, fun k => k.1⟩
    rcases k with k | ⟨_, k⟩
    · exact .inl (fr_ll hy hx hd t k)
    · exact .inl (fr_le hy hx hd t k)
  · refine ⟨fun k => ⟨?_, k⟩, fun k => k.2⟩
    rcases k with k | ⟨_, k⟩
    · exact .inl (fr_ll hx hy hd t k)
    · exact .inl (fr_le hx hy hd t k)
  · refine ⟨fun k => ⟨?_, k⟩, fun k => k.2⟩
    have ho : ¬ y.own = true := fun q => h (.inr ⟨c, q⟩)
    rcases k with k | ⟨q, k⟩
    · exact .inl (fr_el hx hy hd t k)
    · exact absurd q ho
  · omega
theorem bef_ea {x y : Bd} {n d : Int} (hx : 0 < x.d) (hy : 0 < y.d) (hd : 0 < d) : Bef (eaB x y) n d ↔ Bef x n d ∧ Bef y n d := by
  unfold Bef
  rcases ea_cases x y with ⟨e, h⟩ | ⟨e, h⟩ <;> rw [e] <;> rcases cm_tri x y with ⟨t, c⟩ | ⟨t, c⟩ | ⟨t, c⟩
  · refine ⟨fun k => ⟨k, ?_⟩, fun k => k.1⟩
    rcases k with k | ⟨_, k⟩
    · exact .inl (fr_ll hd hx hy k t)
    · exact .inl (fr_el hd hx hy k t)
  · have ho : y.own = true := by rcases h with h | ⟨_, h⟩ <;> first | exact h | (exfalso; omega)
    refine ⟨fun k => ⟨k, ?_⟩, fun k => k.1⟩
    rcases k with k | ⟨_, k⟩
    · exact .inl (fr_le hd hx hy k t)
    · exact .inr ⟨ho, fr_ee hd hx hy k t⟩
  · omega
  · omega
  · refine ⟨fun k => ⟨?_, k⟩, fun k => k.2⟩
    have ho : ¬ y.own = true := fun q => h (.inr ⟨c, q⟩)
    rcases k with k | ⟨q, k⟩
    · exact .inl (fr_le hd hy hx k t.symm)
    · exact absurd q ho
  · refine ⟨fun k => ⟨?_, k⟩, fun k => k.2⟩
    rcases k with k | ⟨_, k⟩
    · exact .inl (fr_ll hd hy hx k t)
    · exact .inl (fr_el hd hy hx k t)
/-- what goes evenly from u to v is above 0 at n over d, or is 0 there, if that is own. -/
def Hol (u v : Int) (own : Bool) (n d : Int) : Prop := 0 < u * (d - n) + v * n ∨ (own = true ∧ u * (d - n) + v * n = 0)
theorem kp_in {p : Pa} {u v n d : Int} {own : Bool} (hf : 0 < p.f.d) (ht : 0 < p.t.d) (hd : 0 < d) : InP (kpB p u v own) n d ↔ InP p n d ∧ Hol u v own n d := by
  have e0 : u * (d - n) + v * n = (v - u) * n + u * d := by grind
  unfold kpB
  by_cases h1 : 0 < v - u
  · rw [if_pos h1]
    unfold InP
    rw [aft_la hf h1 hd]
    have : Aft ⟨-u, v - u, own⟩ n d ↔ Hol u v own n d := by
      unfold Aft Hol
      simp only
      have e1 : -u * d = -(u * d) := by grind
      have e2 : n * (v - u) = (v - u) * n := by grind
      rw [e0, e1, e2]
      constructor
      · rintro (k | ⟨k, l⟩)
        · exact .inl (by omega)
        · exact .inr ⟨k, by omega⟩
      · rintro (k | ⟨k, l⟩)
        · exact .inl (by omega)
        · exact .inr ⟨k, by omega⟩
    rw [this]
    constructor
    · rintro ⟨⟨a, b⟩, c⟩; exact ⟨⟨a, c⟩, b⟩
    · rintro ⟨⟨a, c⟩, b⟩; exact ⟨⟨a, b⟩, c⟩
  · rw [if_neg h1]
    by_cases h2 : v - u < 0
    · rw [if_pos h2]
      unfold InP
      have hq : (0 : Int) < -(v - u) := by omega
      rw [bef_ea ht hq hd]
      have : Bef ⟨u, -(v - u), own⟩ n d ↔ Hol u v own n d := by
        unfold Bef Hol
        simp only
        have e2 : n * -(v - u) = -((v - u) * n) := by grind
        rw [e0, e2]
        constructor
        · rintro (k | ⟨k, l⟩)
          · exact .inl (by omega)
          · exact .inr ⟨k, by omega⟩
        · rintro (k | ⟨k, l⟩)
          · exact .inl (by omega)
          · exact .inr ⟨k, by omega⟩
      rw [this]
      constructor
      · rintro ⟨a, b, c⟩; exact ⟨⟨a, b⟩, c⟩
      · rintro ⟨⟨a, b⟩, c⟩; exact ⟨a, b, c⟩
    · rw [if_neg h2]
      have e3 : v - u = 0 := by omega
      have e4 : u * (d - n) + v * n = u * d := by rw [e0, e3]; omega
      by_cases h3 : u < 0 ∨ (u = 0 ∧ own = false)
      · rw [if_pos h3]
        have hno : ¬ Hol u v own n d := by
          unfold Hol
          rw [e4]
          rcases h3 with h3 | ⟨rfl, rfl⟩
          · have := mul_lt h3 hd
            omega
          · simp
        refine ⟨fun k => absurd k ?_, fun k => absurd k.2 hno⟩
        unfold InP Aft Bef
        simp
        omega
      · rw [if_neg h3]
        have hyes : Hol u v own n d := by
          unfold Hol
          rw [e4]
          by_cases h4 : u = 0
          · subst h4
            right
            refine ⟨?_, by simp⟩
            cases own with
            | true => rfl
            | false => exact absurd (.inr ⟨rfl, rfl⟩) h3
          · left
            have : 0 < u := by omega
            have := mul_lt this hd
            omega
        exact ⟨fun k => ⟨k, hyes⟩, fun k => k.1⟩
theorem la_d {x y : Bd} (hx : 0 < x.d) (hy : 0 < y.d) : 0 < (laB x y).d := by unfold laB; split <;> assumption
theorem ea_d {x y : Bd} (hx : 0 < x.d) (hy : 0 < y.d) : 0 < (eaB x y).d := by unfold eaB; split <;> assumption
theorem kp_d {p : Pa} {u v : Int} {own : Bool} (hf : 0 < p.f.d) (ht : 0 < p.t.d) : 0 < (kpB p u v own).f.d ∧ 0 < (kpB p u v own).t.d := by
  unfold kpB
  by_cases h1 : 0 < v - u
  · rw [if_pos h1]; exact ⟨la_d hf h1, ht⟩
  · rw [if_neg h1]
    by_cases h2 : v - u < 0
    · rw [if_pos h2]; exact ⟨hf, ea_d ht (by simp only; omega)⟩
    · rw [if_neg h2]
      split
      · exact ⟨by decide, by decide⟩
      · exact ⟨hf, ht⟩
/-- the middle of two. -/
def midN (x y : Bd) : Int := x.n * y.d + y.n * x.d
def midD (x y : Bd) : Int := x.d * y.d + x.d * y.d
theorem mid_in {p : Pa} (hf : 0 < p.f.d) (ht : 0 < p.t.d) (h : p.f.n * p.t.d < p.t.n * p.f.d) : 0 < midD p.f p.t ∧ InP p (midN p.f p.t) (midD p.f p.t) := by
  unfold midN midD InP Aft Bef
  have hm : 0 < p.f.d * p.t.d := Int.mul_pos hf ht
  refine ⟨by omega, .inl ?_, .inl ?_⟩
  · have := mul_lt h hf
    grind
  · have := mul_lt h ht
    grind
theorem an_iff {p : Pa} (hf : 0 < p.f.d) (ht : 0 < p.t.d) : anB p = true ↔ ∃ n d, 0 < d ∧ InP p n d := by
  unfold anB
  simp only [Bool.or_eq_true, Bool.and_eq_true, decide_eq_true_eq]
  constructor
  · intro h
    rcases cm_tri p.f p.t with ⟨t, c⟩ | ⟨t, c⟩ | ⟨t, c⟩
    · obtain ⟨h1, h2⟩ := mid_in hf ht t
      exact ⟨_, _, h1, h2⟩
    · rcases h with h | ⟨⟨_, h1⟩, h2⟩
      · omega
      · exact ⟨p.f.n, p.f.d, hf, .inr ⟨h1, rfl⟩, .inr ⟨h2, t⟩⟩
    · rcases h with h | ⟨⟨h, _⟩, _⟩ <;> omega
  · rintro ⟨n, d, hd, h1, h2⟩
    rcases cm_tri p.f p.t with ⟨t, c⟩ | ⟨t, c⟩ | ⟨t, c⟩
    · exact .inl c
    · right
      refine ⟨⟨c, ?_⟩, ?_⟩
      · rcases h1 with h1 | ⟨h1, _⟩
        · exfalso
          rcases h2 with h2 | ⟨_, h2⟩
          · have := fr_ll hf hd ht h1 h2; omega
          · have := fr_le hf hd ht h1 h2; omega
        · exact h1
      · rcases h2 with h2 | ⟨h2, _⟩
        · exfalso
          rcases h1 with h1 | ⟨_, h1⟩
          · have := fr_ll hf hd ht h1 h2; omega
          · have := fr_el hf hd ht h1 h2; omega
        · exact h2
    · exfalso
      rcases h1 with h1 | ⟨_, h1⟩ <;> rcases h2 with h2 | ⟨_, h2⟩
      · have := fr_ll hf hd ht h1 h2; omega
      · have := fr_le hf hd ht h1 h2; omega
      · have := fr_el hf hd ht h1 h2; omega
      · have := fr_ee hf hd ht h1 h2; omega
/-- the four cuts. -/
def cut4 (u1 v1 u2 v2 u3 v3 u4 v4 : Int) (o p : Bool) : Pa := kpB (kpB (kpB (kpB alB u1 v1 o) u2 v2 o) u3 v3 p) u4 v4 p
theorem cut4_d (u1 v1 u2 v2 u3 v3 u4 v4 : Int) (o p : Bool) : 0 < (cut4 u1 v1 u2 v2 u3 v3 u4 v4 o p).f.d ∧ 0 < (cut4 u1 v1 u2 v2 u3 v3 u4 v4 o p).t.d := by
  unfold cut4
  have h1 := kp_d (p := alB) (u := u1) (v := v1) (own := o) (by decide) (by decide)
  have h2 := kp_d (u := u2) (v := v2) (own := o) h1.1 h1.2
  have h3 := kp_d (u := u3) (v := v3) (own := p) h2.1 h2.2
  exact kp_d (u := u4) (v := v4) (own := p) h3.1 h3.2
theorem al_in {n d : Int} (hd : 0 < d) : InP alB n d ↔ 0 ≤ n ∧ n ≤ d := by
  unfold InP Aft Bef alB
  simp
  omega
theorem cut4_in {u1 v1 u2 v2 u3 v3 u4 v4 n d : Int} {o p : Bool} (hd : 0 < d) : InP (cut4 u1 v1 u2 v2 u3 v3 u4 v4 o p) n d ↔ (0 ≤ n ∧ n ≤ d) ∧ Hol u1 v1 o n d ∧ Hol u2 v2 o n d ∧ Hol u3 v3 p n d ∧ Hol u4 v4 p n d := by
  unfold cut4
  have h1 := kp_d (p := alB) (u := u1) (v := v1) (own := o) (by decide) (by decide)
  have h2 := kp_d (u := u2) (v := v2) (own := o) h1.1 h1.2
  have h3 := kp_d (u := u3) (v := v3) (own := p) h2.1 h2.2
  rw [kp_in h3.1 h3.2 hd, kp_in h2.1 h2.2 hd, kp_in h1.1 h1.2 hd, kp_in (by decide) (by decide) hd, al_in hd]
  simp only [and_assoc]
/-- the segment has a place in the box. -/
def Met (u1 v1 u2 v2 u3 v3 u4 v4 : Int) (o p : Bool) : Prop := ∃ n d, 0 < d ∧ (0 ≤ n ∧ n ≤ d) ∧ Hol u1 v1 o n d ∧ Hol u2 v2 o n d ∧ Hol u3 v3 p n d ∧ Hol u4 v4 p n d
theorem cut4_any (u1 v1 u2 v2 u3 v3 u4 v4 : Int) (o p : Bool) : anB (cut4 u1 v1 u2 v2 u3 v3 u4 v4 o p) = true ↔ Met u1 v1 u2 v2 u3 v3 u4 v4 o p := by
  obtain ⟨h1, h2⟩ := cut4_d u1 v1 u2 v2 u3 v3 u4 v4 o p
  rw [an_iff h1 h2]
  constructor
  · rintro ⟨n, d, hd, h⟩; exact ⟨n, d, hd, (cut4_in hd).1 h⟩
  · rintro ⟨n, d, hd, h⟩; exact ⟨n, d, hd, (cut4_in hd).2 h⟩
end Go.Proofs.Ytcplkjnmfdinaaa

namespace Go.Proofs.Ytcplkjnmfdinaaa
open Go.RowKit
set_option linter.unusedVariables false
set_option linter.unusedSimpArgs false
def fB5 (n : Int) : Bool := decide (-134217728 ≤ n) && decide (n ≤ 134217728)
set_option maxRecDepth 100000 in
set_option maxHeartbeats 4000000 in
theorem p_far5 {n : Int} {b : Bool} (hb : fB5 n = b) : PCall Try.prog 48 [vI n] (vB b) := by
  have cs : (-134217728 ≤ n ∧ n ≤ 134217728 ∧ b = true) ∨ (-134217728 ≤ n ∧ ¬ n ≤ 134217728 ∧ b = false) ∨ (¬ -134217728 ≤ n ∧ b = false) := by
    rw [← hb]; unfold fB5
    by_cases h1 : -134217728 ≤ n <;> by_cases h2 : n ≤ 134217728 <;> simp [h1, h2]
  clear hb
  rcases cs with ⟨h1, h2, rfl⟩ | ⟨h1, h2, rfl⟩ | ⟨h1, rfl⟩
  all_goals
    refine pcall_body (f := 48) Try.func48 rfl rfl rfl rfl ?_
    (repeat (first | ((with_reducible apply al_q); exact rfl) | ((with_reducible apply al_guard_b (c := true)); exact rfl; exact rfl; (first | assumption | exact decide_eq_true (by omega) | (simp only [Bool.not_eq_true', decide_eq_false_iff_not, decide_eq_true_eq, Bool.not_eq_false']; omega))) | ((with_reducible apply al_guard_b (c := false)); exact rfl; exact rfl; (first | assumption | exact decide_eq_false (by omega) | (simp only [Bool.not_eq_true', decide_eq_false_iff_not, decide_eq_true_eq, Bool.not_eq_false']; omega))) | ((with_reducible apply al_bin); (iterate 5 exact rfl); (intro W; go_simp; try rfl); (intro W; go_simp; try rfl); exact rfl; exact rfl) | ((with_reducible apply al_nilS); kernel_rfl) | ((with_reducible apply awp_region_draw); kernel_rfl; kernel_rfl; exact rfl) | ((with_reducible apply awp_seq)) | ((with_reducible apply athen_normal)) | ((with_reducible apply awp_region)) | ((with_reducible apply al_nil)) | ((with_reducible apply awp_ret)) | ((with_reducible apply awp_skip)) | ((with_reducible apply athen_ret))))
    (first | (refine apost_ret rfl (resl_tmp rfl resl_nil) ?_))
    first | exact AV.Le.refl _ | exact AV.Le.of_eq (by rw [decide_eq_true h2]; rfl) | exact AV.Le.of_eq (by rw [decide_eq_false h2]; rfl)
theorem rB5_f (x y : Int) : rB5 x y = (fB5 x && fB5 y) := by
  unfold rB5 fB5
  rw [Bool.eq_iff_iff]
  simp only [Bool.and_eq_true, decide_eq_true_eq]
  omega
set_option maxRecDepth 100000 in
set_option maxHeartbeats 4000000 in
theorem p_cRight {x y : Int} {b : Bool} (hb : rB5 x y = b) : PCall Try.prog 37 [vP x y] (vB b) := by
  have C1 := p_far5 (n := x) rfl
  have C2 := p_far5 (n := y) rfl
  rw [rB5_f] at hb
  cases q1 : fB5 x <;> cases q2 : fB5 y <;> rw [q1] at C1 <;> rw [q2] at C2 <;> rw [q1, q2] at hb <;> subst hb <;> clear q1 q2
  all_goals
    refine pcall_body (f := 37) Try.func37 rfl rfl rfl rfl ?_
    (repeat (first | ((with_reducible apply al_q); exact rfl) | (refine al_call1 rfl rfl rfl (by (first | exact C1 | exact C2)) rfl ?_) | ((with_reducible apply al_guard_b (c := true)); exact rfl; exact rfl; (first | assumption | exact decide_eq_true (by omega) | (simp only [Bool.not_eq_true', decide_eq_false_iff_not, decide_eq_true_eq, Bool.not_eq_false']; omega))) | ((with_reducible apply al_guard_b (c := false)); exact rfl; exact rfl; (first | assumption | exact decide_eq_false (by omega) | (simp only [Bool.not_eq_true', decide_eq_false_iff_not, decide_eq_true_eq, Bool.not_eq_false']; omega))) | ((with_reducible apply al_nilS); kernel_rfl) | ((with_reducible apply awp_region_draw); kernel_rfl; kernel_rfl; exact rfl) | ((with_reducible apply awp_seq)) | ((with_reducible apply athen_normal)) | ((with_reducible apply awp_region)) | ((with_reducible apply al_nil)) | ((with_reducible apply awp_ret)) | ((with_reducible apply awp_skip)) | ((with_reducible apply athen_ret))))
    (first | (refine apost_ret rfl (resl_tmp rfl resl_nil) ?_))
    exact AV.Le.refl _
end Go.Proofs.Ytcplkjnmfdinaaa

