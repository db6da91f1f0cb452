/-
  The reference package's Size, by values; cobweblaw03.GridMoves returns true, for all its arguments. My own text.
-/
import Derived.Test.YtfcehanpmbeegaaGridD
import Derived.Test.YtfcehanpmbeegaaAbsP
import Derived.Test.YtfcehanpmbeegaaAbsRow
namespace Go.Proofs.Ytfcehanpmbeegaa
open Go.RowKit
set_option linter.unusedVariables false
set_option linter.unusedSimpArgs false
/-- what holds ahead of each round of Size's loop. -/
def SzI (k : Int) (r : Nat) (m : Nat) (ts : List (Nat × AV)) (ms : List (Nat × List AC)) : Prop :=
  ∃ (i : Nat) (v j : Int), i ≤ r ∧ m = r - i ∧ v = 2 ^ i ∧ j = i ∧ ms = [] ∧ ts = [(0, vI k), (3, vI v), (4, vI j)]
theorem pow28i {i r : Nat} (h : i ≤ r) (hr : r ≤ 28) : (0 : Int) < 2 ^ i ∧ (2 : Int) ^ i ≤ 268435456 := by
  have := pow28 (r := i) (by omega)
  omega
set_option maxRecDepth 100000 in
set_option maxHeartbeats 4000000 in
theorem p_Size {k : Int} {r : Nat} (h : IsR k r) : PCall Try.prog 17 [vI k] (vI (2 ^ r)) := by
  have C1 := p_Rung h
  have hr := h.1
  clear h
  refine pcall_body (f := 17) Try.func17 rfl rfl rfl rfl ?_
  (repeat (first | ((with_reducible apply al_q); exact rfl) | ((with_reducible apply al_add); (iterate 3 exact rfl); (first | exact i64_wrap (by omega) | assumption | rfl); exact rfl) | ((with_reducible apply al_mul); (iterate 3 exact rfl); (first | exact i64_wrap (by omega) | assumption | rfl); exact rfl) | (refine al_call1 rfl rfl rfl (by (first | exact C1)) rfl ?_) | ((with_reducible apply al_bin); (iterate 5 exact rfl); (intro W; go_simp; try rfl); (intro W; go_simp; try rfl); exact rfl; exact rfl) | ((with_reducible apply awp_seq)) | ((with_reducible apply athen_normal)) | ((with_reducible apply awp_region)) | ((with_reducible apply al_nil)) | ((with_reducible apply awp_ret)) | ((with_reducible apply awp_skip)) | ((with_reducible apply athen_ret)) | ((with_reducible apply awp_block)) | ((with_reducible apply ablock_normal)) | ((with_reducible apply ablock_ret)) | ((with_reducible apply ablock_same)) | ((with_reducible apply awp_exit)) | ((with_reducible apply athen_exit)) | ((with_reducible apply roll_succ)) | ((with_reducible apply ablock_ne); exact rfl) | ((with_reducible apply awp_cond_t); exact rfl) | ((with_reducible apply awp_cond_f); exact rfl) | ((with_reducible apply awp_cond_1); exact rfl; (first | assumption | exact decide_eq_true (by omega) | (simp only [Bool.not_eq_true', decide_eq_false_iff_not, decide_eq_true_eq, Bool.not_eq_false']; omega))) | ((with_reducible apply awp_cond_0); exact rfl; (first | assumption | exact decide_eq_false (by omega) | (simp only [Bool.not_eq_true', decide_eq_false_iff_not, decide_eq_true_eq, Bool.not_eq_false']; omega)))))
  refine awp_loopL 14 (SzI k r) r _ [] ⟨0, 1, 0, Nat.zero_le _, rfl, rfl, rfl, rfl, rfl⟩ rfl ⟨rfl, rfl, rfl, trivial⟩ trivial rfl ?_
  rintro m ts ms ⟨i, v, j, hi, rfl, hv, hj, rfl, rfl⟩ hok
  clear hok
  by_cases q : i < r
  · have q' : j < r := by omega
    have e2 : 2 * v = 2 ^ (i + 1) := by rw [hv, Int.pow_succ, Int.mul_comm]
    obtain ⟨b0, b1⟩ := pow28i hi hr
    rw [← hv] at b0 b1
    have hj' : (0 : Int) ≤ j ∧ j ≤ 28 := by omega
    clear hv
    (repeat (first | ((with_reducible apply al_q); exact rfl) | ((with_reducible apply al_add); (iterate 3 exact rfl); (first | exact i64_wrap (by omega) | assumption | rfl); exact rfl) | ((with_reducible apply al_mul); (iterate 3 exact rfl); (first | exact i64_wrap (by omega) | assumption | rfl); exact rfl) | (refine al_call1 rfl rfl rfl (by (first | exact C1)) rfl ?_) | ((with_reducible apply al_bin); (iterate 5 exact rfl); (intro W; go_simp; try rfl); (intro W; go_simp; try rfl); exact rfl; exact rfl) | ((with_reducible apply awp_seq)) | ((with_reducible apply athen_normal)) | ((with_reducible apply awp_region)) | ((with_reducible apply al_nil)) | ((with_reducible apply awp_ret)) | ((with_reducible apply awp_skip)) | ((with_reducible apply athen_ret)) | ((with_reducible apply awp_block)) | ((with_reducible apply ablock_normal)) | ((with_reducible apply ablock_ret)) | ((with_reducible apply ablock_same)) | ((with_reducible apply awp_exit)) | ((with_reducible apply athen_exit)) | ((with_reducible apply roll_succ)) | ((with_reducible apply ablock_ne); exact rfl) | ((with_reducible apply awp_cond_t); exact rfl) | ((with_reducible apply awp_cond_f); exact rfl) | ((with_reducible apply awp_cond_1); exact rfl; (first | assumption | exact decide_eq_true (by omega) | (simp only [Bool.not_eq_true', decide_eq_false_iff_not, decide_eq_true_eq, Bool.not_eq_false']; omega))) | ((with_reducible apply awp_cond_0); exact rfl; (first | assumption | exact decide_eq_false (by omega) | (simp only [Bool.not_eq_true', decide_eq_false_iff_not, decide_eq_true_eq, Bool.not_eq_false']; omega)))))
    exact ⟨r - (i + 1), _, [], by omega, ⟨i + 1, 2 * v, j + 1, by omega, rfl, e2, by omega, rfl, rfl⟩, rfl, ⟨rfl, rfl, rfl, trivial⟩, trivial, rfl⟩
  · have q' : ¬ j < r := by omega
    have e : i = r := by omega
    rw [e] at hv
    clear hi q e
    (repeat (first | ((with_reducible apply al_q); exact rfl) | ((with_reducible apply al_add); (iterate 3 exact rfl); (first | exact i64_wrap (by omega) | assumption | rfl); exact rfl) | ((with_reducible apply al_mul); (iterate 3 exact rfl); (first | exact i64_wrap (by omega) | assumption | rfl); exact rfl) | (refine al_call1 rfl rfl rfl (by (first | exact C1)) rfl ?_) | ((with_reducible apply al_bin); (iterate 5 exact rfl); (intro W; go_simp; try rfl); (intro W; go_simp; try rfl); exact rfl; exact rfl) | ((with_reducible apply awp_seq)) | ((with_reducible apply athen_normal)) | ((with_reducible apply awp_region)) | ((with_reducible apply al_nil)) | ((with_reducible apply awp_ret)) | ((with_reducible apply awp_skip)) | ((with_reducible apply athen_ret)) | ((with_reducible apply awp_block)) | ((with_reducible apply ablock_normal)) | ((with_reducible apply ablock_ret)) | ((with_reducible apply ablock_same)) | ((with_reducible apply awp_exit)) | ((with_reducible apply athen_exit)) | ((with_reducible apply roll_succ)) | ((with_reducible apply ablock_ne); exact rfl) | ((with_reducible apply awp_cond_t); exact rfl) | ((with_reducible apply awp_cond_f); exact rfl) | ((with_reducible apply awp_cond_1); exact rfl; (first | assumption | exact decide_eq_true (by omega) | (simp only [Bool.not_eq_true', decide_eq_false_iff_not, decide_eq_true_eq, Bool.not_eq_false']; omega))) | ((with_reducible apply awp_cond_0); exact rfl; (first | assumption | exact decide_eq_false (by omega) | (simp only [Bool.not_eq_true', decide_eq_false_iff_not, decide_eq_true_eq, Bool.not_eq_false']; omega)))))
    (first | (refine apost_ret rfl (resl_tmp rfl resl_nil) ?_))
    exact AV.Le.of_eq (by rw [hv]; rfl)
theorem mul_bd' {x y A B : Int} (h1 : -A ≤ x) (h2 : x ≤ A) (h3 : 0 ≤ y) (h4 : y ≤ B) : -A * B ≤ x * y ∧ x * y ≤ A * B := by
  have hx : x.natAbs ≤ A.natAbs := by omega
  have hy : y.natAbs ≤ B.natAbs := by omega
  have h := Nat.mul_le_mul hx hy
  rw [← Int.natAbs_mul, ← Int.natAbs_mul] at h
  have hA : 0 ≤ A * B := Int.mul_nonneg (by omega) (by omega)
  rw [Int.neg_mul]
  omega
theorem gsn_spec {P v : Int} (hP : 0 < P) : 2 * ((2 * v + P) / (2 * P) * P) ≤ 2 * v + P ∧ 2 * v + P < 2 * ((2 * v + P) / (2 * P) * P) + 2 * P := by
  have h1 := Int.mul_ediv_add_emod (2 * v + P) (2 * P)
  have h2 := Int.emod_nonneg (2 * v + P) (show 2 * P ≠ 0 by omega)
  have h3 := Int.emod_lt_of_pos (2 * v + P) (show 0 < 2 * P by omega)
  have e : 2 * P * ((2 * v + P) / (2 * P)) = 2 * ((2 * v + P) / (2 * P) * P) := by rw [Int.mul_assoc, Int.mul_comm P]
  omega
theorem gsn_move {P v n : Int} (hP : 0 < P) : (2 * (v + n * P) + P) / (2 * P) = (2 * v + P) / (2 * P) + n := by
  have e : 2 * (v + n * P) + P = 2 * v + P + n * (2 * P) := by
    rw [Int.mul_add, show n * (2 * P) = 2 * (n * P) by rw [← Int.mul_assoc, Int.mul_comm n 2, Int.mul_assoc]]
    omega
  rw [e, Int.add_mul_ediv_right _ _ (by omega)]
theorem abs_mul_le {s P : Int} (hP : 0 < P) : s.natAbs ≤ (s * P).natAbs := by
  rw [Int.natAbs_mul]
  exact Nat.le_mul_of_pos_right _ (by omega)
end Go.Proofs.Ytfcehanpmbeegaa
