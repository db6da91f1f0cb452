/-
  Statements of layer 6: PixelBetween. My own text.
-/
import Derived.Test.YtfcehanpmbeegaaPixF
namespace Go.Proofs.Ytfcehanpmbeegaa
open Go.RowKit
set_option linter.unusedVariables false
set_option linter.unusedSimpArgs false
theorem gsn_up {P v q : Int} (hP : 0 < P) (h : 0 ≤ 2 * v - (2 * (P * q) - P)) : q ≤ (2 * v + P) / (2 * P) := by
  obtain ⟨h1, h2⟩ := gsn_spec (v := v) hP
  generalize (2 * v + P) / (2 * P) = A at *
  have : P * q < P * (A + 1) := by rw [Int.mul_add, Int.mul_comm P A]; omega
  have := Int.lt_of_mul_lt_mul_left this (by omega)
  omega
theorem gsn_dn {P v q : Int} (hP : 0 < P) (h : 0 < 2 * (P * q) + P - 2 * v) : (2 * v + P) / (2 * P) ≤ q := by
  obtain ⟨h1, h2⟩ := gsn_spec (v := v) hP
  generalize (2 * v + P) / (2 * P) = A at *
  have : P * A < P * (q + 1) := by rw [Int.mul_add, Int.mul_comm P A]; omega
  have := Int.lt_of_mul_lt_mul_left this (by omega)
  omega
theorem hiB_iff {a1 a2 b1 b2 q1 q2 : Int} {r : Nat} (hr : r ≤ 28) : hiB a1 a2 b1 b2 q1 q2 r = true ↔ inB r q1 q2 = true ∧ meB a1 a2 b1 b2 (2 * (2 ^ r * q1) - 2 ^ r) (2 * (2 ^ r * q2) - 2 ^ r) (2 * (2 ^ r * q1) + 2 ^ r) (2 * (2 ^ r * q2) + 2 ^ r) 0 = true := by
  unfold hiB
  have g1 : decide ((0 : Int) ≤ (r : Int)) = true := decide_eq_true (by omega)
  have g2 : decide ((r : Int) ≤ 28) = true := decide_eq_true (by omega)
  rw [g1, g2, Int.toNat_natCast, Bool.and_self, Bool.true_and, Bool.and_eq_true]
theorem hiB_between {a1 a2 b1 b2 q1 q2 : Int} {r : Nat} (hr : r ≤ 28) (h : hiB a1 a2 b1 b2 q1 q2 r = true) : ((if gsn b1 r < gsn a1 r then gsn b1 r else gsn a1 r) ≤ q1 ∧ q1 ≤ (if gsn b1 r > gsn a1 r then gsn b1 r else gsn a1 r)) ∧ (if gsn b2 r < gsn a2 r then gsn b2 r else gsn a2 r) ≤ q2 ∧ q2 ≤ (if gsn b2 r > gsn a2 r then gsn b2 r else gsn a2 r) := by
  rw [hiB_iff hr, meB_iff] at h
  obtain ⟨_, _, h⟩ := h
  have hP : (0 : Int) < 2 ^ r := by have := pow28 hr; omega
  obtain ⟨s1, s2, s3, s4⟩ := met_sides h
  have u1 : q1 ≤ gsn a1 r ∨ q1 ≤ gsn b1 r := s1.elim (fun k => .inl (gsn_up hP k)) fun k => .inr (gsn_up hP k)
  have u2 : q2 ≤ gsn a2 r ∨ q2 ≤ gsn b2 r := s2.elim (fun k => .inl (gsn_up hP k)) fun k => .inr (gsn_up hP k)
  have u3 : gsn a1 r ≤ q1 ∨ gsn b1 r ≤ q1 := s3.elim (fun k => .inl (gsn_dn hP k)) fun k => .inr (gsn_dn hP k)
  have u4 : gsn a2 r ≤ q2 ∨ gsn b2 r ≤ q2 := s4.elim (fun k => .inl (gsn_dn hP k)) fun k => .inr (gsn_dn hP k)
  refine ⟨⟨?_, ?_⟩, ?_, ?_⟩ <;> split <;> omega
theorem hiB_end {a1 a2 b1 b2 : Int} {r : Nat} (hr : r ≤ 28) (ra : rB5 a1 a2 = true) (rb : rB5 b1 b2 = true) : hiB a1 a2 b1 b2 (gsn a1 r) (gsn a2 r) r = inB r (gsn a1 r) (gsn a2 r) := by
  rw [Bool.eq_iff_iff, hiB_iff hr]
  refine ⟨fun h => h.1, fun h => ⟨h, ?_⟩⟩
  have p28 := pow28 hr
  have hP : (0 : Int) < 2 ^ r := by omega
  have j := (inB_mul r _ _).1 h
  have g1 : 2 * (gsn a1 r * 2 ^ r) ≤ 2 * a1 + 2 ^ r ∧ 2 * a1 + 2 ^ r < 2 * (gsn a1 r * 2 ^ r) + 2 * 2 ^ r := gsn_spec hP
  have g2 : 2 * (gsn a2 r * 2 ^ r) ≤ 2 * a2 + 2 ^ r ∧ 2 * a2 + 2 ^ r < 2 * (gsn a2 r * 2 ^ r) + 2 * 2 ^ r := gsn_spec hP
  rw [Int.mul_comm (gsn a1 r)] at g1
  rw [Int.mul_comm (gsn a2 r)] at g2
  rw [meB_iff, meR_iff]
  generalize (2 : Int) ^ r = P at *
  generalize P * gsn a1 r = c1 at *
  generalize P * gsn a2 r = c2 at *
  refine ⟨⟨ra, rb, by rw [co6_iff]; omega, by rw [co6_iff]; omega, rfl⟩, met_low ?_ ?_ (.inl (by omega)) (.inl (by omega))⟩
  · by_cases h0 : 2 * a1 - (2 * c1 - P) = 0
    · exact .inr ⟨rfl, h0⟩
    · exact .inl (by omega)
  · by_cases h0 : 2 * a2 - (2 * c2 - P) = 0
    · exact .inr ⟨rfl, h0⟩
    · exact .inl (by omega)
theorem hiB_turn {a1 a2 b1 b2 q1 q2 k : Int} : hiB b1 b2 a1 a2 q1 q2 k = hiB a1 a2 b1 b2 q1 q2 k := by unfold hiB; rw [meB_turn]
set_option maxRecDepth 100000 in
set_option maxHeartbeats 8000000 in
theorem pbetween_no {a1 a2 b1 b2 q1 q2 k r : Int} {r1 r2 : Bool} (A1 : PCall Try.prog 13 [] (vB true)) (G1 : PCall Try.prog 15 [vI k] (vI r)) (R1 : PCall Try.prog 19 [vP a1 a2] (vB r1)) (R2 : PCall Try.prog 19 [vP b1 b2] (vB r2))
    (cs : ¬ k = r ∨ (k = r ∧ r1 = false) ∨ (k = r ∧ r1 = true ∧ r2 = false)) : PCall Try.prog 7 [v2 a1 a2 b1 b2, vP q1 q2, vI k] (vB true) := by
  rcases cs with c1 | ⟨c1, rfl⟩ | ⟨c1, rfl, rfl⟩
  · have e : (!decide (k = r)) = true := by simp [c1]
    refine pcall_body (f := 7) Try.func7 rfl rfl rfl rfl ?_
    (repeat (first | ((with_reducible apply al_q); exact rfl) | ((with_reducible apply al_loadP1); (iterate 5 exact rfl)) | ((with_reducible apply al_loadPN); (iterate 5 exact rfl)) | ((with_reducible apply al_fldP); (iterate 3 exact rfl)) | ((with_reducible apply al_idxS); (iterate 3 exact rfl); (first | decide | omega); (first | decide | omega); (first | assumption | rfl); exact rfl) | ((with_reducible apply al_idx); (iterate 3 exact rfl); omega; omega; exact rfl) | ((with_reducible apply al_eqP); (iterate 4 exact rfl)) | ((with_reducible apply al_eqB); (iterate 4 exact rfl)) | ((with_reducible apply al_neqP); (iterate 4 exact rfl)) | ((with_reducible apply al_min); (iterate 4 exact rfl)) | ((with_reducible apply al_max); (iterate 4 exact rfl)) | ((with_reducible apply al_eqT); (iterate 4 exact rfl); kernel_rfl) | ((with_reducible apply al_neT); (iterate 4 exact rfl); kernel_rfl) | (refine al_call0 rfl rfl (by (first | exact A1 | exact G1 | exact R1 | exact R2)) rfl ?_) | (refine al_call1 rfl rfl rfl (by (first | exact A1 | exact G1 | exact R1 | exact R2)) rfl ?_) | (refine al_call2 rfl rfl rfl rfl (by (first | exact A1 | exact G1 | exact R1 | exact R2)) rfl ?_) | (refine al_call4 rfl rfl rfl rfl rfl rfl (by (first | exact A1 | exact G1 | exact R1 | exact R2)) rfl ?_) | ((with_reducible apply al_guard_b (c := true)); exact rfl; exact rfl; (first | assumption | exact decide_eq_true (by omega) | (simp only [Bool.not_eq_true', decide_eq_false_iff_not, decide_eq_true_eq, Bool.not_eq_false']; omega))) | ((with_reducible apply al_guard_b (c := false)); exact rfl; exact rfl; (first | assumption | exact decide_eq_false (by omega) | (simp only [Bool.not_eq_true', decide_eq_false_iff_not, decide_eq_true_eq, Bool.not_eq_false']; omega))) | ((with_reducible apply al_bin); (iterate 5 exact rfl); (intro W; go_simp; try rfl); (intro W; go_simp; try rfl); exact rfl; exact rfl) | ((with_reducible apply al_un); exact rfl; exact rfl; (intro W; go_simp; try rfl); exact rfl; exact rfl) | ((with_reducible apply al_nilS); kernel_rfl) | ((with_reducible apply awp_region_draw); kernel_rfl; kernel_rfl; exact rfl) | ((with_reducible apply awp_seq)) | ((with_reducible apply athen_normal)) | ((with_reducible apply awp_region)) | ((with_reducible apply al_nil)) | ((with_reducible apply awp_ret)) | ((with_reducible apply awp_skip)) | ((with_reducible apply athen_ret)) | ((with_reducible apply awp_cond_t); exact rfl) | ((with_reducible apply awp_cond_f); exact rfl) | ((with_reducible apply awp_cond_1); exact rfl; (first | assumption | exact decide_eq_true (by omega) | (simp only [Bool.not_eq_true', decide_eq_false_iff_not, decide_eq_true_eq, Bool.not_eq_false']; omega))) | ((with_reducible apply awp_cond_0); exact rfl; (first | assumption | exact decide_eq_false (by omega) | (simp only [Bool.not_eq_true', decide_eq_false_iff_not, decide_eq_true_eq, Bool.not_eq_false']; omega)))))
    (first | (refine apost_ret rfl (resl_tmp rfl resl_nil) ?_))
    exact AV.Le.refl _
  all_goals
    have e : (!decide (k = r)) = false := by simp [c1]
    refine pcall_body (f := 7) Try.func7 rfl rfl rfl rfl ?_
    (repeat (first | ((with_reducible apply al_q); exact rfl) | ((with_reducible apply al_loadP1); (iterate 5 exact rfl)) | ((with_reducible apply al_loadPN); (iterate 5 exact rfl)) | ((with_reducible apply al_fldP); (iterate 3 exact rfl)) | ((with_reducible apply al_idxS); (iterate 3 exact rfl); (first | decide | omega); (first | decide | omega); (first | assumption | rfl); exact rfl) | ((with_reducible apply al_idx); (iterate 3 exact rfl); omega; omega; exact rfl) | ((with_reducible apply al_eqP); (iterate 4 exact rfl)) | ((with_reducible apply al_eqB); (iterate 4 exact rfl)) | ((with_reducible apply al_neqP); (iterate 4 exact rfl)) | ((with_reducible apply al_min); (iterate 4 exact rfl)) | ((with_reducible apply al_max); (iterate 4 exact rfl)) | ((with_reducible apply al_eqT); (iterate 4 exact rfl); kernel_rfl) | ((with_reducible apply al_neT); (iterate 4 exact rfl); kernel_rfl) | (refine al_call0 rfl rfl (by (first | exact A1 | exact G1 | exact R1 | exact R2)) rfl ?_) | (refine al_call1 rfl rfl rfl (by (first | exact A1 | exact G1 | exact R1 | exact R2)) rfl ?_) | (refine al_call2 rfl rfl rfl rfl (by (first | exact A1 | exact G1 | exact R1 | exact R2)) rfl ?_) | (refine al_call4 rfl rfl rfl rfl rfl rfl (by (first | exact A1 | exact G1 | exact R1 | exact R2)) rfl ?_) | ((with_reducible apply al_guard_b (c := true)); exact rfl; exact rfl; (first | assumption | exact decide_eq_true (by omega) | (simp only [Bool.not_eq_true', decide_eq_false_iff_not, decide_eq_true_eq, Bool.not_eq_false']; omega))) | ((with_reducible apply al_guard_b (c := false)); exact rfl; exact rfl; (first | assumption | exact decide_eq_false (by omega) | (simp only [Bool.not_eq_true', decide_eq_false_iff_not, decide_eq_true_eq, Bool.not_eq_false']; omega))) | ((with_reducible apply al_bin); (iterate 5 exact rfl); (intro W; go_simp; try rfl); (intro W; go_simp; try rfl); exact rfl; exact rfl) | ((with_reducible apply al_un); exact rfl; exact rfl; (intro W; go_simp; try rfl); exact rfl; exact rfl) | ((with_reducible apply al_nilS); kernel_rfl) | ((with_reducible apply awp_region_draw); kernel_rfl; kernel_rfl; exact rfl) | ((with_reducible apply awp_seq)) | ((with_reducible apply athen_normal)) | ((with_reducible apply awp_region)) | ((with_reducible apply al_nil)) | ((with_reducible apply awp_ret)) | ((with_reducible apply awp_skip)) | ((with_reducible apply athen_ret)) | ((with_reducible apply awp_cond_t); exact rfl) | ((with_reducible apply awp_cond_f); exact rfl) | ((with_reducible apply awp_cond_1); exact rfl; (first | assumption | exact decide_eq_true (by omega) | (simp only [Bool.not_eq_true', decide_eq_false_iff_not, decide_eq_true_eq, Bool.not_eq_false']; omega))) | ((with_reducible apply awp_cond_0); exact rfl; (first | assumption | exact decide_eq_false (by omega) | (simp only [Bool.not_eq_true', decide_eq_false_iff_not, decide_eq_true_eq, Bool.not_eq_false']; omega)))))
    (first | (refine apost_ret rfl (resl_tmp rfl resl_nil) ?_))
    exact AV.Le.refl _
set_option maxRecDepth 100000 in
set_option maxHeartbeats 16000000 in
theorem pbetween_yes {a1 a2 b1 b2 q1 q2 k A1 A2 B1 B2 : Int} {h i j : Bool} (AL : PCall Try.prog 13 [] (vB true)) (G1 : PCall Try.prog 15 [vI k] (vI k)) (R1 : PCall Try.prog 19 [vP a1 a2] (vB true)) (R2 : PCall Try.prog 19 [vP b1 b2] (vB true))
    (O1 : PCall Try.prog 20 [vP a1 a2, vI k] (vP A1 A2)) (O2 : PCall Try.prog 20 [vP b1 b2, vI k] (vP B1 B2)) (H0 : PCall Try.prog 14 [vP a1 a2, vP b1 b2, vP q1 q2, vI k] (vB h)) (H1 : PCall Try.prog 14 [vP a1 a2, vP b1 b2, vP A1 A2, vI k] (vB i)) (H2 : PCall Try.prog 14 [vP a1 a2, vP b1 b2, vP B1 B2, vI k] (vB j))
    (I1 : PCall Try.prog 16 [vP A1 A2, vI k] (vB i)) (I2 : PCall Try.prog 16 [vP B1 B2, vI k] (vB j))
    (cs : (¬ (if B1 < A1 then B1 else A1) ≤ q1 ∧ h = false) ∨ ((if B1 < A1 then B1 else A1) ≤ q1 ∧ ¬ q1 ≤ (if B1 > A1 then B1 else A1) ∧ h = false) ∨ ((if B1 < A1 then B1 else A1) ≤ q1 ∧ q1 ≤ (if B1 > A1 then B1 else A1) ∧ ¬ (if B2 < A2 then B2 else A2) ≤ q2 ∧ h = false) ∨ ((if B1 < A1 then B1 else A1) ≤ q1 ∧ q1 ≤ (if B1 > A1 then B1 else A1) ∧ (if B2 < A2 then B2 else A2) ≤ q2 ∧ ¬ q2 ≤ (if B2 > A2 then B2 else A2) ∧ h = false) ∨ ((if B1 < A1 then B1 else A1) ≤ q1 ∧ q1 ≤ (if B1 > A1 then B1 else A1) ∧ (if B2 < A2 then B2 else A2) ≤ q2 ∧ q2 ≤ (if B2 > A2 then B2 else A2))) :
    PCall Try.prog 7 [v2 a1 a2 b1 b2, vP q1 q2, vI k] (vB true) := by
  have e : (!decide (k = k)) = false := by simp
  have fin : ∀ (i j : Bool), ((true && (i == i)) && (j == j)) = true := by decide
  rcases cs with ⟨c1, rfl⟩ | ⟨c1, c2, rfl⟩ | ⟨c1, c2, c3, rfl⟩ | ⟨c1, c2, c3, c4, rfl⟩ | ⟨c1, c2, c3, c4⟩
  · have d1 := decide_eq_false c1
    cases i <;> cases j
    all_goals
      refine pcall_body (f := 7) Try.func7 rfl rfl rfl rfl ?_
      (repeat (first | ((with_reducible apply al_q); exact rfl) | ((with_reducible apply al_loadP1); (iterate 5 exact rfl)) | ((with_reducible apply al_loadPN); (iterate 5 exact rfl)) | ((with_reducible apply al_fldP); (iterate 3 exact rfl)) | ((with_reducible apply al_idxS); (iterate 3 exact rfl); (first | decide | omega); (first | decide | omega); (first | assumption | rfl); exact rfl) | ((with_reducible apply al_idx); (iterate 3 exact rfl); omega; omega; exact rfl) | ((with_reducible apply al_eqP); (iterate 4 exact rfl)) | ((with_reducible apply al_eqB); (iterate 4 exact rfl)) | ((with_reducible apply al_neqP); (iterate 4 exact rfl)) | ((with_reducible apply al_min); (iterate 4 exact rfl)) | ((with_reducible apply al_max); (iterate 4 exact rfl)) | ((with_reducible apply al_eqT); (iterate 4 exact rfl); kernel_rfl) | ((with_reducible apply al_neT); (iterate 4 exact rfl); kernel_rfl) | (refine al_call0 rfl rfl (by (first | exact AL | exact G1 | exact R1 | exact R2 | exact O1 | exact O2 | exact H0 | exact H1 | exact H2 | exact I1 | exact I2)) rfl ?_) | (refine al_call1 rfl rfl rfl (by (first | exact AL | exact G1 | exact R1 | exact R2 | exact O1 | exact O2 | exact H0 | exact H1 | exact H2 | exact I1 | exact I2)) rfl ?_) | (refine al_call2 rfl rfl rfl rfl (by (first | exact AL | exact G1 | exact R1 | exact R2 | exact O1 | exact O2 | exact H0 | exact H1 | exact H2 | exact I1 | exact I2)) rfl ?_) | (refine al_call4 rfl rfl rfl rfl rfl rfl (by (first | exact AL | exact G1 | exact R1 | exact R2 | exact O1 | exact O2 | exact H0 | exact H1 | exact H2 | exact I1 | exact I2)) rfl ?_) | ((with_reducible apply al_guard_b (c := true)); exact rfl; exact rfl; (first | assumption | exact decide_eq_true (by omega) | (simp only [Bool.not_eq_true', decide_eq_false_iff_not, decide_eq_true_eq, Bool.not_eq_false']; omega))) | ((with_reducible apply al_guard_b (c := false)); exact rfl; exact rfl; (first | assumption | exact decide_eq_false (by omega) | (simp only [Bool.not_eq_true', decide_eq_false_iff_not, decide_eq_true_eq, Bool.not_eq_false']; omega))) | ((with_reducible apply al_bin); (iterate 5 exact rfl); (intro W; go_simp; try rfl); (intro W; go_simp; try rfl); exact rfl; exact rfl) | ((with_reducible apply al_un); exact rfl; exact rfl; (intro W; go_simp; try rfl); exact rfl; exact rfl) | ((with_reducible apply al_nilS); kernel_rfl) | ((with_reducible apply awp_region_draw); kernel_rfl; kernel_rfl; exact rfl) | ((with_reducible apply awp_seq)) | ((with_reducible apply athen_normal)) | ((with_reducible apply awp_region)) | ((with_reducible apply al_nil)) | ((with_reducible apply awp_ret)) | ((with_reducible apply awp_skip)) | ((with_reducible apply athen_ret)) | ((with_reducible apply awp_cond_t); exact rfl) | ((with_reducible apply awp_cond_f); exact rfl) | ((with_reducible apply awp_cond_1); exact rfl; (first | assumption | exact decide_eq_true (by omega) | (simp only [Bool.not_eq_true', decide_eq_false_iff_not, decide_eq_true_eq, Bool.not_eq_false']; omega))) | ((with_reducible apply awp_cond_0); exact rfl; (first | assumption | exact decide_eq_false (by omega) | (simp only [Bool.not_eq_true', decide_eq_false_iff_not, decide_eq_true_eq, Bool.not_eq_false']; omega)))))
      (first | (refine apost_ret rfl (resl_tmp rfl resl_nil) ?_))
      exact AV.Le.refl _
  · have d1 := decide_eq_true c1
    have d2 := decide_eq_false c2
    cases i <;> cases j
    all_goals
      refine pcall_body (f := 7) Try.func7 rfl rfl rfl rfl ?_
      (repeat (first | ((with_reducible apply al_q); exact rfl) | ((with_reducible apply al_loadP1); (iterate 5 exact rfl)) | ((with_reducible apply al_loadPN); (iterate 5 exact rfl)) | ((with_reducible apply al_fldP); (iterate 3 exact rfl)) | ((with_reducible apply al_idxS); (iterate 3 exact rfl); (first | decide | omega); (first | decide | omega); (first | assumption | rfl); exact rfl) | ((with_reducible apply al_idx); (iterate 3 exact rfl); omega; omega; exact rfl) | ((with_reducible apply al_eqP); (iterate 4 exact rfl)) | ((with_reducible apply al_eqB); (iterate 4 exact rfl)) | ((with_reducible apply al_neqP); (iterate 4 exact rfl)) | ((with_reducible apply al_min); (iterate 4 exact rfl)) | ((with_reducible apply al_max); (iterate 4 exact rfl)) | ((with_reducible apply al_eqT); (iterate 4 exact rfl); kernel_rfl) | ((with_reducible apply al_neT); (iterate 4 exact rfl); kernel_rfl) | (refine al_call0 rfl rfl (by (first | exact AL | exact G1 | exact R1 | exact R2 | exact O1 | exact O2 | exact H0 | exact H1 | exact H2 | exact I1 | exact I2)) rfl ?_) | (refine al_call1 rfl rfl rfl (by (first | exact AL | exact G1 | exact R1 | exact R2 | exact O1 | exact O2 | exact H0 | exact H1 | exact H2 | exact I1 | exact I2)) rfl ?_) | (refine al_call2 rfl rfl rfl rfl (by (first | exact AL | exact G1 | exact R1 | exact R2 | exact O1 | exact O2 | exact H0 | exact H1 | exact H2 | exact I1 | exact I2)) rfl ?_) | (refine al_call4 rfl rfl rfl rfl rfl rfl (by (first | exact AL | exact G1 | exact R1 | exact R2 | exact O1 | exact O2 | exact H0 | exact H1 | exact H2 | exact I1 | exact I2)) rfl ?_) | ((with_reducible apply al_guard_b (c := true)); exact rfl; exact rfl; (first | assumption | exact decide_eq_true (by omega) | (simp only [Bool.not_eq_true', decide_eq_false_iff_not, decide_eq_true_eq, Bool.not_eq_false']; omega))) | ((with_reducible apply al_guard_b (c := false)); exact rfl; exact rfl; (first | assumption | exact decide_eq_false (by omega) | (simp only [Bool.not_eq_true', decide_eq_false_iff_not, decide_eq_true_eq, Bool.not_eq_false']; omega))) | ((with_reducible apply al_bin); (iterate 5 exact rfl); (intro W; go_simp; try rfl); (intro W; go_simp; try rfl); exact rfl; exact rfl) | ((with_reducible apply al_un); exact rfl; exact rfl; (intro W; go_simp; try rfl); exact rfl; exact rfl) | ((with_reducible apply al_nilS); kernel_rfl) | ((with_reducible apply awp_region_draw); kernel_rfl; kernel_rfl; exact rfl) | ((with_reducible apply awp_seq)) | ((with_reducible apply athen_normal)) | ((with_reducible apply awp_region)) | ((with_reducible apply al_nil)) | ((with_reducible apply awp_ret)) | ((with_reducible apply awp_skip)) | ((with_reducible apply athen_ret)) | ((with_reducible apply awp_cond_t); exact rfl) | ((with_reducible apply awp_cond_f); exact rfl) | ((with_reducible apply awp_cond_1); exact rfl; (first | assumption | exact decide_eq_true (by omega) | (simp only [Bool.not_eq_true', decide_eq_false_iff_not, decide_eq_true_eq, Bool.not_eq_false']; omega))) | ((with_reducible apply awp_cond_0); exact rfl; (first | assumption | exact decide_eq_false (by omega) | (simp only [Bool.not_eq_true', decide_eq_false_iff_not, decide_eq_true_eq, Bool.not_eq_false']; omega)))))
      (first | (refine apost_ret rfl (resl_tmp rfl resl_nil) ?_))
      exact AV.Le.refl _
  · have d1 := decide_eq_true c1
    have d2 := decide_eq_true c2
    have d3 := decide_eq_false c3
    cases i <;> cases j
    all_goals
      refine pcall_body (f := 7) Try.func7 rfl rfl rfl rfl ?_
      (repeat (first | ((with_reducible apply al_q); exact rfl) | ((with_reducible apply al_loadP1); (iterate 5 exact rfl)) | ((with_reducible apply al_loadPN); (iterate 5 exact rfl)) | ((with_reducible apply al_fldP); (iterate 3 exact rfl)) | ((with_reducible apply al_idxS); (iterate 3 exact rfl); (first | decide | omega); (first | decide | omega); (first | assumption | rfl); exact rfl) | ((with_reducible apply al_idx); (iterate 3 exact rfl); omega; omega; exact rfl) | ((with_reducible apply al_eqP); (iterate 4 exact rfl)) | ((with_reducible apply al_eqB); (iterate 4 exact rfl)) | ((with_reducible apply al_neqP); (iterate 4 exact rfl)) | ((with_reducible apply al_min); (iterate 4 exact rfl)) | ((with_reducible apply al_max); (iterate 4 exact rfl)) | ((with_reducible apply al_eqT); (iterate 4 exact rfl); kernel_rfl) | ((with_reducible apply al_neT); (iterate 4 exact rfl); kernel_rfl) | (refine al_call0 rfl rfl (by (first | exact AL | exact G1 | exact R1 | exact R2 | exact O1 | exact O2 | exact H0 | exact H1 | exact H2 | exact I1 | exact I2)) rfl ?_) | (refine al_call1 rfl rfl rfl (by (first | exact AL | exact G1 | exact R1 | exact R2 | exact O1 | exact O2 | exact H0 | exact H1 | exact H2 | exact I1 | exact I2)) rfl ?_) | (refine al_call2 rfl rfl rfl rfl (by (first | exact AL | exact G1 | exact R1 | exact R2 | exact O1 | exact O2 | exact H0 | exact H1 | exact H2 | exact I1 | exact I2)) rfl ?_) | (refine al_call4 rfl rfl rfl rfl rfl rfl (by (first | exact AL | exact G1 | exact R1 | exact R2 | exact O1 | exact O2 | exact H0 | exact H1 | exact H2 | exact I1 | exact I2)) rfl ?_) | ((with_reducible apply al_guard_b (c := true)); exact rfl; exact rfl; (first | assumption | exact decide_eq_true (by omega) | (simp only [Bool.not_eq_true', decide_eq_false_iff_not, decide_eq_true_eq, Bool.not_eq_false']; omega))) | ((with_reducible apply al_guard_b (c := false)); exact rfl; exact rfl; (first | assumption | exact decide_eq_false (by omega) | (simp only [Bool.not_eq_true', decide_eq_false_iff_not, decide_eq_true_eq, Bool.not_eq_false']; omega))) | ((with_reducible apply al_bin); (iterate 5 exact rfl); (intro W; go_simp; try rfl); (intro W; go_simp; try rfl); exact rfl; exact rfl) | ((with_reducible apply al_un); exact rfl; exact rfl; (intro W; go_simp; try rfl); exact rfl; exact rfl) | ((with_reducible apply al_nilS); kernel_rfl) | ((with_reducible apply awp_region_draw); kernel_rfl; kernel_rfl; exact rfl) | ((with_reducible apply awp_seq)) | ((with_reducible apply athen_normal)) | ((with_reducible apply awp_region)) | ((with_reducible apply al_nil)) | ((with_reducible apply awp_ret)) | ((with_reducible apply awp_skip)) | ((with_reducible apply athen_ret)) | ((with_reducible apply awp_cond_t); exact rfl) | ((with_reducible apply awp_cond_f); exact rfl) | ((with_reducible apply awp_cond_1); exact rfl; (first | assumption | exact decide_eq_true (by omega) | (simp only [Bool.not_eq_true', decide_eq_false_iff_not, decide_eq_true_eq, Bool.not_eq_false']; omega))) | ((with_reducible apply awp_cond_0); exact rfl; (first | assumption | exact decide_eq_false (by omega) | (simp only [Bool.not_eq_true', decide_eq_false_iff_not, decide_eq_true_eq, Bool.not_eq_false']; omega)))))
      (first | (refine apost_ret rfl (resl_tmp rfl resl_nil) ?_))
      exact AV.Le.refl _
  · have d1 := decide_eq_true c1
    have d2 := decide_eq_true c2
    have d3 := decide_eq_true c3
    have d4 := decide_eq_false c4
    cases i <;> cases j
    all_goals
      refine pcall_body (f := 7) Try.func7 rfl rfl rfl rfl ?_
      (repeat (first | ((with_reducible apply al_q); exact rfl) | ((with_reducible apply al_loadP1); (iterate 5 exact rfl)) | ((with_reducible apply al_loadPN); (iterate 5 exact rfl)) | ((with_reducible apply al_fldP); (iterate 3 exact rfl)) | ((with_reducible apply al_idxS); (iterate 3 exact rfl); (first | decide | omega); (first | decide | omega); (first | assumption | rfl); exact rfl) | ((with_reducible apply al_idx); (iterate 3 exact rfl); omega; omega; exact rfl) | ((with_reducible apply al_eqP); (iterate 4 exact rfl)) | ((with_reducible apply al_eqB); (iterate 4 exact rfl)) | ((with_reducible apply al_neqP); (iterate 4 exact rfl)) | ((with_reducible apply al_min); (iterate 4 exact rfl)) | ((with_reducible apply al_max); (iterate 4 exact rfl)) | ((with_reducible apply al_eqT); (iterate 4 exact rfl); kernel_rfl) | ((with_reducible apply al_neT); (iterate 4 exact rfl); kernel_rfl) | (refine al_call0 rfl rfl (by (first | exact AL | exact G1 | exact R1 | exact R2 | exact O1 | exact O2 | exact H0 | exact H1 | exact H2 | exact I1 | exact I2)) rfl ?_) | (refine al_call1 rfl rfl rfl (by (first | exact AL | exact G1 | exact R1 | exact R2 | exact O1 | exact O2 | exact H0 | exact H1 | exact H2 | exact I1 | exact I2)) rfl ?_) | (refine al_call2 rfl rfl rfl rfl (by (first | exact AL | exact G1 | exact R1 | exact R2 | exact O1 | exact O2 | exact H0 | exact H1 | exact H2 | exact I1 | exact I2)) rfl ?_) | (refine al_call4 rfl rfl rfl rfl rfl rfl (by (first | exact AL | exact G1 | exact R1 | exact R2 | exact O1 | exact O2 | exact H0 | exact H1 | exact H2 | exact I1 | exact I2)) rfl ?_) | ((with_reducible apply al_guard_b (c := true)); exact rfl; exact rfl; (first | assumption | exact decide_eq_true (by omega) | (simp only [Bool.not_eq_true', decide_eq_false_iff_not, decide_eq_true_eq, Bool.not_eq_false']; omega))) | ((with_reducible apply al_guard_b (c := false)); exact rfl; exact rfl; (first | assumption | exact decide_eq_false (by omega) | (simp only [Bool.not_eq_true', decide_eq_false_iff_not, decide_eq_true_eq, Bool.not_eq_false']; omega))) | ((with_reducible apply al_bin); (iterate 5 exact rfl); (intro W; go_simp; try rfl); (intro W; go_simp; try rfl); exact rfl; exact rfl) | ((with_reducible apply al_un); exact rfl; exact rfl; (intro W; go_simp; try rfl); exact rfl; exact rfl) | ((with_reducible apply al_nilS); kernel_rfl) | ((with_reducible apply awp_region_draw); kernel_rfl; kernel_rfl; exact rfl) | ((with_reducible apply awp_seq)) | ((with_reducible apply athen_normal)) | ((with_reducible apply awp_region)) | ((with_reducible apply al_nil)) | ((with_reducible apply awp_ret)) | ((with_reducible apply awp_skip)) | ((with_reducible apply athen_ret)) | ((with_reducible apply awp_cond_t); exact rfl) | ((with_reducible apply awp_cond_f); exact rfl) | ((with_reducible apply awp_cond_1); exact rfl; (first | assumption | exact decide_eq_true (by omega) | (simp only [Bool.not_eq_true', decide_eq_false_iff_not, decide_eq_true_eq, Bool.not_eq_false']; omega))) | ((with_reducible apply awp_cond_0); exact rfl; (first | assumption | exact decide_eq_false (by omega) | (simp only [Bool.not_eq_true', decide_eq_false_iff_not, decide_eq_true_eq, Bool.not_eq_false']; omega)))))
      (first | (refine apost_ret rfl (resl_tmp rfl resl_nil) ?_))
      exact AV.Le.refl _
  · have d1 := decide_eq_true c1
    have d2 := decide_eq_true c2
    have d3 := decide_eq_true c3
    have d4 := decide_eq_true c4
    cases h <;> cases i <;> cases j
    all_goals
      refine pcall_body (f := 7) Try.func7 rfl rfl rfl rfl ?_
      (repeat (first | ((with_reducible apply al_q); exact rfl) | ((with_reducible apply al_loadP1); (iterate 5 exact rfl)) | ((with_reducible apply al_loadPN); (iterate 5 exact rfl)) | ((with_reducible apply al_fldP); (iterate 3 exact rfl)) | ((with_reducible apply al_idxS); (iterate 3 exact rfl); (first | decide | omega); (first | decide | omega); (first | assumption | rfl); exact rfl) | ((with_reducible apply al_idx); (iterate 3 exact rfl); omega; omega; exact rfl) | ((with_reducible apply al_eqP); (iterate 4 exact rfl)) | ((with_reducible apply al_eqB); (iterate 4 exact rfl)) | ((with_reducible apply al_neqP); (iterate 4 exact rfl)) | ((with_reducible apply al_min); (iterate 4 exact rfl)) | ((with_reducible apply al_max); (iterate 4 exact rfl)) | ((with_reducible apply al_eqT); (iterate 4 exact rfl); kernel_rfl) | ((with_reducible apply al_neT); (iterate 4 exact rfl); kernel_rfl) | (refine al_call0 rfl rfl (by (first | exact AL | exact G1 | exact R1 | exact R2 | exact O1 | exact O2 | exact H0 | exact H1 | exact H2 | exact I1 | exact I2)) rfl ?_) | (refine al_call1 rfl rfl rfl (by (first | exact AL | exact G1 | exact R1 | exact R2 | exact O1 | exact O2 | exact H0 | exact H1 | exact H2 | exact I1 | exact I2)) rfl ?_) | (refine al_call2 rfl rfl rfl rfl (by (first | exact AL | exact G1 | exact R1 | exact R2 | exact O1 | exact O2 | exact H0 | exact H1 | exact H2 | exact I1 | exact I2)) rfl ?_) | (refine al_call4 rfl rfl rfl rfl rfl rfl (by (first | exact AL | exact G1 | exact R1 | exact R2 | exact O1 | exact O2 | exact H0 | exact H1 | exact H2 | exact I1 | exact I2)) rfl ?_) | ((with_reducible apply al_guard_b (c := true)); exact rfl; exact rfl; (first | assumption | exact decide_eq_true (by omega) | (simp only [Bool.not_eq_true', decide_eq_false_iff_not, decide_eq_true_eq, Bool.not_eq_false']; omega))) | ((with_reducible apply al_guard_b (c := false)); exact rfl; exact rfl; (first | assumption | exact decide_eq_false (by omega) | (simp only [Bool.not_eq_true', decide_eq_false_iff_not, decide_eq_true_eq, Bool.not_eq_false']; omega))) | ((with_reducible apply al_bin); (iterate 5 exact rfl); (intro W; go_simp; try rfl); (intro W; go_simp; try rfl); exact rfl; exact rfl) | ((with_reducible apply al_un); exact rfl; exact rfl; (intro W; go_simp; try rfl); exact rfl; exact rfl) | ((with_reducible apply al_nilS); kernel_rfl) | ((with_reducible apply awp_region_draw); kernel_rfl; kernel_rfl; exact rfl) | ((with_reducible apply awp_seq)) | ((with_reducible apply athen_normal)) | ((with_reducible apply awp_region)) | ((with_reducible apply al_nil)) | ((with_reducible apply awp_ret)) | ((with_reducible apply awp_skip)) | ((with_reducible apply athen_ret)) | ((with_reducible apply awp_cond_t); exact rfl) | ((with_reducible apply awp_cond_f); exact rfl) | ((with_reducible apply awp_cond_1); exact rfl; (first | assumption | exact decide_eq_true (by omega) | (simp only [Bool.not_eq_true', decide_eq_false_iff_not, decide_eq_true_eq, Bool.not_eq_false']; omega))) | ((with_reducible apply awp_cond_0); exact rfl; (first | assumption | exact decide_eq_false (by omega) | (simp only [Bool.not_eq_true', decide_eq_false_iff_not, decide_eq_true_eq, Bool.not_eq_false']; omega)))))
      (first | (refine apost_ret rfl (resl_tmp rfl resl_nil) ?_))
      exact AV.Le.refl _
theorem gsn_small {x : Int} {r : Nat} (hr : r ≤ 28) (x0 : -134217728 ≤ x) (x1 : x ≤ 134217728) : -268435456 ≤ gsn x r ∧ gsn x r ≤ 268435456 := by
  have p28 := pow28 hr
  have hP : (0 : Int) < 2 ^ r := by omega
  have g : 2 * (gsn x r * 2 ^ r) ≤ 2 * x + 2 ^ r ∧ 2 * x + 2 ^ r < 2 * (gsn x r * 2 ^ r) + 2 * 2 ^ r := gsn_spec hP
  have a := abs_mul_le (s := gsn x r) hP
  omega
theorem pbetween {a1 a2 b1 b2 q1 q2 k : Int} (hk : -9223372036854775808 ≤ k ∧ k ≤ 9223372036854775807) : PCall Try.prog 7 [v2 a1 a2 b1 b2, vP q1 q2, vI k] (vB true) := by
  obtain ⟨r, hr⟩ := isR_ex k
  have G1 := p_Rung hr
  by_cases c1 : k = r
  · cases ra : rB5 a1 a2 with
    | false => exact pbetween_no p_alive6 G1 (p_r5Right ra) (p_r5Right rfl) (.inr (.inl ⟨c1, rfl⟩))
    | true =>
      cases rb : rB5 b1 b2 with
      | false => exact pbetween_no p_alive6 G1 (p_r5Right ra) (p_r5Right rb) (.inr (.inr ⟨c1, rfl, rfl⟩))
      | true =>
        have ia := rB5_iff.1 ra
        have ib := rB5_iff.1 rb
        have hr28 : r ≤ 28 := hr.1
        subst c1
        have s1 := gsn_small hr28 ia.1.1 ia.1.2
        have s2 := gsn_small hr28 ia.2.1 ia.2.2
        have s3 := gsn_small hr28 ib.1.1 ib.1.2
        have s4 := gsn_small hr28 ib.2.1 ib.2.2
        have H1 := p_Hits (a1 := a1) (a2 := a2) (b1 := b1) (b2 := b2) (x := gsn a1 r) (y := gsn a2 r) (k := r)
        rw [hiB_end hr28 ra rb] at H1
        have H2 := p_Hits (a1 := a1) (a2 := a2) (b1 := b1) (b2 := b2) (x := gsn b1 r) (y := gsn b2 r) (k := r)
        rw [← hiB_turn, hiB_end hr28 rb ra] at H2
        refine pbetween_yes p_alive6 G1 (p_r5Right ra) (p_r5Right rb) (p_gOf hr (by omega) (by omega) (by omega) (by omega)) (p_gOf hr (by omega) (by omega) (by omega) (by omega)) p_Hits H1 H2 (p_r3In hr (by omega) (by omega) (by omega) (by omega) rfl) (p_r3In hr (by omega) (by omega) (by omega) (by omega) rfl) ?_
        cases hh : hiB a1 a2 b1 b2 q1 q2 r with
        | true =>
          obtain ⟨⟨k1, k2⟩, k3, k4⟩ := hiB_between hr28 hh
          exact .inr (.inr (.inr (.inr ⟨k1, k2, k3, k4⟩)))
        | false =>
          generalize (if gsn b1 r < gsn a1 r then gsn b1 r else gsn a1 r) = L1
          generalize (if gsn b1 r > gsn a1 r then gsn b1 r else gsn a1 r) = U1
          generalize (if gsn b2 r < gsn a2 r then gsn b2 r else gsn a2 r) = L2
          generalize (if gsn b2 r > gsn a2 r then gsn b2 r else gsn a2 r) = U2
          by_cases k1 : L1 ≤ q1
          · by_cases k2 : q1 ≤ U1
            · by_cases k3 : L2 ≤ q2
              · by_cases k4 : q2 ≤ U2
                · exact .inr (.inr (.inr (.inr ⟨k1, k2, k3, k4⟩)))
                · exact .inr (.inr (.inr (.inl ⟨k1, k2, k3, k4, rfl⟩)))
              · exact .inr (.inr (.inl ⟨k1, k2, k3, rfl⟩))
            · exact .inr (.inl ⟨k1, k2, rfl⟩)
          · exact .inl ⟨k1, rfl⟩
  · exact pbetween_no p_alive6 G1 (p_r5Right rfl) (p_r5Right rfl) (.inl c1)
theorem pbetween_walk (a1 a2 b1 b2 q1 q2 k : Int) (W : World) (_ : -9223372036854775808 ≤ a1 ∧ a1 ≤ 9223372036854775807) (_ : -9223372036854775808 ≤ a2 ∧ a2 ≤ 9223372036854775807) (_ : -9223372036854775808 ≤ b1 ∧ b1 ≤ 9223372036854775807) (_ : -9223372036854775808 ≤ b2 ∧ b2 ≤ 9223372036854775807) (_ : -9223372036854775808 ≤ q1 ∧ q1 ≤ 9223372036854775807) (_ : -9223372036854775808 ≤ q2 ∧ q2 ≤ 9223372036854775807) (hk : -9223372036854775808 ≤ k ∧ k ≤ 9223372036854775807) :
    Calls Try.prog 7 #[.agg #[.int .i64 a1, .int .i64 a2, .int .i64 b1, .int .i64 b2], .agg #[.int .i64 q1, .int .i64 q2], .int .i64 k] W fun e W' => e = .returned (.bool true) ∧ Below W.heap.size W W' :=
  pcall_true (pbetween hk) [_, _, _] rfl rfl W
end Go.Proofs.Ytfcehanpmbeegaa
