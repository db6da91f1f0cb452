/-
  cobweblaw03.GridSnaps returns true, for all its arguments. My own text.
-/
import Derived.Test.YtinjgiigmlikpaaGridD
import Derived.Test.YtinjgiigmlikpaaAbsRow
namespace Go.Proofs.Ytinjgiigmlikpaa
open Go.RowKit
set_option linter.unusedVariables false
set_option linter.unusedSimpArgs false
theorem gsn_mono {v w : Int} (r : Nat) (h : v ≤ w) : gsn v r ≤ gsn w r := by
  unfold gsn
  have hp : (0 : Int) < 2 ^ r := Int.pow_pos (by decide)
  exact Int.ediv_le_ediv (by omega) (by omega)
theorem gsn_bd {v : Int} (r : Nat) (v0 : -9223372036854775808 ≤ v) (v1 : v ≤ 9223372036854775807) : -9223372036854775808 ≤ gsn v r ∧ gsn v r ≤ 9223372036854775807 := by
  have hp : (0 : Int) < 2 ^ r := Int.pow_pos (by decide)
  unfold gsn
  generalize (2 : Int) ^ r = P at *
  have e1 : (2 * v + P) / (2 * P) = (2 * v + P) / (2 * P) := rfl
  constructor
  · refine Int.le_ediv_of_mul_le (by omega) ?_
    have : (-9223372036854775808 : Int) * (2 * P) ≤ -9223372036854775808 * 2 := Int.mul_le_mul_of_nonpos_left (by omega) (by omega)
    omega
  · have : (2 * v + P) / (2 * P) < 9223372036854775808 := by
      refine Int.ediv_lt_of_lt_mul (by omega) ?_
      have h1 : (9223372036854775808 : Int) * (2 * P) = 9223372036854775808 * 2 * P := by rw [Int.mul_assoc]
      omega
    omega
set_option maxRecDepth 100000 in
set_option maxHeartbeats 8000000 in
theorem gsnaps {v w k : Int} {r : Nat} (h : IsR k r) (v0 : -9223372036854775808 ≤ v) (v1 : v ≤ 9223372036854775807) (w0 : -9223372036854775808 ≤ w) (w1 : w ≤ 9223372036854775807) : PCall Try.prog 6 [vI v, vI w, vI k] (vB true) := by
  have A1 := p_alive3
  have S1 := p_gSnap h v0 (show v < 9223372036854775808 by omega)
  have S2 := p_gSnap h w0 (show w < 9223372036854775808 by omega)
  have R1 := p_r3Snap h v0 (show v < 9223372036854775808 by omega)
  obtain ⟨g0, g1⟩ := gsn_bd r v0 v1
  have O1 := p_rOf g0 (show gsn v r < 9223372036854775808 by omega)
  have C1 : PCall Try.prog 15 [nv (gsn v r), nv (gsn v r)] (vI 0) := by have := p_rCmp ((NB.of_fits (fits_small g0 (show gsn v r < 9223372036854775808 by omega))).up (show 10 ≤ 1000 by omega)) ((NB.of_fits (fits_small g0 (show gsn v r < 9223372036854775808 by omega))).up (show 10 ≤ 1000 by omega)); rwa [icmp_self] at this
  have U1 := p_Rung h
  have G1 := p_gRight (k := k)
  have O2 := p_gOf h v0 (show v < 9223372036854775808 by omega) w0 (show w < 9223372036854775808 by omega)
  have mono := gsn_mono r (v := v) (w := w)
  have cs : (k = r ∧ (decide (0 ≤ k) && decide (k ≤ 28)) = true) ∨ (¬ k = r ∧ (decide (0 ≤ k) && decide (k ≤ 28)) = false) := by
    obtain ⟨h0, h1⟩ := h
    by_cases q1 : 0 ≤ k <;> by_cases q2 : k ≤ 28 <;> simp [q1, q2] <;> omega
  have ds : w < v ∨ (v ≤ w ∧ gsn v r ≤ gsn w r) := by
    by_cases q : v ≤ w
    · exact .inr ⟨q, mono q⟩
    · exact .inl (by omega)
  clear mono h
  generalize gsn v r = X at *
  generalize gsn w r = Y at *
  generalize (decide (0 ≤ k) && decide (k ≤ 28)) = rb at *
  rcases cs with ⟨q, rfl⟩ | ⟨q, rfl⟩ <;> rcases ds with t | ⟨t, t'⟩
  all_goals
    refine pcall_body (f := 6) Try.func6 rfl rfl rfl rfl ?_
    (repeat (first | (refine awp_seq ?_) | (refine awp_region ?_) | (refine awp_region_draw (by kernel_rfl) (by kernel_rfl) rfl ?_) | (refine awp_cond_t rfl ?_) | (refine awp_cond_f rfl ?_) | (refine awp_block ?_) | (refine awp_exit ?_) | (refine awp_ret ?_) | (refine awp_skip ?_) | (refine awp_label ?_) | (refine athen_normal ?_) | (refine athen_exit ?_) | (refine athen_ret ?_) | (refine ablock_normal ?_) | (refine ablock_ret ?_) | (refine ablock_same ?_) | (refine ablock_ne rfl ?_) | (refine al_nilS (by kernel_rfl) ?_) | (refine al_nil ?_) | (refine al_fld rfl rfl rfl ?_) | (refine al_idx rfl rfl rfl (by decide) (by decide) rfl ?_) | (refine al_load1 rfl rfl rfl rfl rfl ?_) | (refine al_loadN rfl rfl rfl rfl rfl ?_) | (refine al_store rfl rfl rfl rfl rfl rfl ?_) | (refine al_alloc rfl rfl rfl rfl ?_) | (refine al_box rfl rfl rfl rfl ?_) | (refine al_move rfl rfl rfl ?_) | (refine al_assign rfl rfl rfl ?_) | (refine al_extract rfl rfl rfl rfl ?_) | (refine al_build rfl rfl rfl rfl rfl ?_) | (refine al_lss rfl rfl rfl rfl ?_) | (refine al_leq rfl rfl rfl rfl ?_) | (refine al_gtr rfl rfl rfl rfl ?_) | (refine al_geq rfl rfl rfl rfl ?_) | (refine al_eql rfl rfl rfl rfl ?_) | (refine al_neq rfl rfl rfl rfl ?_) | (refine al_add rfl rfl rfl (by first | exact i64_wrap (by omega) | assumption | rfl) rfl ?_) | (refine al_sub rfl rfl rfl (by first | exact i64_wrap (by omega) | assumption | rfl) rfl ?_) | (refine al_mul rfl rfl rfl (by first | exact i64_wrap (by omega) | assumption | rfl) rfl ?_) | (refine al_not rfl rfl rfl ?_) | (refine al_convI rfl rfl (by first | exact i64_wrap (by omega) | assumption | rfl) rfl ?_) | (refine al_pick_t rfl rfl rfl rfl rfl ?_) | (refine al_pick_f rfl rfl rfl rfl rfl ?_) | (refine al_min rfl rfl rfl rfl ?_) | (refine al_max rfl rfl rfl rfl ?_) | (refine al_pass rfl (by rintro d ⟨⟩; rfl) ?_) | (refine al_call1 rfl rfl rfl (by first | (exact A1) | (exact S1) | (exact S2) | (exact R1) | (exact O1) | (exact C1) | (exact U1) | (exact G1) | (exact O2)) rfl ?_) | (refine al_call2 rfl rfl rfl rfl (by first | (exact A1) | (exact S1) | (exact S2) | (exact R1) | (exact O1) | (exact C1) | (exact U1) | (exact G1) | (exact O2)) rfl ?_) | (refine al_call0 rfl rfl (by first | (exact A1) | (exact S1) | (exact S2) | (exact R1) | (exact O1) | (exact C1) | (exact U1) | (exact G1) | (exact O2)) rfl ?_) | (refine al_call3 rfl rfl rfl rfl rfl (by first | (exact A1) | (exact S1) | (exact S2) | (exact R1) | (exact O1) | (exact C1) | (exact U1) | (exact G1) | (exact O2)) rfl ?_) | (refine al_call4 rfl rfl rfl rfl rfl rfl (by first | (exact A1) | (exact S1) | (exact S2) | (exact R1) | (exact O1) | (exact C1) | (exact U1) | (exact G1) | (exact O2)) rfl ?_) | (refine al_mkfn rfl (fun W => rfl) rfl ?_) | (refine awp_cond_1 rfl (by first | assumption | exact decide_eq_true (by omega) | (simp only [Bool.not_eq_true', decide_eq_false_iff_not, decide_eq_true_eq, Bool.not_eq_false']; omega)) ?_) | (refine awp_cond_0 rfl (by first | assumption | exact decide_eq_false (by omega) | (simp only [Bool.not_eq_true', decide_eq_false_iff_not, decide_eq_true_eq, Bool.not_eq_false']; omega)) ?_) | (refine al_guard_b (c := true) rfl rfl (by first | assumption | exact decide_eq_true (by omega) | (simp only [Bool.not_eq_true', decide_eq_false_iff_not, decide_eq_true_eq, Bool.not_eq_false']; omega)) ?_) | (refine al_guard_b (c := false) rfl rfl (by first | assumption | exact decide_eq_false (by omega) | (simp only [Bool.not_eq_true', decide_eq_false_iff_not, decide_eq_true_eq, Bool.not_eq_false']; omega)) ?_) | (refine al_bin rfl rfl rfl rfl rfl (by intro W; go_simp; try rfl) (by intro W; go_simp; try rfl) rfl rfl ?_) | (refine al_un rfl rfl (by intro W; go_simp; try rfl) rfl rfl ?_) | (refine al_conv rfl rfl (by intro W; go_simp; try rfl) rfl rfl ?_)))
    (first | (refine apost_ret rfl (resl_tmp rfl resl_nil) ?_))
    first | exact AV.Le.refl _ | exact AV.Le.of_eq (by rw [decide_eq_true t']; rfl)
theorem gsnaps_walk (v w k : Int) (W : World) (hv : -9223372036854775808 ≤ v ∧ v ≤ 9223372036854775807) (hw : -9223372036854775808 ≤ w ∧ w ≤ 9223372036854775807) (hk : -9223372036854775808 ≤ k ∧ k ≤ 9223372036854775807) :
    Calls Try.prog 6 #[.int .i64 v, .int .i64 w, .int .i64 k] W fun e W' => e = .returned (.bool true) ∧ Below W.heap.size W W' := by
  obtain ⟨r, h⟩ := isR_ex k
  exact pcall_true (gsnaps h hv.1 hv.2 hw.1 hw.2) [_, _, _] rfl rfl W
end Go.Proofs.Ytinjgiigmlikpaa
