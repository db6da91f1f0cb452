/-
  Package cross, by values: zeroBetween. My own text.
-/
import Derived.Test.YtlhgmlebjnkonaaCrossC
namespace Go.Proofs.Ytlhgmlebjnkonaa
open Go.RowKit
set_option linter.unusedVariables false
set_option linter.unusedSimpArgs false
theorem bd_83 {x A : Int} (h1 : -134217728 ≤ x) (h2 : x ≤ 134217728) (h3 : -144115188075855872 ≤ A) (h4 : A ≤ 144115188075855872) : -19342813113834066795298816 ≤ x * A ∧ x * A ≤ 19342813113834066795298816 := by
  have := mul_bd h1 h2 h3 h4
  omega
set_option maxRecDepth 100000 in
set_option maxHeartbeats 4000000 in
theorem p_zero {l h A B n d : Int} (hne : A ≠ B) (l0 : -134217728 ≤ l) (l1 : l ≤ 134217728) (h0 : -134217728 ≤ h) (h1 : h ≤ 134217728) (A0 : -144115188075855872 ≤ A) (A1 : A ≤ 144115188075855872) (B0 : -144115188075855872 ≤ B) (B1 : B ≤ 144115188075855872) (hn : nr1 (h * A - l * B) (A - B) = n) (hd : nr2 (A - B) = d) : PCall Try.prog 26 [vI l, vI h, vI A, vI B] (fv n d) := by
  have b1 := bd_83 h0 h1 A0 A1
  have b2 := bd_83 l0 l1 B0 B1
  have T1 := p_wTimes (n := h) (m := A) (by omega) (by omega) (by omega) (by omega)
  have T2 := p_wTimes (n := l) (m := B) (by omega) (by omega) (by omega) (by omega)
  have f1 : fits (h * A) = true := by unfold fits; rw [decide_eq_true_eq]; omega
  have f2 : fits (l * B) = true := by unfold fits; rw [decide_eq_true_eq]; omega
  have f3 : fits (h * A - l * B) = true := by unfold fits; rw [decide_eq_true_eq]; omega
  have f4 : fits (A - B) = true := by unfold fits; rw [decide_eq_true_eq]; omega
  have T3 := p_wSub f1 f2
  have T4 := p_wOf (n := A - B) (by omega) (by omega)
  simp only [wf, f3, if_true] at T3
  have T5 : PCall Try.prog 51 [wv (h * A - l * B), wv (A - B)] (.tup [fi n d, .one (.c (.bool true))]) := by
    by_cases q : A - B < 0
    · unfold nr1 at hn
      unfold nr2 at hd
      rw [if_pos q] at hn hd
      have g1 : fits (-(h * A - l * B)) = true := by unfold fits; rw [decide_eq_true_eq]; omega
      have g2 : fits (-(A - B)) = true := by unfold fits; rw [decide_eq_true_eq]; omega
      exact p_Make_neg f3 f4 q (s := true) (by rw [g1, g2]; rfl) (by rw [if_pos rfl, hn]) (by rw [if_pos rfl, hd])
    · unfold nr1 at hn
      unfold nr2 at hd
      rw [if_neg q] at hn hd
      have := p_Make_pos f3 f4 (by omega)
      rw [hn, hd] at this
      rw [hn, hd]
      exact this
  obtain ⟨D, hD⟩ : ∃ D, A - B = D := ⟨_, rfl⟩
  have w1 : IntKind.i64.wrap (A - B) = D := by rw [← hD]; exact i64_wrap (by omega)
  rw [hD] at T4 T5
  clear f1 f2 f3 f4 b1 b2 hn hd hD A0 A1 B0 B1 hne
  generalize h * A - l * B = X at *
  generalize h * A = Y at *
  generalize l * B = Z at *
  refine pcall_body (f := 26) Try.func26 rfl rfl rfl rfl ?_
  (repeat (first | (refine awp_seq ?_) | (refine awp_region ?_) | (refine awp_region_draw (by kernel_rfl) (by kernel_rfl) rfl ?_) | (refine awp_cond_t rfl ?_) | (refine awp_cond_f rfl ?_) | (refine awp_block ?_) | (refine awp_exit ?_) | (refine awp_ret ?_) | (refine awp_skip ?_) | (refine awp_label ?_) | (refine athen_normal ?_) | (refine athen_exit ?_) | (refine athen_ret ?_) | (refine ablock_normal ?_) | (refine ablock_ret ?_) | (refine ablock_same ?_) | (refine ablock_ne rfl ?_) | (refine al_nilS (by kernel_rfl) ?_) | (refine al_nil ?_) | (refine al_fld rfl rfl rfl ?_) | (refine al_idx rfl rfl rfl (by decide) (by decide) rfl ?_) | (refine al_load1 rfl rfl rfl rfl rfl ?_) | (refine al_loadN rfl rfl rfl rfl rfl ?_) | (refine al_store rfl rfl rfl rfl rfl rfl ?_) | (refine al_alloc rfl rfl rfl rfl ?_) | (refine al_box rfl rfl rfl rfl ?_) | (refine al_move rfl rfl rfl ?_) | (refine al_assign rfl rfl rfl ?_) | (refine al_extract rfl rfl rfl rfl ?_) | (refine al_build rfl rfl rfl rfl rfl ?_) | (refine al_lss rfl rfl rfl rfl ?_) | (refine al_leq rfl rfl rfl rfl ?_) | (refine al_gtr rfl rfl rfl rfl ?_) | (refine al_geq rfl rfl rfl rfl ?_) | (refine al_eql rfl rfl rfl rfl ?_) | (refine al_neq rfl rfl rfl rfl ?_) | (refine al_add rfl rfl rfl (by first | exact i64_wrap (by omega) | assumption | rfl) rfl ?_) | (refine al_sub rfl rfl rfl (by first | exact i64_wrap (by omega) | assumption | rfl) rfl ?_) | (refine al_mul rfl rfl rfl (by first | exact i64_wrap (by omega) | assumption | rfl) rfl ?_) | (refine al_not rfl rfl rfl ?_) | (refine al_convI rfl rfl (by first | exact i64_wrap (by omega) | assumption | rfl) rfl ?_) | (refine al_pick_t rfl rfl rfl rfl rfl ?_) | (refine al_pick_f rfl rfl rfl rfl rfl ?_) | (refine al_min rfl rfl rfl rfl ?_) | (refine al_max rfl rfl rfl rfl ?_) | (refine al_pass rfl (by rintro d ⟨⟩; rfl) ?_) | (refine roll_succ ?_) | (refine al_len rfl rfl rfl ?_) | (refine al_idxS rfl rfl rfl ?h0 ?h1 (by first | assumption | rfl) rfl ?_; (case h0 => first | decide | omega); (case h1 => first | decide | omega)) | (refine al_fldP rfl rfl rfl ?_) | (refine al_loadP1 rfl rfl rfl rfl rfl ?_) | (refine al_loadPN rfl rfl rfl rfl rfl ?_) | (refine al_eqP rfl rfl rfl rfl ?_) | (refine al_neqP rfl rfl rfl rfl ?_) | (refine al_eqB rfl rfl rfl rfl ?_) | (refine al_neg rfl rfl (by first | exact i64_wrap (by omega) | assumption | rfl) rfl ?_) | (refine al_rem rfl rfl rfl ?h0 ?h1 rfl ?_; (case h0 => first | assumption | omega); (case h1 => first | assumption | omega)) | (refine al_bslice rfl rfl rfl rfl rfl rfl rfl rfl rfl rfl ?_) | (refine al_call1 rfl rfl rfl (by first | (exact T1) | (exact T2) | (exact T3) | (exact T4) | (exact T5)) rfl ?_) | (refine al_call2 rfl rfl rfl rfl (by first | (exact T1) | (exact T2) | (exact T3) | (exact T4) | (exact T5)) rfl ?_) | (refine al_call0 rfl rfl (by first | (exact T1) | (exact T2) | (exact T3) | (exact T4) | (exact T5)) rfl ?_) | (refine al_call3 rfl rfl rfl rfl rfl (by first | (exact T1) | (exact T2) | (exact T3) | (exact T4) | (exact T5)) rfl ?_) | (refine al_call4 rfl rfl rfl rfl rfl rfl (by first | (exact T1) | (exact T2) | (exact T3) | (exact T4) | (exact T5)) rfl ?_) | (refine al_mkfn rfl (fun W => rfl) rfl ?_) | (refine awp_cond_1 rfl (by first | assumption | exact decide_eq_true (by omega) | (simp only [Bool.not_eq_true', decide_eq_false_iff_not, decide_eq_true_eq, Bool.not_eq_false']; omega)) ?_) | (refine awp_cond_0 rfl (by first | assumption | exact decide_eq_false (by omega) | (simp only [Bool.not_eq_true', decide_eq_false_iff_not, decide_eq_true_eq, Bool.not_eq_false']; omega)) ?_) | (refine al_guard_b (c := true) rfl rfl (by first | assumption | exact decide_eq_true (by omega) | (simp only [Bool.not_eq_true', decide_eq_false_iff_not, decide_eq_true_eq, Bool.not_eq_false']; omega)) ?_) | (refine al_guard_b (c := false) rfl rfl (by first | assumption | exact decide_eq_false (by omega) | (simp only [Bool.not_eq_true', decide_eq_false_iff_not, decide_eq_true_eq, Bool.not_eq_false']; omega)) ?_) | (refine al_bin rfl rfl rfl rfl rfl (by intro W; go_simp; try rfl) (by intro W; go_simp; try rfl) rfl rfl ?_) | (refine al_un rfl rfl (by intro W; go_simp; try rfl) rfl rfl ?_) | (refine al_conv rfl rfl (by intro W; go_simp; try rfl) rfl rfl ?_)))
  (first | (refine apost_ret rfl (resl_agg rfl rfl rfl resl_nil) ?_) | (refine apost_ret rfl (resl_one rfl rfl rfl resl_nil) ?_))
  exact AV.Le.refl _
end Go.Proofs.Ytlhgmlebjnkonaa
