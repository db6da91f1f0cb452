/-
  The reference package's On, by values. My own text.
-/
import Derived.Test.YtlhgmlebjnkonaaPlaneF
namespace Go.Proofs.Ytlhgmlebjnkonaa
open Go.RowKit
set_option linter.unusedVariables false
set_option linter.unusedSimpArgs false
/-- is a number between two? -/
def btB (n a b : Int) : Bool := (decide (a ≤ n) && decide (n ≤ b)) || (decide (b ≤ n) && decide (n ≤ a))
set_option maxRecDepth 100000 in
set_option maxHeartbeats 4000000 in
theorem p_between {n a b : Int} {r : Bool} (hr : btB n a b = r) : PCall Try.prog 42 [vI n, vI a, vI b] (vB r) := by
  have cs : (a ≤ n ∧ n ≤ b ∧ r = true) ∨ (a ≤ n ∧ ¬ n ≤ b ∧ b ≤ n ∧ n ≤ a ∧ r = true) ∨ (a ≤ n ∧ ¬ n ≤ b ∧ b ≤ n ∧ ¬ n ≤ a ∧ r = false) ∨ (a ≤ n ∧ ¬ n ≤ b ∧ ¬ b ≤ n ∧ r = false) ∨ (¬ a ≤ n ∧ b ≤ n ∧ n ≤ a ∧ r = true) ∨ (¬ a ≤ n ∧ b ≤ n ∧ ¬ n ≤ a ∧ r = false) ∨ (¬ a ≤ n ∧ ¬ b ≤ n ∧ r = false) := by
    rw [← hr]; unfold btB
    by_cases q1 : a ≤ n <;> by_cases q2 : n ≤ b <;> by_cases q3 : b ≤ n <;> by_cases q4 : n ≤ a <;> simp [q1, q2, q3, q4]
  clear hr
  rcases cs with ⟨q1, q2, rfl⟩ | ⟨q1, q2, q3, q4, rfl⟩ | ⟨q1, q2, q3, q4, rfl⟩ | ⟨q1, q2, q3, rfl⟩ | ⟨q1, q2, q3, rfl⟩ | ⟨q1, q2, q3, rfl⟩ | ⟨q1, q2, rfl⟩
  all_goals first
    | (exfalso; omega)
    | (refine pcall_body (f := 42) Try.func42 rfl rfl rfl rfl ?_
       (repeat (first | (refine awp_seq ?_) | (refine awp_region ?_) | (refine awp_region_draw (by kernel_rfl) (by kernel_rfl) rfl ?_) | (refine awp_cond_t rfl ?_) | (refine awp_cond_f rfl ?_) | (refine awp_block ?_) | (refine awp_exit ?_) | (refine awp_ret ?_) | (refine awp_skip ?_) | (refine awp_label ?_) | (refine athen_normal ?_) | (refine athen_exit ?_) | (refine athen_ret ?_) | (refine ablock_normal ?_) | (refine ablock_ret ?_) | (refine ablock_same ?_) | (refine ablock_ne rfl ?_) | (refine al_nilS (by kernel_rfl) ?_) | (refine al_nil ?_) | (refine al_fld rfl rfl rfl ?_) | (refine al_idx rfl rfl rfl (by decide) (by decide) rfl ?_) | (refine al_load1 rfl rfl rfl rfl rfl ?_) | (refine al_loadN rfl rfl rfl rfl rfl ?_) | (refine al_store rfl rfl rfl rfl rfl rfl ?_) | (refine al_alloc rfl rfl rfl rfl ?_) | (refine al_box rfl rfl rfl rfl ?_) | (refine al_move rfl rfl rfl ?_) | (refine al_assign rfl rfl rfl ?_) | (refine al_extract rfl rfl rfl rfl ?_) | (refine al_build rfl rfl rfl rfl rfl ?_) | (refine al_lss rfl rfl rfl rfl ?_) | (refine al_leq rfl rfl rfl rfl ?_) | (refine al_gtr rfl rfl rfl rfl ?_) | (refine al_geq rfl rfl rfl rfl ?_) | (refine al_eql rfl rfl rfl rfl ?_) | (refine al_neq rfl rfl rfl rfl ?_) | (refine al_add rfl rfl rfl (by first | exact i64_wrap (by omega) | assumption | rfl) rfl ?_) | (refine al_sub rfl rfl rfl (by first | exact i64_wrap (by omega) | assumption | rfl) rfl ?_) | (refine al_mul rfl rfl rfl (by first | exact i64_wrap (by omega) | assumption | rfl) rfl ?_) | (refine al_not rfl rfl rfl ?_) | (refine al_convI rfl rfl (by first | exact i64_wrap (by omega) | assumption | rfl) rfl ?_) | (refine al_pick_t rfl rfl rfl rfl rfl ?_) | (refine al_pick_f rfl rfl rfl rfl rfl ?_) | (refine al_min rfl rfl rfl rfl ?_) | (refine al_max rfl rfl rfl rfl ?_) | (refine al_pass rfl (by rintro d ⟨⟩; rfl) ?_) | (refine roll_succ ?_) | (refine al_len rfl rfl rfl ?_) | (refine al_idxS rfl rfl rfl ?h0 ?h1 (by first | assumption | rfl) rfl ?_; (case h0 => first | decide | omega); (case h1 => first | decide | omega)) | (refine al_fldP rfl rfl rfl ?_) | (refine al_loadP1 rfl rfl rfl rfl rfl ?_) | (refine al_loadPN rfl rfl rfl rfl rfl ?_) | (refine al_eqP rfl rfl rfl rfl ?_) | (refine al_neqP rfl rfl rfl rfl ?_) | (refine al_eqB rfl rfl rfl rfl ?_) | (refine al_neg rfl rfl (by first | exact i64_wrap (by omega) | assumption | rfl) rfl ?_) | (refine al_rem rfl rfl rfl ?h0 ?h1 rfl ?_; (case h0 => first | assumption | omega); (case h1 => first | assumption | omega)) | (refine al_bslice rfl rfl rfl rfl rfl rfl rfl rfl rfl rfl ?_) | (refine al_call1 rfl rfl rfl (by fail) rfl ?_) | (refine al_call2 rfl rfl rfl rfl (by fail) rfl ?_) | (refine al_call0 rfl rfl (by fail) rfl ?_) | (refine al_call3 rfl rfl rfl rfl rfl (by fail) rfl ?_) | (refine al_call4 rfl rfl rfl rfl rfl rfl (by fail) rfl ?_) | (refine al_mkfn rfl (fun W => rfl) rfl ?_) | (refine awp_cond_1 rfl (by first | assumption | exact decide_eq_true (by omega) | (simp only [Bool.not_eq_true', decide_eq_false_iff_not, decide_eq_true_eq, Bool.not_eq_false']; omega)) ?_) | (refine awp_cond_0 rfl (by first | assumption | exact decide_eq_false (by omega) | (simp only [Bool.not_eq_true', decide_eq_false_iff_not, decide_eq_true_eq, Bool.not_eq_false']; omega)) ?_) | (refine al_guard_b (c := true) rfl rfl (by first | assumption | exact decide_eq_true (by omega) | (simp only [Bool.not_eq_true', decide_eq_false_iff_not, decide_eq_true_eq, Bool.not_eq_false']; omega)) ?_) | (refine al_guard_b (c := false) rfl rfl (by first | assumption | exact decide_eq_false (by omega) | (simp only [Bool.not_eq_true', decide_eq_false_iff_not, decide_eq_true_eq, Bool.not_eq_false']; omega)) ?_) | (refine al_bin rfl rfl rfl rfl rfl (by intro W; go_simp; try rfl) (by intro W; go_simp; try rfl) rfl rfl ?_) | (refine al_un rfl rfl (by intro W; go_simp; try rfl) rfl rfl ?_) | (refine al_conv rfl rfl (by intro W; go_simp; try rfl) rfl rfl ?_)))
       (first | (refine apost_ret rfl (resl_tmp rfl resl_nil) ?_))
       first | exact AV.Le.refl _ | exact AV.Le.of_eq (by rw [decide_eq_true q4]; rfl) | exact AV.Le.of_eq (by rw [decide_eq_false q4]; rfl) | exact AV.Le.of_eq (by rw [decide_eq_true q3]; rfl) | exact AV.Le.of_eq (by rw [decide_eq_false q3]; rfl))
theorem crV_on {a1 a2 b1 b2 p1 p2 : Int} : crV a1 a2 p1 p2 b1 b2 = 0 ↔ crV a1 a2 b1 b2 p1 p2 = 0 := by rw [crV_swap2]; omega
theorem bt_box {n a b : Int} : btB n a b = (decide (imin a b ≤ n) && decide (n ≤ imax a b)) := by
  unfold btB imin imax
  rw [Bool.eq_iff_iff]
  simp only [Bool.or_eq_true, Bool.and_eq_true, decide_eq_true_eq]
  split <;> split <;> omega
set_option maxRecDepth 100000 in
set_option maxHeartbeats 4000000 in
theorem p_r4On {p1 p2 a1 a2 b1 b2 : Int} : PCall Try.prog 18 [vP p1 p2, vP a1 a2, vP b1 b2] (vB (onB p1 p2 a1 a2 b1 b2)) := by
  have R1 := p_r4Right (x := p1) (y := p2) rfl
  have R2 := p_r4Right (x := a1) (y := a2) rfl
  have R3 := p_r4Right (x := b1) (y := b2) rfl
  have C1 := p_r4Cross (o1 := a1) (o2 := a2) (a1 := p1) (a2 := p2) (b1 := b1) (b2 := b2)
  have B1 := p_between (n := p1) (a := a1) (b := b1) rfl
  have B2 := p_between (n := p2) (a := a2) (b := b2) rfl
  have cs : (rB p1 p2 = false ∧ onB p1 p2 a1 a2 b1 b2 = false) ∨ (rB p1 p2 = true ∧ rB a1 a2 = false ∧ onB p1 p2 a1 a2 b1 b2 = false) ∨ (rB p1 p2 = true ∧ rB a1 a2 = true ∧ rB b1 b2 = false ∧ onB p1 p2 a1 a2 b1 b2 = false)
      ∨ (rB p1 p2 = true ∧ rB a1 a2 = true ∧ rB b1 b2 = true ∧ ¬ crV a1 a2 p1 p2 b1 b2 = 0 ∧ onB p1 p2 a1 a2 b1 b2 = false)
      ∨ (rB p1 p2 = true ∧ rB a1 a2 = true ∧ rB b1 b2 = true ∧ crV a1 a2 p1 p2 b1 b2 = 0 ∧ btB p1 a1 b1 = false ∧ onB p1 p2 a1 a2 b1 b2 = false)
      ∨ (rB p1 p2 = true ∧ rB a1 a2 = true ∧ rB b1 b2 = true ∧ crV a1 a2 p1 p2 b1 b2 = 0 ∧ btB p1 a1 b1 = true ∧ onB p1 p2 a1 a2 b1 b2 = btB p2 a2 b2) := by
    rw [crV_on]
    have e : crV a1 a2 b1 b2 p1 p2 = if (rB a1 a2 && rB b1 b2 && rB p1 p2) = true then cr a1 a2 b1 b2 p1 p2 else 0 := rfl
    have e2 : hB (imin a1 b1) (imin a2 b2) (imax a1 b1) (imax a2 b2) p1 p2 = (btB p1 a1 b1 && btB p2 a2 b2) := by
      rw [bt_box, bt_box]; unfold hB; simp only [Bool.and_assoc]
    rw [e]
    unfold onB
    rw [e2]
    generalize cr a1 a2 b1 b2 p1 p2 = c at *
    generalize rB p1 p2 = x1 at *
    generalize rB a1 a2 = x2 at *
    generalize rB b1 b2 = x3 at *
    generalize btB p1 a1 b1 = x4 at *
    generalize btB p2 a2 b2 = x5 at *
    cases x1 <;> cases x2 <;> cases x3 <;> cases x4 <;> cases x5 <;> by_cases hc : c = 0 <;> simp [hc]
  generalize crV a1 a2 p1 p2 b1 b2 = c at *
  rcases cs with ⟨h1, h⟩ | ⟨h1, h2, h⟩ | ⟨h1, h2, h3, h⟩ | ⟨h1, h2, h3, h4, h⟩ | ⟨h1, h2, h3, h4, h5, h⟩ | ⟨h1, h2, h3, h4, h5, h⟩ <;> rw [h] <;> clear h <;> simp only [h1] at R1 <;> (try simp only [h2] at R2) <;> (try simp only [h3] at R3) <;> (try simp only [h5] at B1)
  all_goals
    refine pcall_body (f := 18) Try.func18 rfl rfl rfl rfl ?_
    (repeat (first | (refine awp_seq ?_) | (refine awp_region ?_) | (refine awp_region_draw (by kernel_rfl) (by kernel_rfl) rfl ?_) | (refine awp_cond_t rfl ?_) | (refine awp_cond_f rfl ?_) | (refine awp_block ?_) | (refine awp_exit ?_) | (refine awp_ret ?_) | (refine awp_skip ?_) | (refine awp_label ?_) | (refine athen_normal ?_) | (refine athen_exit ?_) | (refine athen_ret ?_) | (refine ablock_normal ?_) | (refine ablock_ret ?_) | (refine ablock_same ?_) | (refine ablock_ne rfl ?_) | (refine al_nilS (by kernel_rfl) ?_) | (refine al_nil ?_) | (refine al_fld rfl rfl rfl ?_) | (refine al_idx rfl rfl rfl (by decide) (by decide) rfl ?_) | (refine al_load1 rfl rfl rfl rfl rfl ?_) | (refine al_loadN rfl rfl rfl rfl rfl ?_) | (refine al_store rfl rfl rfl rfl rfl rfl ?_) | (refine al_alloc rfl rfl rfl rfl ?_) | (refine al_box rfl rfl rfl rfl ?_) | (refine al_move rfl rfl rfl ?_) | (refine al_assign rfl rfl rfl ?_) | (refine al_extract rfl rfl rfl rfl ?_) | (refine al_build rfl rfl rfl rfl rfl ?_) | (refine al_lss rfl rfl rfl rfl ?_) | (refine al_leq rfl rfl rfl rfl ?_) | (refine al_gtr rfl rfl rfl rfl ?_) | (refine al_geq rfl rfl rfl rfl ?_) | (refine al_eql rfl rfl rfl rfl ?_) | (refine al_neq rfl rfl rfl rfl ?_) | (refine al_add rfl rfl rfl (by first | exact i64_wrap (by omega) | assumption | rfl) rfl ?_) | (refine al_sub rfl rfl rfl (by first | exact i64_wrap (by omega) | assumption | rfl) rfl ?_) | (refine al_mul rfl rfl rfl (by first | exact i64_wrap (by omega) | assumption | rfl) rfl ?_) | (refine al_not rfl rfl rfl ?_) | (refine al_convI rfl rfl (by first | exact i64_wrap (by omega) | assumption | rfl) rfl ?_) | (refine al_pick_t rfl rfl rfl rfl rfl ?_) | (refine al_pick_f rfl rfl rfl rfl rfl ?_) | (refine al_min rfl rfl rfl rfl ?_) | (refine al_max rfl rfl rfl rfl ?_) | (refine al_pass rfl (by rintro d ⟨⟩; rfl) ?_) | (refine roll_succ ?_) | (refine al_len rfl rfl rfl ?_) | (refine al_idxS rfl rfl rfl ?h0 ?h1 (by first | assumption | rfl) rfl ?_; (case h0 => first | decide | omega); (case h1 => first | decide | omega)) | (refine al_fldP rfl rfl rfl ?_) | (refine al_loadP1 rfl rfl rfl rfl rfl ?_) | (refine al_loadPN rfl rfl rfl rfl rfl ?_) | (refine al_eqP rfl rfl rfl rfl ?_) | (refine al_neqP rfl rfl rfl rfl ?_) | (refine al_eqB rfl rfl rfl rfl ?_) | (refine al_neg rfl rfl (by first | exact i64_wrap (by omega) | assumption | rfl) rfl ?_) | (refine al_rem rfl rfl rfl ?h0 ?h1 rfl ?_; (case h0 => first | assumption | omega); (case h1 => first | assumption | omega)) | (refine al_bslice rfl rfl rfl rfl rfl rfl rfl rfl rfl rfl ?_) | (refine al_call1 rfl rfl rfl (by first | (exact R1) | (exact R2) | (exact R3) | (exact C1) | (exact B1) | (exact B2)) rfl ?_) | (refine al_call2 rfl rfl rfl rfl (by first | (exact R1) | (exact R2) | (exact R3) | (exact C1) | (exact B1) | (exact B2)) rfl ?_) | (refine al_call0 rfl rfl (by first | (exact R1) | (exact R2) | (exact R3) | (exact C1) | (exact B1) | (exact B2)) rfl ?_) | (refine al_call3 rfl rfl rfl rfl rfl (by first | (exact R1) | (exact R2) | (exact R3) | (exact C1) | (exact B1) | (exact B2)) rfl ?_) | (refine al_call4 rfl rfl rfl rfl rfl rfl (by first | (exact R1) | (exact R2) | (exact R3) | (exact C1) | (exact B1) | (exact B2)) rfl ?_) | (refine al_mkfn rfl (fun W => rfl) rfl ?_) | (refine awp_cond_1 rfl (by first | assumption | exact decide_eq_true (by omega) | (simp only [Bool.not_eq_true', decide_eq_false_iff_not, decide_eq_true_eq, Bool.not_eq_false']; omega)) ?_) | (refine awp_cond_0 rfl (by first | assumption | exact decide_eq_false (by omega) | (simp only [Bool.not_eq_true', decide_eq_false_iff_not, decide_eq_true_eq, Bool.not_eq_false']; omega)) ?_) | (refine al_guard_b (c := true) rfl rfl (by first | assumption | exact decide_eq_true (by omega) | (simp only [Bool.not_eq_true', decide_eq_false_iff_not, decide_eq_true_eq, Bool.not_eq_false']; omega)) ?_) | (refine al_guard_b (c := false) rfl rfl (by first | assumption | exact decide_eq_false (by omega) | (simp only [Bool.not_eq_true', decide_eq_false_iff_not, decide_eq_true_eq, Bool.not_eq_false']; omega)) ?_) | (refine al_bin rfl rfl rfl rfl rfl (by intro W; go_simp; try rfl) (by intro W; go_simp; try rfl) rfl rfl ?_) | (refine al_un rfl rfl (by intro W; go_simp; try rfl) rfl rfl ?_) | (refine al_conv rfl rfl (by intro W; go_simp; try rfl) rfl rfl ?_)))
    (first | (refine apost_ret rfl (resl_tmp rfl resl_nil) ?_))
    exact AV.Le.refl _
end Go.Proofs.Ytlhgmlebjnkonaa
