/-
  cobweblaw04.PlaneParts returns true, for all their arguments. My own text.
-/
import Derived.Test.YtljkapolljgbiaaPlaneE
namespace Go.Proofs.Ytljkapolljgbiaa
open Go.RowKit
set_option linter.unusedVariables false
set_option linter.unusedSimpArgs false
theorem cr_parts (p1 p2 a1 a2 b1 b2 c1 c2 : Int) : cr p1 p2 a1 a2 b1 b2 + cr p1 p2 b1 b2 c1 c2 + cr p1 p2 c1 c2 a1 a2 = cr a1 a2 b1 b2 c1 c2 := by unfold cr; grind
theorem cr_turn (a1 a2 b1 b2 c1 c2 : Int) : cr b1 b2 c1 c2 a1 a2 = cr a1 a2 b1 b2 c1 c2 := by unfold cr; grind
theorem cr_swap (a1 a2 b1 b2 c1 c2 : Int) : cr b1 b2 a1 a2 c1 c2 = -cr a1 a2 b1 b2 c1 c2 := by unfold cr; grind
theorem cr_swap2 (a1 a2 b1 b2 c1 c2 : Int) : cr a1 a2 c1 c2 b1 b2 = -cr a1 a2 b1 b2 c1 c2 := by unfold cr; grind
theorem cr_move (a1 a2 b1 b2 c1 c2 x y : Int) : cr (a1 + x) (a2 + y) (b1 + x) (b2 + y) (c1 + x) (c2 + y) = cr a1 a2 b1 b2 c1 c2 := by unfold cr; grind
theorem crV_right {a1 a2 b1 b2 c1 c2 : Int} (h1 : rB a1 a2 = true) (h2 : rB b1 b2 = true) (h3 : rB c1 c2 = true) : crV a1 a2 b1 b2 c1 c2 = cr a1 a2 b1 b2 c1 c2 := by unfold crV; simp [h1, h2, h3]
theorem crV_turn (a1 a2 b1 b2 c1 c2 : Int) : crV b1 b2 c1 c2 a1 a2 = crV a1 a2 b1 b2 c1 c2 := by
  unfold crV
  rw [cr_turn a1 a2]
  cases rB a1 a2 <;> cases rB b1 b2 <;> cases rB c1 c2 <;> rfl
theorem crV_swap (a1 a2 b1 b2 c1 c2 : Int) : crV b1 b2 a1 a2 c1 c2 = -crV a1 a2 b1 b2 c1 c2 := by
  unfold crV
  rw [cr_swap a1 a2]
  cases rB a1 a2 <;> cases rB b1 b2 <;> cases rB c1 c2 <;> simp
theorem crV_swap2 (a1 a2 b1 b2 c1 c2 : Int) : crV a1 a2 c1 c2 b1 b2 = -crV a1 a2 b1 b2 c1 c2 := by
  unfold crV
  rw [cr_swap2 a1 a2]
  cases rB a1 a2 <;> cases rB b1 b2 <;> cases rB c1 c2 <;> simp
abbrev vP3 (a1 a2 b1 b2 c1 c2 : Int) : AV := .w (.agg [.c (.int .i64 a1), .c (.int .i64 a2), .c (.int .i64 b1), .c (.int .i64 b2), .c (.int .i64 c1), .c (.int .i64 c2)])
set_option maxRecDepth 100000 in
set_option maxHeartbeats 4000000 in
theorem pparts_in {a1 a2 b1 b2 c1 c2 p1 p2 : Int} (h1 : rB a1 a2 = true) (h2 : rB b1 b2 = true) (h3 : rB c1 c2 = true) (h4 : rB p1 p2 = true) : PCall Try.prog 14 [vP3 a1 a2 b1 b2 c1 c2, vP p1 p2] (vB true) := by
  have A1 := p_alive4
  have R1 := p_r4Right h1
  have R2 := p_r4Right h2
  have R3 := p_r4Right h3
  have R4 := p_r4Right h4
  have C1 := p_Cross_yes h4 h1 h2
  have C2 := p_Cross_yes h4 h2 h3
  have C3 := p_Cross_yes h4 h3 h1
  have C4 := p_Cross_yes h1 h2 h3
  have e := cr_parts p1 p2 a1 a2 b1 b2 c1 c2
  have d1 := crV_bd p1 p2 a1 a2 b1 b2
  have d2 := crV_bd p1 p2 b1 b2 c1 c2
  have d3 := crV_bd p1 p2 c1 c2 a1 a2
  rw [crV_right h4 h1 h2] at d1
  rw [crV_right h4 h2 h3] at d2
  rw [crV_right h4 h3 h1] at d3
  clear h1 h2 h3 h4
  generalize cr p1 p2 a1 a2 b1 b2 = x at *
  generalize cr p1 p2 b1 b2 c1 c2 = y at *
  generalize cr p1 p2 c1 c2 a1 a2 = z at *
  generalize cr a1 a2 b1 b2 c1 c2 = t at *
  refine pcall_body (f := 14) Try.func14 rfl rfl rfl rfl ?_
  (repeat (first | (refine awp_seq ?_) | (refine awp_region ?_) | (refine awp_region_draw (by kernel_rfl) (by kernel_rfl) rfl ?_) | (refine awp_cond_t rfl ?_) | (refine awp_cond_f rfl ?_) | (refine awp_block ?_) | (refine awp_exit ?_) | (refine awp_ret ?_) | (refine awp_skip ?_) | (refine awp_label ?_) | (refine athen_normal ?_) | (refine athen_exit ?_) | (refine athen_ret ?_) | (refine ablock_normal ?_) | (refine ablock_ret ?_) | (refine ablock_same ?_) | (refine ablock_ne rfl ?_) | (refine al_nilS (by kernel_rfl) ?_) | (refine al_nil ?_) | (refine al_fld rfl rfl rfl ?_) | (refine al_idx rfl rfl rfl (by decide) (by decide) rfl ?_) | (refine al_load1 rfl rfl rfl rfl rfl ?_) | (refine al_loadN rfl rfl rfl rfl rfl ?_) | (refine al_store rfl rfl rfl rfl rfl rfl ?_) | (refine al_alloc rfl rfl rfl rfl ?_) | (refine al_box rfl rfl rfl rfl ?_) | (refine al_move rfl rfl rfl ?_) | (refine al_assign rfl rfl rfl ?_) | (refine al_extract rfl rfl rfl rfl ?_) | (refine al_build rfl rfl rfl rfl rfl ?_) | (refine al_lss rfl rfl rfl rfl ?_) | (refine al_leq rfl rfl rfl rfl ?_) | (refine al_gtr rfl rfl rfl rfl ?_) | (refine al_geq rfl rfl rfl rfl ?_) | (refine al_eql rfl rfl rfl rfl ?_) | (refine al_neq rfl rfl rfl rfl ?_) | (refine al_add rfl rfl rfl (by first | exact i64_wrap (by omega) | assumption | rfl) rfl ?_) | (refine al_sub rfl rfl rfl (by first | exact i64_wrap (by omega) | assumption | rfl) rfl ?_) | (refine al_mul rfl rfl rfl (by first | exact i64_wrap (by omega) | assumption | rfl) rfl ?_) | (refine al_not rfl rfl rfl ?_) | (refine al_convI rfl rfl (by first | exact i64_wrap (by omega) | assumption | rfl) rfl ?_) | (refine al_pick_t rfl rfl rfl rfl rfl ?_) | (refine al_pick_f rfl rfl rfl rfl rfl ?_) | (refine al_min rfl rfl rfl rfl ?_) | (refine al_max rfl rfl rfl rfl ?_) | (refine al_pass rfl (by rintro d ⟨⟩; rfl) ?_) | (refine roll_succ ?_) | (refine al_len rfl rfl rfl ?_) | (refine al_idxS rfl rfl rfl ?h0 ?h1 (by first | assumption | rfl) rfl ?_; (case h0 => first | decide | omega); (case h1 => first | decide | omega)) | (refine al_fldP rfl rfl rfl ?_) | (refine al_loadP1 rfl rfl rfl rfl rfl ?_) | (refine al_loadPN rfl rfl rfl rfl rfl ?_) | (refine al_eqP rfl rfl rfl rfl ?_) | (refine al_neqP rfl rfl rfl rfl ?_) | (refine al_eqB rfl rfl rfl rfl ?_) | (refine al_neg rfl rfl (by first | exact i64_wrap (by omega) | assumption | rfl) rfl ?_) | (refine al_rem rfl rfl rfl ?h0 ?h1 rfl ?_; (case h0 => first | assumption | omega); (case h1 => first | assumption | omega)) | (refine al_bslice rfl rfl rfl rfl rfl rfl rfl rfl rfl rfl ?_) | (refine al_call1 rfl rfl rfl (by first | (exact A1) | (exact R1) | (exact R2) | (exact R3) | (exact R4) | (exact C1) | (exact C2) | (exact C3) | (exact C4)) rfl ?_) | (refine al_call2 rfl rfl rfl rfl (by first | (exact A1) | (exact R1) | (exact R2) | (exact R3) | (exact R4) | (exact C1) | (exact C2) | (exact C3) | (exact C4)) rfl ?_) | (refine al_call0 rfl rfl (by first | (exact A1) | (exact R1) | (exact R2) | (exact R3) | (exact R4) | (exact C1) | (exact C2) | (exact C3) | (exact C4)) rfl ?_) | (refine al_call3 rfl rfl rfl rfl rfl (by first | (exact A1) | (exact R1) | (exact R2) | (exact R3) | (exact R4) | (exact C1) | (exact C2) | (exact C3) | (exact C4)) rfl ?_) | (refine al_call4 rfl rfl rfl rfl rfl rfl (by first | (exact A1) | (exact R1) | (exact R2) | (exact R3) | (exact R4) | (exact C1) | (exact C2) | (exact C3) | (exact C4)) rfl ?_) | (refine al_mkfn rfl (fun W => rfl) rfl ?_) | (refine awp_cond_1 rfl (by first | assumption | exact decide_eq_true (by omega) | (simp only [Bool.not_eq_true', decide_eq_false_iff_not, decide_eq_true_eq, Bool.not_eq_false'] <;> omega)) ?_) | (refine awp_cond_0 rfl (by first | assumption | exact decide_eq_false (by omega) | (simp only [Bool.not_eq_true', decide_eq_false_iff_not, decide_eq_true_eq, Bool.not_eq_false'] <;> omega)) ?_) | (refine al_guard_b (c := true) rfl rfl (by first | assumption | exact decide_eq_true (by omega) | (simp only [Bool.not_eq_true', decide_eq_false_iff_not, decide_eq_true_eq, Bool.not_eq_false'] <;> omega)) ?_) | (refine al_guard_b (c := false) rfl rfl (by first | assumption | exact decide_eq_false (by omega) | (simp only [Bool.not_eq_true', decide_eq_false_iff_not, decide_eq_true_eq, Bool.not_eq_false'] <;> omega)) ?_) | (refine al_bin rfl rfl rfl rfl rfl (by intro W; go_simp; try rfl) (by intro W; go_simp; try rfl) rfl rfl ?_) | (refine al_un rfl rfl (by intro W; go_simp; try rfl) rfl rfl ?_) | (refine al_conv rfl rfl (by intro W; go_simp; try rfl) rfl rfl ?_)))
  (first | (refine apost_ret rfl (resl_tmp rfl resl_nil) ?_))
  exact AV.Le.of_eq (by rw [decide_eq_true e.symm]; rfl)
set_option maxRecDepth 100000 in
set_option maxHeartbeats 4000000 in
theorem pparts_out {a1 a2 b1 b2 c1 c2 p1 p2 : Int} (h : rB a1 a2 = false ∨ (rB a1 a2 = true ∧ rB b1 b2 = false) ∨ (rB a1 a2 = true ∧ rB b1 b2 = true ∧ rB c1 c2 = false) ∨ (rB a1 a2 = true ∧ rB b1 b2 = true ∧ rB c1 c2 = true ∧ rB p1 p2 = false)) : PCall Try.prog 14 [vP3 a1 a2 b1 b2 c1 c2, vP p1 p2] (vB true) := by
  have A1 := p_alive4
  have R1 := p_r4Right (x := a1) (y := a2) rfl
  have R2 := p_r4Right (x := b1) (y := b2) rfl
  have R3 := p_r4Right (x := c1) (y := c2) rfl
  have R4 := p_r4Right (x := p1) (y := p2) rfl
  rcases h with h1 | ⟨h1, h2⟩ | ⟨h1, h2, h3⟩ | ⟨h1, h2, h3, h4⟩ <;> simp only [*] at R1 R2 R3 R4
  all_goals
    refine pcall_body (f := 14) Try.func14 rfl rfl rfl rfl ?_
    (repeat (first | (refine awp_seq ?_) | (refine awp_region ?_) | (refine awp_region_draw (by kernel_rfl) (by kernel_rfl) rfl ?_) | (refine awp_cond_t rfl ?_) | (refine awp_cond_f rfl ?_) | (refine awp_block ?_) | (refine awp_exit ?_) | (refine awp_ret ?_) | (refine awp_skip ?_) | (refine awp_label ?_) | (refine athen_normal ?_) | (refine athen_exit ?_) | (refine athen_ret ?_) | (refine ablock_normal ?_) | (refine ablock_ret ?_) | (refine ablock_same ?_) | (refine ablock_ne rfl ?_) | (refine al_nilS (by kernel_rfl) ?_) | (refine al_nil ?_) | (refine al_fld rfl rfl rfl ?_) | (refine al_idx rfl rfl rfl (by decide) (by decide) rfl ?_) | (refine al_load1 rfl rfl rfl rfl rfl ?_) | (refine al_loadN rfl rfl rfl rfl rfl ?_) | (refine al_store rfl rfl rfl rfl rfl rfl ?_) | (refine al_alloc rfl rfl rfl rfl ?_) | (refine al_box rfl rfl rfl rfl ?_) | (refine al_move rfl rfl rfl ?_) | (refine al_assign rfl rfl rfl ?_) | (refine al_extract rfl rfl rfl rfl ?_) | (refine al_build rfl rfl rfl rfl rfl ?_) | (refine al_lss rfl rfl rfl rfl ?_) | (refine al_leq rfl rfl rfl rfl ?_) | (refine al_gtr rfl rfl rfl rfl ?_) | (refine al_geq rfl rfl rfl rfl ?_) | (refine al_eql rfl rfl rfl rfl ?_) | (refine al_neq rfl rfl rfl rfl ?_) | (refine al_add rfl rfl rfl (by first | exact i64_wrap (by omega) | assumption | rfl) rfl ?_) | (refine al_sub rfl rfl rfl (by first | exact i64_wrap (by omega) | assumption | rfl) rfl ?_) | (refine al_mul rfl rfl rfl (by first | exact i64_wrap (by omega) | assumption | rfl) rfl ?_) | (refine al_not rfl rfl rfl ?_) | (refine al_convI rfl rfl (by first | exact i64_wrap (by omega) | assumption | rfl) rfl ?_) | (refine al_pick_t rfl rfl rfl rfl rfl ?_) | (refine al_pick_f rfl rfl rfl rfl rfl ?_) | (refine al_min rfl rfl rfl rfl ?_) | (refine al_max rfl rfl rfl rfl ?_) | (refine al_pass rfl (by rintro d ⟨⟩; rfl) ?_) | (refine roll_succ ?_) | (refine al_len rfl rfl rfl ?_) | (refine al_idxS rfl rfl rfl ?h0 ?h1 (by first | assumption | rfl) rfl ?_; (case h0 => first | decide | omega); (case h1 => first | decide | omega)) | (refine al_fldP rfl rfl rfl ?_) | (refine al_loadP1 rfl rfl rfl rfl rfl ?_) | (refine al_loadPN rfl rfl rfl rfl rfl ?_) | (refine al_eqP rfl rfl rfl rfl ?_) | (refine al_neqP rfl rfl rfl rfl ?_) | (refine al_eqB rfl rfl rfl rfl ?_) | (refine al_neg rfl rfl (by first | exact i64_wrap (by omega) | assumption | rfl) rfl ?_) | (refine al_rem rfl rfl rfl ?h0 ?h1 rfl ?_; (case h0 => first | assumption | omega); (case h1 => first | assumption | omega)) | (refine al_bslice rfl rfl rfl rfl rfl rfl rfl rfl rfl rfl ?_) | (refine al_call1 rfl rfl rfl (by first | (exact A1) | (exact R1) | (exact R2) | (exact R3) | (exact R4)) rfl ?_) | (refine al_call2 rfl rfl rfl rfl (by first | (exact A1) | (exact R1) | (exact R2) | (exact R3) | (exact R4)) rfl ?_) | (refine al_call0 rfl rfl (by first | (exact A1) | (exact R1) | (exact R2) | (exact R3) | (exact R4)) rfl ?_) | (refine al_call3 rfl rfl rfl rfl rfl (by first | (exact A1) | (exact R1) | (exact R2) | (exact R3) | (exact R4)) rfl ?_) | (refine al_call4 rfl rfl rfl rfl rfl rfl (by first | (exact A1) | (exact R1) | (exact R2) | (exact R3) | (exact R4)) rfl ?_) | (refine al_mkfn rfl (fun W => rfl) rfl ?_) | (refine awp_cond_1 rfl (by first | assumption | exact decide_eq_true (by omega) | (simp only [Bool.not_eq_true', decide_eq_false_iff_not, decide_eq_true_eq, Bool.not_eq_false'] <;> omega)) ?_) | (refine awp_cond_0 rfl (by first | assumption | exact decide_eq_false (by omega) | (simp only [Bool.not_eq_true', decide_eq_false_iff_not, decide_eq_true_eq, Bool.not_eq_false'] <;> omega)) ?_) | (refine al_guard_b (c := true) rfl rfl (by first | assumption | exact decide_eq_true (by omega) | (simp only [Bool.not_eq_true', decide_eq_false_iff_not, decide_eq_true_eq, Bool.not_eq_false'] <;> omega)) ?_) | (refine al_guard_b (c := false) rfl rfl (by first | assumption | exact decide_eq_false (by omega) | (simp only [Bool.not_eq_true', decide_eq_false_iff_not, decide_eq_true_eq, Bool.not_eq_false'] <;> omega)) ?_) | (refine al_bin rfl rfl rfl rfl rfl (by intro W; go_simp; try rfl) (by intro W; go_simp; try rfl) rfl rfl ?_) | (refine al_un rfl rfl (by intro W; go_simp; try rfl) rfl rfl ?_) | (refine al_conv rfl rfl (by intro W; go_simp; try rfl) rfl rfl ?_)))
    (first | (refine apost_ret rfl (resl_tmp rfl resl_nil) ?_))
    exact AV.Le.refl _
theorem pparts_walk (a1 a2 b1 b2 c1 c2 p1 p2 : Int) (W : World) (_ : -9223372036854775808 ≤ a1 ∧ a1 ≤ 9223372036854775807) (_ : -9223372036854775808 ≤ a2 ∧ a2 ≤ 9223372036854775807) (_ : -9223372036854775808 ≤ b1 ∧ b1 ≤ 9223372036854775807) (_ : -9223372036854775808 ≤ b2 ∧ b2 ≤ 9223372036854775807) (_ : -9223372036854775808 ≤ c1 ∧ c1 ≤ 9223372036854775807) (_ : -9223372036854775808 ≤ c2 ∧ c2 ≤ 9223372036854775807) (_ : -9223372036854775808 ≤ p1 ∧ p1 ≤ 9223372036854775807) (_ : -9223372036854775808 ≤ p2 ∧ p2 ≤ 9223372036854775807) :
    Calls Try.prog 14 #[.agg #[.int .i64 a1, .int .i64 a2, .int .i64 b1, .int .i64 b2, .int .i64 c1, .int .i64 c2], .agg #[.int .i64 p1, .int .i64 p2]] W fun e W' => e = .returned (.bool true) ∧ Below W.heap.size W W' := by
  refine pcall_true (args := [vP3 a1 a2 b1 b2 c1 c2, vP p1 p2]) ?_ [_, _] rfl rfl W
  cases h1 : rB a1 a2 with
  | false => exact pparts_out (.inl h1)
  | true =>
    cases h2 : rB b1 b2 with
    | false => exact pparts_out (.inr (.inl ⟨h1, h2⟩))
    | true =>
      cases h3 : rB c1 c2 with
      | false => exact pparts_out (.inr (.inr (.inl ⟨h1, h2, h3⟩)))
      | true =>
        cases h4 : rB p1 p2 with
        | false => exact pparts_out (.inr (.inr (.inr ⟨h1, h2, h3, h4⟩)))
        | true => exact pparts_in h1 h2 h3 h4
end Go.Proofs.Ytljkapolljgbiaa
