/-
  Along, by values. My own text.
-/
import Derived.Test.YtcplkjnmfdinaaaOrdS
import Derived.Test.YtcplkjnmfdinaaaAbsF
import Derived.Test.YtcplkjnmfdinaaaAbsV
namespace Go.Proofs.Ytcplkjnmfdinaaa
open Go.RowKit
set_option linter.unusedVariables false
set_option linter.unusedSimpArgs false
/-- the block that holds the opposite: right, for a way that goes left; up, for one that goes down. -/
abbrev cB (b : Bool) : AC := .p (PtrP [.c (.bool (!b))])
abbrev vAlong (l d : Bool) : AV := .w (.one (.p (FunP (.func 28) [cB l, cB d])))
set_option maxRecDepth 100000 in
set_option maxHeartbeats 4000000 in
theorem p_Along {a1 a2 b1 b2 : Int} : PCall Try.prog 18 [vP a1 a2, vP b1 b2] (vAlong (decide (b1 < a1)) (decide (b2 < a2))) := by
  have e1 : decide (b1 ≥ a1) = !decide (b1 < a1) := by by_cases h : b1 < a1 <;> simp [h] <;> omega
  have e2 : decide (b2 ≥ a2) = !decide (b2 < a2) := by by_cases h : b2 < a2 <;> simp [h] <;> omega
  refine pcall_bodyT (f := 18) Try.func18 rfl rfl rfl rfl ?_
  refine awt_seq (awt_awp ?_)
  (repeat (first | ((with_reducible apply al_q); exact rfl) | ((with_reducible apply al_mkfn); exact rfl; exact (fun W => rfl); exact rfl) | ((with_reducible apply al_mkfnb); (iterate 4 exact rfl)) | (refine al_mkfnP (xs := [_, _]) (cs := [_, _]) rfl rfl rfl rfl ?_) | ((with_reducible apply al_bin); (iterate 5 exact rfl); (intro W; go_simp; try rfl); (intro W; go_simp; try rfl); exact rfl; exact rfl) | ((with_reducible apply al_nilS); kernel_rfl) | ((with_reducible apply awp_region_draw); kernel_rfl; kernel_rfl; exact rfl) | ((with_reducible apply awp_seq)) | ((with_reducible apply athen_normal)) | ((with_reducible apply awp_region)) | ((with_reducible apply al_nil)) | ((with_reducible apply awp_ret)) | ((with_reducible apply awp_skip)) | ((with_reducible apply athen_ret))))
  refine awt_seq (awt_awp ?_)
  (repeat (first | ((with_reducible apply al_q); exact rfl) | ((with_reducible apply al_mkfn); exact rfl; exact (fun W => rfl); exact rfl) | ((with_reducible apply al_mkfnb); (iterate 4 exact rfl)) | (refine al_mkfnP (xs := [_, _]) (cs := [_, _]) rfl rfl rfl rfl ?_) | ((with_reducible apply al_bin); (iterate 5 exact rfl); (intro W; go_simp; try rfl); (intro W; go_simp; try rfl); exact rfl; exact rfl) | ((with_reducible apply al_nilS); kernel_rfl) | ((with_reducible apply awp_region_draw); kernel_rfl; kernel_rfl; exact rfl) | ((with_reducible apply awp_seq)) | ((with_reducible apply athen_normal)) | ((with_reducible apply awp_region)) | ((with_reducible apply al_nil)) | ((with_reducible apply awp_ret)) | ((with_reducible apply awp_skip)) | ((with_reducible apply athen_ret))))
  refine awt_freeze 5 _ rfl rfl ?_
  refine awt_freeze 6 _ rfl rfl ?_
  refine awt_awp ?_
  (repeat (first | ((with_reducible apply al_q); exact rfl) | ((with_reducible apply al_mkfn); exact rfl; exact (fun W => rfl); exact rfl) | ((with_reducible apply al_mkfnb); (iterate 4 exact rfl)) | (refine al_mkfnP (xs := [_, _]) (cs := [_, _]) rfl rfl rfl rfl ?_) | ((with_reducible apply al_bin); (iterate 5 exact rfl); (intro W; go_simp; try rfl); (intro W; go_simp; try rfl); exact rfl; exact rfl) | ((with_reducible apply al_nilS); kernel_rfl) | ((with_reducible apply awp_region_draw); kernel_rfl; kernel_rfl; exact rfl) | ((with_reducible apply awp_seq)) | ((with_reducible apply athen_normal)) | ((with_reducible apply awp_region)) | ((with_reducible apply al_nil)) | ((with_reducible apply awp_ret)) | ((with_reducible apply awp_skip)) | ((with_reducible apply athen_ret))))
  (first | (refine apost_ret rfl (resl_tmp rfl resl_nil) ?_))
  exact AV.Le.of_eq (by rw [e1, e2]; rfl)
set_option maxRecDepth 100000 in
set_option maxHeartbeats 4000000 in
theorem p_along1 {x y z w : Int} {l d r : Bool} (hr : ahdN x y z w l d = r) : PCall Try.prog 28 [vP x y, vP z w, .w (.one (cB l)), .w (.one (cB d))] (vB r) := by
  have cs : (¬ x = z ∧ z < x ∧ r = l) ∨ (¬ x = z ∧ ¬ z < x ∧ r = !l) ∨ (x = z ∧ ¬ y = w ∧ w < y ∧ r = d) ∨ (x = z ∧ ¬ y = w ∧ ¬ w < y ∧ r = !d) ∨ (x = z ∧ y = w ∧ r = false) := by
    rw [← hr]; unfold ahdN
    by_cases h1 : x < z <;> by_cases h2 : z < x <;> by_cases h3 : y < w <;> by_cases h4 : w < y <;> simp [h1, h2, h3, h4] <;> omega
  clear hr
  rcases cs with ⟨h1, h2, rfl⟩ | ⟨h1, h2, rfl⟩ | ⟨h1, h3, h2, rfl⟩ | ⟨h1, h3, h2, rfl⟩ | ⟨h1, h3, rfl⟩
  all_goals
    refine pcall_body (f := 28) Try.func28 rfl rfl rfl rfl ?_
    (repeat (first | ((with_reducible apply al_q); exact rfl) | ((with_reducible apply al_loadP1); (iterate 5 exact rfl)) | ((with_reducible apply al_loadPN); (iterate 5 exact rfl)) | ((with_reducible apply al_fldP); (iterate 3 exact rfl)) | ((with_reducible apply al_eqP); (iterate 4 exact rfl)) | ((with_reducible apply al_eqB); (iterate 4 exact rfl)) | ((with_reducible apply al_neqP); (iterate 4 exact rfl)) | ((with_reducible apply al_eqT); (iterate 4 exact rfl); kernel_rfl) | ((with_reducible apply al_neT); (iterate 4 exact rfl); kernel_rfl) | ((with_reducible apply al_guard_b (c := true)); exact rfl; exact rfl; (first | assumption | exact decide_eq_true (by omega) | (simp only [Bool.not_eq_true', decide_eq_false_iff_not, decide_eq_true_eq, Bool.not_eq_false']; omega))) | ((with_reducible apply al_guard_b (c := false)); exact rfl; exact rfl; (first | assumption | exact decide_eq_false (by omega) | (simp only [Bool.not_eq_true', decide_eq_false_iff_not, decide_eq_true_eq, Bool.not_eq_false']; omega))) | ((with_reducible apply al_bin); (iterate 5 exact rfl); (intro W; go_simp; try rfl); (intro W; go_simp; try rfl); exact rfl; exact rfl) | ((with_reducible apply al_nilS); kernel_rfl) | ((with_reducible apply awp_region_draw); kernel_rfl; kernel_rfl; exact rfl) | ((with_reducible apply awp_seq)) | ((with_reducible apply athen_normal)) | ((with_reducible apply awp_region)) | ((with_reducible apply al_nil)) | ((with_reducible apply awp_ret)) | ((with_reducible apply awp_skip)) | ((with_reducible apply athen_ret)) | ((with_reducible apply awp_cond_t); exact rfl) | ((with_reducible apply awp_cond_f); exact rfl) | ((with_reducible apply awp_cond_1); exact rfl; (first | assumption | exact decide_eq_true (by omega) | (simp only [Bool.not_eq_true', decide_eq_false_iff_not, decide_eq_true_eq, Bool.not_eq_false']; omega))) | ((with_reducible apply awp_cond_0); exact rfl; (first | assumption | exact decide_eq_false (by omega) | (simp only [Bool.not_eq_true', decide_eq_false_iff_not, decide_eq_true_eq, Bool.not_eq_false']; omega)))))
    (first | (refine apost_ret rfl (resl_tmp rfl resl_nil) ?_))
    first
    | exact AV.Le.refl _
    | exact AV.Le.of_eq (by rw [decide_eq_false (show ¬ x < z by omega), Bool.false_beq, Bool.not_not]; rfl)
    | exact AV.Le.of_eq (by rw [decide_eq_true (show x < z by omega), Bool.true_beq]; rfl)
    | exact AV.Le.of_eq (by rw [decide_eq_false (show ¬ y < w by omega), Bool.false_beq, Bool.not_not]; rfl)
    | exact AV.Le.of_eq (by rw [decide_eq_true (show y < w by omega), Bool.true_beq]; rfl)
theorem ahdN_cases (x y z w : Int) (l d : Bool) : (ahdN x y z w l d = true ∧ ahdN z w x y l d = false ∧ eqP x y z w = false) ∨ (ahdN x y z w l d = false ∧ ahdN z w x y l d = true ∧ eqP x y z w = false) ∨ (ahdN x y z w l d = false ∧ ahdN z w x y l d = false ∧ eqP x y z w = true) := by
  unfold ahdN eqP
  by_cases h1 : x < z <;> by_cases h2 : z < x <;> by_cases h3 : y < w <;> by_cases h4 : w < y <;> cases l <;> cases d <;> simp [h1, h2, h3, h4] <;> omega
set_option maxRecDepth 100000 in
set_option maxHeartbeats 8000000 in
theorem law_Along {a1 a2 b1 b2 x1 y1 x2 y2 : Int} (hal : PCall Try.prog 9 [] (vB true)) : PCall Try.prog 6 [vP a1 a2, vP b1 b2, .w (.agg [.c (.int .i64 x1), .c (.int .i64 y1), .c (.int .i64 x2), .c (.int .i64 y2)])] (vB true) := by
  have A1 := p_Along (a1 := a1) (a2 := a2) (b1 := b1) (b2 := b2)
  have cs := ahdN_cases x1 y1 x2 y2 (decide (b1 < a1)) (decide (b2 < a2))
  rcases cs with ⟨h1, h2, h3⟩ | ⟨h1, h2, h3⟩ | ⟨h1, h2, h3⟩
  all_goals
    have C1 := p_along1 h1
    have C2 := p_along1 h2
    have C3 := p_Ahead7 h1
    have g : ∃ t, ((true : Bool) == !eqP x1 y1 x2 y2) = t ∧ ((false : Bool) == !eqP x1 y1 x2 y2) = !t := ⟨_, rfl, by cases eqP x1 y1 x2 y2 <;> rfl⟩
    obtain ⟨t, g1, g2⟩ := g
    have g3 : t = !eqP x1 y1 x2 y2 := by rw [← g1]; cases eqP x1 y1 x2 y2 <;> rfl
    rw [h3] at g3
    subst g3
    simp only [Bool.not_false, Bool.not_true] at g1 g2
    clear h1 h2
    refine pcall_body (f := 6) Try.func6 rfl rfl rfl rfl ?_
    (repeat (first | ((with_reducible apply al_q); exact rfl) | ((with_reducible apply al_loadP1); (iterate 5 exact rfl)) | ((with_reducible apply al_loadPN); (iterate 5 exact rfl)) | ((with_reducible apply al_fldP); (iterate 3 exact rfl)) | ((with_reducible apply al_idxS); (iterate 3 exact rfl); (first | decide | omega); (first | decide | omega); (first | assumption | rfl); exact rfl) | ((with_reducible apply al_idx); (iterate 3 exact rfl); omega; omega; exact rfl) | ((with_reducible apply al_eqP); (iterate 4 exact rfl)) | ((with_reducible apply al_eqB); (iterate 4 exact rfl)) | ((with_reducible apply al_neqP); (iterate 4 exact rfl)) | ((with_reducible apply al_eqT); (iterate 4 exact rfl); kernel_rfl) | ((with_reducible apply al_neT); (iterate 4 exact rfl); kernel_rfl) | (refine al_call0 rfl rfl (by (first | exact A1 | exact C1 | exact C2 | exact C3 | exact hal)) rfl ?_) | (refine al_call2 rfl rfl rfl rfl (by (first | exact A1 | exact C1 | exact C2 | exact C3 | exact hal)) rfl ?_) | (refine al_call4 rfl rfl rfl rfl rfl rfl (by (first | exact A1 | exact C1 | exact C2 | exact C3 | exact hal)) rfl ?_) | (refine al_callb (bs := [_]) (args := [_, _]) rfl rfl rfl rfl (by (first | exact A1 | exact C1 | exact C2 | exact C3 | exact hal)) rfl ?_) | (refine al_callF (args := [_, _]) rfl rfl rfl (by (first | exact A1 | exact C1 | exact C2 | exact C3 | exact hal)) rfl ?_) | ((with_reducible apply al_eqnil); (iterate 4 exact rfl)) | ((with_reducible apply al_guard_b (c := true)); exact rfl; exact rfl; (first | assumption | exact decide_eq_true (by omega) | (simp only [Bool.not_eq_true', decide_eq_false_iff_not, decide_eq_true_eq, Bool.not_eq_false']; omega))) | ((with_reducible apply al_guard_b (c := false)); exact rfl; exact rfl; (first | assumption | exact decide_eq_false (by omega) | (simp only [Bool.not_eq_true', decide_eq_false_iff_not, decide_eq_true_eq, Bool.not_eq_false']; omega))) | ((with_reducible apply al_bin); (iterate 5 exact rfl); (intro W; go_simp; try rfl); (intro W; go_simp; try rfl); exact rfl; exact rfl) | ((with_reducible apply al_un); exact rfl; exact rfl; (intro W; go_simp; try rfl); exact rfl; exact rfl) | ((with_reducible apply al_nilS); kernel_rfl) | ((with_reducible apply awp_region_draw); kernel_rfl; kernel_rfl; exact rfl) | ((with_reducible apply awp_seq)) | ((with_reducible apply athen_normal)) | ((with_reducible apply awp_region)) | ((with_reducible apply al_nil)) | ((with_reducible apply awp_ret)) | ((with_reducible apply awp_skip)) | ((with_reducible apply athen_ret)) | ((with_reducible apply awp_cond_t); exact rfl) | ((with_reducible apply awp_cond_f); exact rfl) | ((with_reducible apply awp_cond_1); exact rfl; (first | assumption | exact decide_eq_true (by omega) | (simp only [Bool.not_eq_true', decide_eq_false_iff_not, decide_eq_true_eq, Bool.not_eq_false']; omega))) | ((with_reducible apply awp_cond_0); exact rfl; (first | assumption | exact decide_eq_false (by omega) | (simp only [Bool.not_eq_true', decide_eq_false_iff_not, decide_eq_true_eq, Bool.not_eq_false']; omega)))))
    (first | (refine apost_ret rfl (resl_tmp rfl resl_nil) ?_))
    first | exact AV.Le.refl _ | exact AV.Le.of_eq (by rw [h3]; rfl)
end Go.Proofs.Ytcplkjnmfdinaaa
