/-
  Contracts of package pixel: Meets whole, Hits, Near. My own text.
-/
import Derived.Test.YtfcehanpmbeegaaPixB
namespace Go.Proofs.Ytfcehanpmbeegaa
open Go.RowKit
set_option linter.unusedVariables false
set_option linter.unusedSimpArgs false
/-- what Meets answers. -/
def cutV (a1 a2 b1 b2 l1 l2 h1 h2 k : Int) : Pa := cut4 (2 * a1 - l1) (2 * b1 - l1) (2 * a2 - l2) (2 * b2 - l2) (h1 - 2 * a1) (h1 - 2 * b1) (h2 - 2 * a2) (h2 - 2 * b2) (!decide (k = 2)) (decide (k = 1))
def meR (a1 a2 b1 b2 l1 l2 h1 h2 k : Int) : Bool := rB5 a1 a2 && rB5 b1 b2 && co6 l1 l2 && co6 h1 h2 && kd6 k
def meB (a1 a2 b1 b2 l1 l2 h1 h2 k : Int) : Bool := meR a1 a2 b1 b2 l1 l2 h1 h2 k && anB (cutV a1 a2 b1 b2 l1 l2 h1 h2 k)
set_option maxRecDepth 100000 in
set_option maxHeartbeats 8000000 in
theorem p_Meets_no {a1 a2 b1 b2 l1 l2 h1 h2 k : Int} {r1 r2 r3 r4 r5 : Bool} (R1 : PCall Try.prog 23 [vP a1 a2] (vB r1)) (R2 : PCall Try.prog 23 [vP b1 b2] (vB r2)) (K1 : PCall Try.prog 24 [vP l1 l2] (vB r3)) (K2 : PCall Try.prog 24 [vP h1 h2] (vB r4)) (K3 : PCall Try.prog 25 [vI k] (vB r5)) (h : (r1 && r2 && r3 && r4 && r5) = false) :
    PCall Try.prog 11 [vP a1 a2, vP b1 b2, vP l1 l2, vP h1 h2, vI k] (vB false) := by
  have cs : r1 = false ∨ (r1 = true ∧ r2 = false) ∨ (r1 = true ∧ r2 = true ∧ r3 = false) ∨ (r1 = true ∧ r2 = true ∧ r3 = true ∧ r4 = false) ∨ (r1 = true ∧ r2 = true ∧ r3 = true ∧ r4 = true ∧ r5 = false) := by
    cases r1 <;> cases r2 <;> cases r3 <;> cases r4 <;> cases r5 <;> simp_all
  clear h
  rcases cs with rfl | ⟨rfl, rfl⟩ | ⟨rfl, rfl, rfl⟩ | ⟨rfl, rfl, rfl, rfl⟩ | ⟨rfl, rfl, rfl, rfl, rfl⟩
  all_goals
    refine pcall_body (f := 11) Try.func11 rfl rfl rfl rfl ?_
    (repeat (first | ((with_reducible apply al_q); exact rfl) | ((with_reducible apply al_loadP1); (iterate 5 exact rfl)) | ((with_reducible apply al_loadPN); (iterate 5 exact rfl)) | ((with_reducible apply al_eqP); (iterate 4 exact rfl)) | ((with_reducible apply al_eqB); (iterate 4 exact rfl)) | ((with_reducible apply al_neqP); (iterate 4 exact rfl)) | ((with_reducible apply al_add); (iterate 3 exact rfl); (first | exact i64_wrap (by omega) | assumption | rfl); exact rfl) | ((with_reducible apply al_mkfn); exact rfl; exact (fun W => rfl); exact rfl) | ((with_reducible apply al_mkfnb); (iterate 4 exact rfl)) | (refine al_call1 rfl rfl rfl (by (first | exact R1 | exact R2 | exact K1 | exact K2 | exact K3)) rfl ?_) | (refine al_call2 rfl rfl rfl rfl (by (first | exact R1 | exact R2 | exact K1 | exact K2 | exact K3)) rfl ?_) | (refine al_callb (bs := [_]) (args := [_]) rfl rfl rfl rfl (by (first | exact R1 | exact R2 | exact K1 | exact K2 | exact K3)) rfl ?_) | ((with_reducible apply al_guard_b (c := true)); exact rfl; exact rfl; (first | assumption | exact decide_eq_true (by omega) | (simp only [Bool.not_eq_true', decide_eq_false_iff_not, decide_eq_true_eq, Bool.not_eq_false']; omega))) | ((with_reducible apply al_guard_b (c := false)); exact rfl; exact rfl; (first | assumption | exact decide_eq_false (by omega) | (simp only [Bool.not_eq_true', decide_eq_false_iff_not, decide_eq_true_eq, Bool.not_eq_false']; omega))) | ((with_reducible apply al_bin); (iterate 5 exact rfl); (intro W; go_simp; try rfl); (intro W; go_simp; try rfl); exact rfl; exact rfl) | ((with_reducible apply al_un); exact rfl; exact rfl; (intro W; go_simp; try rfl); exact rfl; exact rfl) | ((with_reducible apply al_nilS); kernel_rfl) | ((with_reducible apply awp_region_draw); kernel_rfl; kernel_rfl; exact rfl) | ((with_reducible apply awp_seq)) | ((with_reducible apply athen_normal)) | ((with_reducible apply awp_region)) | ((with_reducible apply al_nil)) | ((with_reducible apply awp_ret)) | ((with_reducible apply awp_skip)) | ((with_reducible apply athen_ret)) | ((with_reducible apply awp_block)) | ((with_reducible apply ablock_normal)) | ((with_reducible apply ablock_ret)) | ((with_reducible apply ablock_same)) | ((with_reducible apply awp_exit)) | ((with_reducible apply athen_exit)) | ((with_reducible apply roll_succ)) | ((with_reducible apply ablock_ne); exact rfl) | ((with_reducible apply awp_cond_t); exact rfl) | ((with_reducible apply awp_cond_f); exact rfl) | ((with_reducible apply awp_cond_1); exact rfl; (first | assumption | exact decide_eq_true (by omega) | (simp only [Bool.not_eq_true', decide_eq_false_iff_not, decide_eq_true_eq, Bool.not_eq_false']; omega))) | ((with_reducible apply awp_cond_0); exact rfl; (first | assumption | exact decide_eq_false (by omega) | (simp only [Bool.not_eq_true', decide_eq_false_iff_not, decide_eq_true_eq, Bool.not_eq_false']; omega)))))
    (first | (refine apost_ret rfl (resl_tmp rfl resl_nil) ?_))
    exact AV.Le.refl _
theorem alB_ok : PaOK alB := ⟨⟨by decide, by decide⟩, ⟨by decide, by decide⟩⟩
theorem p_Meets {a1 a2 b1 b2 l1 l2 h1 h2 k : Int} : PCall Try.prog 11 [vP a1 a2, vP b1 b2, vP l1 l2, vP h1 h2, vI k] (vB (meB a1 a2 b1 b2 l1 l2 h1 h2 k)) := by
  unfold meB
  cases hr : meR a1 a2 b1 b2 l1 l2 h1 h2 k with
  | false => exact p_Meets_no (p_cRight rfl) (p_cRight rfl) (p_isCorner rfl) (p_isCorner rfl) (p_isKind rfl) hr
  | true =>
    rw [Bool.true_and]
    unfold meR at hr
    simp only [Bool.and_eq_true] at hr
    obtain ⟨⟨⟨⟨ra, rb⟩, rl⟩, rh⟩, rk⟩ := hr
    have ia := rB5_iff.1 ra
    have ib := rB5_iff.1 rb
    have il := co6_iff.1 rl
    have ih := co6_iff.1 rh
    unfold cutV cut4
    have o1 := kp_ok (u := 2 * a1 - l1) (v := 2 * b1 - l1) (w := !decide (k = 2)) alB_ok (by omega) (by omega)
    have o2 := kp_ok (u := 2 * a2 - l2) (v := 2 * b2 - l2) (w := !decide (k = 2)) o1 (by omega) (by omega)
    have o3 := kp_ok (u := h1 - 2 * a1) (v := h1 - 2 * b1) (w := decide (k = 1)) o2 (by omega) (by omega)
    have o4 := kp_ok (u := h2 - 2 * a2) (v := h2 - 2 * b2) (w := decide (k = 1)) o3 (by omega) (by omega)
    exact p_Meets' (p_cRight ra) (p_cRight rb) (p_isCorner rl) (p_isCorner rh) (p_isKind rk) rfl rfl p_allOf (p_cutLeft ia.1 ib.1 il.1 (p_keep alB_ok (by omega) (by omega))) (p_cutBelow ia.2 ib.2 il.2 (p_keep o1 (by omega) (by omega))) (p_cutRight ia.1 ib.1 ih.1 (p_keep o2 (by omega) (by omega))) (p_cutAbove ia.2 ib.2 ih.2 (p_keep o3 (by omega) (by omega))) (p_hasAny o4)
set_option maxRecDepth 100000 in
set_option maxHeartbeats 8000000 in
theorem p_Hits_no {a1 a2 b1 b2 x y k : Int} {r1 r2 : Bool} (G1 : PCall Try.prog 39 [vI k] (vB r1)) (G2 : PCall Try.prog 22 [vP x y, vI k] (vB r2)) (h : (r1 && r2) = false) : PCall Try.prog 14 [vP a1 a2, vP b1 b2, vP x y, vI k] (vB false) := by
  have cs : r1 = false ∨ (r1 = true ∧ r2 = false) := by cases r1 <;> cases r2 <;> simp_all
  clear h
  rcases cs with rfl | ⟨rfl, rfl⟩
  all_goals
    refine pcall_body (f := 14) Try.func14 rfl rfl rfl rfl ?_
    (repeat (first | ((with_reducible apply al_q); exact rfl) | (refine al_call1 rfl rfl rfl (by (first | exact G1 | exact G2)) rfl ?_) | (refine al_call2 rfl rfl rfl rfl (by (first | exact G1 | exact G2)) rfl ?_) | (refine al_call5 rfl rfl rfl rfl rfl rfl rfl (by (first | exact G1 | exact G2)) rfl ?_) | ((with_reducible apply al_guard_b (c := true)); exact rfl; exact rfl; (first | assumption | exact decide_eq_true (by omega) | (simp only [Bool.not_eq_true', decide_eq_false_iff_not, decide_eq_true_eq, Bool.not_eq_false']; omega))) | ((with_reducible apply al_guard_b (c := false)); exact rfl; exact rfl; (first | assumption | exact decide_eq_false (by omega) | (simp only [Bool.not_eq_true', decide_eq_false_iff_not, decide_eq_true_eq, Bool.not_eq_false']; omega))) | ((with_reducible apply al_un); exact rfl; exact rfl; (intro W; go_simp; try rfl); exact rfl; exact rfl) | ((with_reducible apply al_nilS); kernel_rfl) | ((with_reducible apply awp_region_draw); kernel_rfl; kernel_rfl; exact rfl) | ((with_reducible apply awp_seq)) | ((with_reducible apply athen_normal)) | ((with_reducible apply awp_region)) | ((with_reducible apply al_nil)) | ((with_reducible apply awp_ret)) | ((with_reducible apply awp_skip)) | ((with_reducible apply athen_ret)) | ((with_reducible apply awp_cond_t); exact rfl) | ((with_reducible apply awp_cond_f); exact rfl) | ((with_reducible apply awp_cond_1); exact rfl; (first | assumption | exact decide_eq_true (by omega) | (simp only [Bool.not_eq_true', decide_eq_false_iff_not, decide_eq_true_eq, Bool.not_eq_false']; omega))) | ((with_reducible apply awp_cond_0); exact rfl; (first | assumption | exact decide_eq_false (by omega) | (simp only [Bool.not_eq_true', decide_eq_false_iff_not, decide_eq_true_eq, Bool.not_eq_false']; omega)))))
    (first | (refine apost_ret rfl (resl_tmp rfl resl_nil) ?_))
    exact AV.Le.refl _
set_option maxRecDepth 100000 in
set_option maxHeartbeats 8000000 in
theorem p_Hits_yes {a1 a2 b1 b2 x y k l1 l2 h1 h2 : Int} {r : Bool} (G1 : PCall Try.prog 39 [vI k] (vB true)) (G2 : PCall Try.prog 22 [vP x y, vI k] (vB true)) (G3 : PCall Try.prog 21 [vP x y, vI k] (.tup [.agg [.c (.int .i64 l1), .c (.int .i64 l2)], .agg [.c (.int .i64 h1), .c (.int .i64 h2)]])) (M : PCall Try.prog 11 [vP a1 a2, vP b1 b2, vP l1 l2, vP h1 h2, vI 0] (vB r)) : PCall Try.prog 14 [vP a1 a2, vP b1 b2, vP x y, vI k] (vB r) := by
  refine pcall_body (f := 14) Try.func14 rfl rfl rfl rfl ?_
  (repeat (first | ((with_reducible apply al_q); exact rfl) | (refine al_call1 rfl rfl rfl (by (first | exact G1 | exact G2 | exact G3 | exact M)) rfl ?_) | (refine al_call2 rfl rfl rfl rfl (by (first | exact G1 | exact G2 | exact G3 | exact M)) rfl ?_) | (refine al_call5 rfl rfl rfl rfl rfl rfl rfl (by (first | exact G1 | exact G2 | exact G3 | exact M)) rfl ?_) | ((with_reducible apply al_guard_b (c := true)); exact rfl; exact rfl; (first | assumption | exact decide_eq_true (by omega) | (simp only [Bool.not_eq_true', decide_eq_false_iff_not, decide_eq_true_eq, Bool.not_eq_false']; omega))) | ((with_reducible apply al_guard_b (c := false)); exact rfl; exact rfl; (first | assumption | exact decide_eq_false (by omega) | (simp only [Bool.not_eq_true', decide_eq_false_iff_not, decide_eq_true_eq, Bool.not_eq_false']; omega))) | ((with_reducible apply al_un); exact rfl; exact rfl; (intro W; go_simp; try rfl); exact rfl; exact rfl) | ((with_reducible apply al_nilS); kernel_rfl) | ((with_reducible apply awp_region_draw); kernel_rfl; kernel_rfl; exact rfl) | ((with_reducible apply awp_seq)) | ((with_reducible apply athen_normal)) | ((with_reducible apply awp_region)) | ((with_reducible apply al_nil)) | ((with_reducible apply awp_ret)) | ((with_reducible apply awp_skip)) | ((with_reducible apply athen_ret)) | ((with_reducible apply awp_cond_t); exact rfl) | ((with_reducible apply awp_cond_f); exact rfl) | ((with_reducible apply awp_cond_1); exact rfl; (first | assumption | exact decide_eq_true (by omega) | (simp only [Bool.not_eq_true', decide_eq_false_iff_not, decide_eq_true_eq, Bool.not_eq_false']; omega))) | ((with_reducible apply awp_cond_0); exact rfl; (first | assumption | exact decide_eq_false (by omega) | (simp only [Bool.not_eq_true', decide_eq_false_iff_not, decide_eq_true_eq, Bool.not_eq_false']; omega)))))
  (first | (refine apost_ret rfl (resl_tmp rfl resl_nil) ?_))
  exact AV.Le.refl _
/-- what Hits answers. -/
def hiB (a1 a2 b1 b2 x y k : Int) : Bool := decide (0 ≤ k) && decide (k ≤ 28) && inB k.toNat x y && meB a1 a2 b1 b2 (2 * (2 ^ k.toNat * x) - 2 ^ k.toNat) (2 * (2 ^ k.toNat * y) - 2 ^ k.toNat) (2 * (2 ^ k.toNat * x) + 2 ^ k.toNat) (2 * (2 ^ k.toNat * y) + 2 ^ k.toNat) 0
theorem isR_toNat {k : Int} (h : (decide (0 ≤ k) && decide (k ≤ 28)) = true) : IsR k k.toNat := by
  simp only [Bool.and_eq_true, decide_eq_true_eq] at h
  unfold IsR
  omega
theorem p_Hits {a1 a2 b1 b2 x y k : Int} : PCall Try.prog 14 [vP a1 a2, vP b1 b2, vP x y, vI k] (vB (hiB a1 a2 b1 b2 x y k)) := by
  unfold hiB
  have G1 := p_gRight (k := k)
  cases hk : (decide (0 ≤ k) && decide (k ≤ 28)) with
  | false =>
    rw [hk] at G1
    obtain ⟨r, hr⟩ := isR_ex k
    exact p_Hits_no G1 (p_In hr rfl) rfl
  | true =>
    rw [hk] at G1
    have hr := isR_toNat hk
    cases hi : inB k.toNat x y with
    | false => exact p_Hits_no G1 (p_In hr hi) rfl
    | true => exact p_Hits_yes G1 (p_In hr hi) (p_Sides hr hi) p_Meets
set_option maxRecDepth 100000 in
set_option maxHeartbeats 8000000 in
theorem p_Near_no {a1 a2 b1 b2 p1 p2 f : Int} {r1 : Bool} (R1 : PCall Try.prog 23 [vP p1 p2] (vB r1)) (cs : r1 = false ∨ (r1 = true ∧ f < 0) ∨ (r1 = true ∧ ¬ f < 0 ∧ 268435456 < f)) : PCall Try.prog 18 [vP a1 a2, vP b1 b2, vP p1 p2, vI f] (vB false) := by
  rcases cs with rfl | ⟨rfl, q1⟩ | ⟨rfl, q1, q2⟩
  all_goals
    refine pcall_body (f := 18) Try.func18 rfl rfl rfl rfl ?_
    (repeat (first | ((with_reducible apply al_q); exact rfl) | ((with_reducible apply al_add); (iterate 3 exact rfl); (first | exact i64_wrap (by omega) | assumption | rfl); exact rfl) | ((with_reducible apply al_sub); (iterate 3 exact rfl); (first | exact i64_wrap (by omega) | assumption | rfl); exact rfl) | ((with_reducible apply al_mul); (iterate 3 exact rfl); (first | exact i64_wrap (by omega) | assumption | rfl); exact rfl) | (refine al_call1 rfl rfl rfl (by (first | exact R1)) rfl ?_) | (refine al_call5 rfl rfl rfl rfl rfl rfl rfl (by (first | exact R1)) rfl ?_) | ((with_reducible apply al_guard_b (c := true)); exact rfl; exact rfl; (first | assumption | exact decide_eq_true (by omega) | (simp only [Bool.not_eq_true', decide_eq_false_iff_not, decide_eq_true_eq, Bool.not_eq_false']; omega))) | ((with_reducible apply al_guard_b (c := false)); exact rfl; exact rfl; (first | assumption | exact decide_eq_false (by omega) | (simp only [Bool.not_eq_true', decide_eq_false_iff_not, decide_eq_true_eq, Bool.not_eq_false']; omega))) | ((with_reducible apply al_bin); (iterate 5 exact rfl); (intro W; go_simp; try rfl); (intro W; go_simp; try rfl); exact rfl; exact rfl) | ((with_reducible apply al_un); exact rfl; exact rfl; (intro W; go_simp; try rfl); exact rfl; exact rfl) | ((with_reducible apply al_nilS); kernel_rfl) | ((with_reducible apply awp_region_draw); kernel_rfl; kernel_rfl; exact rfl) | ((with_reducible apply awp_seq)) | ((with_reducible apply athen_normal)) | ((with_reducible apply awp_region)) | ((with_reducible apply al_nil)) | ((with_reducible apply awp_ret)) | ((with_reducible apply awp_skip)) | ((with_reducible apply athen_ret)) | ((with_reducible apply awp_cond_t); exact rfl) | ((with_reducible apply awp_cond_f); exact rfl) | ((with_reducible apply awp_cond_1); exact rfl; (first | assumption | exact decide_eq_true (by omega) | (simp only [Bool.not_eq_true', decide_eq_false_iff_not, decide_eq_true_eq, Bool.not_eq_false']; omega))) | ((with_reducible apply awp_cond_0); exact rfl; (first | assumption | exact decide_eq_false (by omega) | (simp only [Bool.not_eq_true', decide_eq_false_iff_not, decide_eq_true_eq, Bool.not_eq_false']; omega)))))
    (first | (refine apost_ret rfl (resl_tmp rfl resl_nil) ?_))
    exact AV.Le.refl _
set_option maxRecDepth 100000 in
set_option maxHeartbeats 8000000 in
theorem p_Near_yes {a1 a2 b1 b2 p1 p2 f : Int} {r : Bool} (R1 : PCall Try.prog 23 [vP p1 p2] (vB true)) (h1 : -134217728 ≤ p1 ∧ p1 ≤ 134217728) (h2 : -134217728 ≤ p2 ∧ p2 ≤ 134217728) (f0 : ¬ f < 0) (f1 : ¬ 268435456 < f) (M : PCall Try.prog 11 [vP a1 a2, vP b1 b2, vP (2 * p1 - f) (2 * p2 - f), vP (2 * p1 + f) (2 * p2 + f), vI 1] (vB r)) : PCall Try.prog 18 [vP a1 a2, vP b1 b2, vP p1 p2, vI f] (vB r) := by
  refine pcall_body (f := 18) Try.func18 rfl rfl rfl rfl ?_
  (repeat (first | ((with_reducible apply al_q); exact rfl) | ((with_reducible apply al_add); (iterate 3 exact rfl); (first | exact i64_wrap (by omega) | assumption | rfl); exact rfl) | ((with_reducible apply al_sub); (iterate 3 exact rfl); (first | exact i64_wrap (by omega) | assumption | rfl); exact rfl) | ((with_reducible apply al_mul); (iterate 3 exact rfl); (first | exact i64_wrap (by omega) | assumption | rfl); exact rfl) | (refine al_call1 rfl rfl rfl (by (first | exact R1 | exact M)) rfl ?_) | (refine al_call5 rfl rfl rfl rfl rfl rfl rfl (by (first | exact R1 | exact M)) rfl ?_) | ((with_reducible apply al_guard_b (c := true)); exact rfl; exact rfl; (first | assumption | exact decide_eq_true (by omega) | (simp only [Bool.not_eq_true', decide_eq_false_iff_not, decide_eq_true_eq, Bool.not_eq_false']; omega))) | ((with_reducible apply al_guard_b (c := false)); exact rfl; exact rfl; (first | assumption | exact decide_eq_false (by omega) | (simp only [Bool.not_eq_true', decide_eq_false_iff_not, decide_eq_true_eq, Bool.not_eq_false']; omega))) | ((with_reducible apply al_bin); (iterate 5 exact rfl); (intro W; go_simp; try rfl); (intro W; go_simp; try rfl); exact rfl; exact rfl) | ((with_reducible apply al_un); exact rfl; exact rfl; (intro W; go_simp; try rfl); exact rfl; exact rfl) | ((with_reducible apply al_nilS); kernel_rfl) | ((with_reducible apply awp_region_draw); kernel_rfl; kernel_rfl; exact rfl) | ((with_reducible apply awp_seq)) | ((with_reducible apply athen_normal)) | ((with_reducible apply awp_region)) | ((with_reducible apply al_nil)) | ((with_reducible apply awp_ret)) | ((with_reducible apply awp_skip)) | ((with_reducible apply athen_ret)) | ((with_reducible apply awp_cond_t); exact rfl) | ((with_reducible apply awp_cond_f); exact rfl) | ((with_reducible apply awp_cond_1); exact rfl; (first | assumption | exact decide_eq_true (by omega) | (simp only [Bool.not_eq_true', decide_eq_false_iff_not, decide_eq_true_eq, Bool.not_eq_false']; omega))) | ((with_reducible apply awp_cond_0); exact rfl; (first | assumption | exact decide_eq_false (by omega) | (simp only [Bool.not_eq_true', decide_eq_false_iff_not, decide_eq_true_eq, Bool.not_eq_false']; omega)))))
  (first | (refine apost_ret rfl (resl_tmp rfl resl_nil) ?_))
  exact AV.Le.refl _
/-- what Near answers. -/
def neB (a1 a2 b1 b2 p1 p2 f : Int) : Bool := rB5 p1 p2 && !decide (f < 0) && !decide (268435456 < f) && meB a1 a2 b1 b2 (2 * p1 - f) (2 * p2 - f) (2 * p1 + f) (2 * p2 + f) 1
theorem p_Near {a1 a2 b1 b2 p1 p2 f : Int} : PCall Try.prog 18 [vP a1 a2, vP b1 b2, vP p1 p2, vI f] (vB (neB a1 a2 b1 b2 p1 p2 f)) := by
  unfold neB
  cases hr : rB5 p1 p2 with
  | false => exact p_Near_no (p_cRight hr) (.inl rfl)
  | true =>
    by_cases q1 : f < 0
    · rw [decide_eq_true q1]; exact p_Near_no (p_cRight hr) (.inr (.inl ⟨rfl, q1⟩))
    · rw [decide_eq_false q1]
      by_cases q2 : 268435456 < f
      · rw [decide_eq_true q2]; exact p_Near_no (p_cRight hr) (.inr (.inr ⟨rfl, q1, q2⟩))
      · rw [decide_eq_false q2]
        have ir := rB5_iff.1 hr
        exact p_Near_yes (p_cRight hr) ir.1 ir.2 q1 q2 p_Meets
end Go.Proofs.Ytfcehanpmbeegaa
