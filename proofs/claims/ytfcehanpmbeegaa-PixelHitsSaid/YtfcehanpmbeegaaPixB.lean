/-
  Contracts of package pixel: the cuts, Meets. My own text.
-/
import Derived.Test.YtfcehanpmbeegaaPixA
namespace Go.Proofs.Ytfcehanpmbeegaa
open Go.RowKit
set_option linter.unusedVariables false
set_option linter.unusedSimpArgs false
instance : IPart Try.prog 57 4 false 1 := ⟨by kernel_rfl⟩
abbrev vBox (l1 l2 h1 h2 : Int) (o p : Bool) : AV := .w (.agg [.c (.int .i64 l1), .c (.int .i64 l2), .c (.int .i64 h1), .c (.int .i64 h2), .c (.bool o), .c (.bool p)])
/-- a corner's number may be so great. -/
def cb6 (n : Int) : Bool := decide (-536870912 ≤ n) && decide (n ≤ 536870912)
theorem cb6_iff {n : Int} : cb6 n = true ↔ -536870912 ≤ n ∧ n ≤ 536870912 := by unfold cb6; simp
def co6 (x y : Int) : Bool := cb6 x && cb6 y
theorem co6_iff {x y : Int} : co6 x y = true ↔ (-536870912 ≤ x ∧ x ≤ 536870912) ∧ -536870912 ≤ y ∧ y ≤ 536870912 := by unfold co6; rw [Bool.and_eq_true, cb6_iff, cb6_iff]
def kd6 (k : Int) : Bool := decide (0 ≤ k) && decide (k ≤ 2)
set_option maxRecDepth 100000 in
set_option maxHeartbeats 4000000 in
theorem p_cutLeft {a1 a2 b1 b2 l1 l2 h1 h2 n d m e n' d' m' e' : Int} {o p q r q' r' : Bool} (ha : -134217728 ≤ a1 ∧ a1 ≤ 134217728) (hb : -134217728 ≤ b1 ∧ b1 ≤ 134217728) (hl : -536870912 ≤ l1 ∧ l1 ≤ 536870912)
    (C1 : PCall Try.prog 48 [vPart a1 a2 b1 b2 n d q m e r, vI (2 * a1 - l1), vI (2 * b1 - l1), vB o] (vPart a1 a2 b1 b2 n' d' q' m' e' r')) : PCall Try.prog 27 [vBox l1 l2 h1 h2 o p, vPart a1 a2 b1 b2 n d q m e r] (vPart a1 a2 b1 b2 n' d' q' m' e' r') := by
  refine pcall_body (f := 27) Try.func27 rfl rfl rfl rfl ?_
  (repeat (first | ((with_reducible apply al_q); exact rfl) | ((with_reducible apply al_sub); (iterate 3 exact rfl); (first | exact i64_wrap (by omega) | assumption | rfl); exact rfl) | ((with_reducible apply al_mul); (iterate 3 exact rfl); (first | exact i64_wrap (by omega) | assumption | rfl); exact rfl) | (refine al_call4 rfl rfl rfl rfl rfl rfl (by (first | exact C1)) rfl ?_) | ((with_reducible apply al_bin); (iterate 5 exact rfl); (intro W; go_simp; try rfl); (intro W; go_simp; try rfl); exact rfl; exact rfl) | ((with_reducible apply awp_seq)) | ((with_reducible apply athen_normal)) | ((with_reducible apply awp_region)) | ((with_reducible apply al_nil)) | ((with_reducible apply awp_ret)) | ((with_reducible apply awp_skip)) | ((with_reducible apply athen_ret))))
  (first | (refine apost_ret rfl (resl_agg rfl rfl rfl resl_nil) ?_) | (refine apost_ret rfl (resl_one rfl rfl rfl resl_nil) ?_))
  exact AV.Le.refl _
set_option maxRecDepth 100000 in
set_option maxHeartbeats 4000000 in
theorem p_cutBelow {a1 a2 b1 b2 l1 l2 h1 h2 n d m e n' d' m' e' : Int} {o p q r q' r' : Bool} (ha : -134217728 ≤ a2 ∧ a2 ≤ 134217728) (hb : -134217728 ≤ b2 ∧ b2 ≤ 134217728) (hl : -536870912 ≤ l2 ∧ l2 ≤ 536870912)
    (C1 : PCall Try.prog 48 [vPart a1 a2 b1 b2 n d q m e r, vI (2 * a2 - l2), vI (2 * b2 - l2), vB o] (vPart a1 a2 b1 b2 n' d' q' m' e' r')) : PCall Try.prog 28 [vBox l1 l2 h1 h2 o p, vPart a1 a2 b1 b2 n d q m e r] (vPart a1 a2 b1 b2 n' d' q' m' e' r') := by
  refine pcall_body (f := 28) Try.func28 rfl rfl rfl rfl ?_
  (repeat (first | ((with_reducible apply al_q); exact rfl) | ((with_reducible apply al_sub); (iterate 3 exact rfl); (first | exact i64_wrap (by omega) | assumption | rfl); exact rfl) | ((with_reducible apply al_mul); (iterate 3 exact rfl); (first | exact i64_wrap (by omega) | assumption | rfl); exact rfl) | (refine al_call4 rfl rfl rfl rfl rfl rfl (by (first | exact C1)) rfl ?_) | ((with_reducible apply al_bin); (iterate 5 exact rfl); (intro W; go_simp; try rfl); (intro W; go_simp; try rfl); exact rfl; exact rfl) | ((with_reducible apply awp_seq)) | ((with_reducible apply athen_normal)) | ((with_reducible apply awp_region)) | ((with_reducible apply al_nil)) | ((with_reducible apply awp_ret)) | ((with_reducible apply awp_skip)) | ((with_reducible apply athen_ret))))
  (first | (refine apost_ret rfl (resl_agg rfl rfl rfl resl_nil) ?_) | (refine apost_ret rfl (resl_one rfl rfl rfl resl_nil) ?_))
  exact AV.Le.refl _
set_option maxRecDepth 100000 in
set_option maxHeartbeats 4000000 in
theorem p_cutRight {a1 a2 b1 b2 l1 l2 h1 h2 n d m e n' d' m' e' : Int} {o p q r q' r' : Bool} (ha : -134217728 ≤ a1 ∧ a1 ≤ 134217728) (hb : -134217728 ≤ b1 ∧ b1 ≤ 134217728) (hl : -536870912 ≤ h1 ∧ h1 ≤ 536870912)
    (C1 : PCall Try.prog 48 [vPart a1 a2 b1 b2 n d q m e r, vI (h1 - 2 * a1), vI (h1 - 2 * b1), vB p] (vPart a1 a2 b1 b2 n' d' q' m' e' r')) : PCall Try.prog 29 [vBox l1 l2 h1 h2 o p, vPart a1 a2 b1 b2 n d q m e r] (vPart a1 a2 b1 b2 n' d' q' m' e' r') := by
  refine pcall_body (f := 29) Try.func29 rfl rfl rfl rfl ?_
  (repeat (first | ((with_reducible apply al_q); exact rfl) | ((with_reducible apply al_sub); (iterate 3 exact rfl); (first | exact i64_wrap (by omega) | assumption | rfl); exact rfl) | ((with_reducible apply al_mul); (iterate 3 exact rfl); (first | exact i64_wrap (by omega) | assumption | rfl); exact rfl) | (refine al_call4 rfl rfl rfl rfl rfl rfl (by (first | exact C1)) rfl ?_) | ((with_reducible apply al_bin); (iterate 5 exact rfl); (intro W; go_simp; try rfl); (intro W; go_simp; try rfl); exact rfl; exact rfl) | ((with_reducible apply awp_seq)) | ((with_reducible apply athen_normal)) | ((with_reducible apply awp_region)) | ((with_reducible apply al_nil)) | ((with_reducible apply awp_ret)) | ((with_reducible apply awp_skip)) | ((with_reducible apply athen_ret))))
  (first | (refine apost_ret rfl (resl_agg rfl rfl rfl resl_nil) ?_) | (refine apost_ret rfl (resl_one rfl rfl rfl resl_nil) ?_))
  exact AV.Le.refl _
set_option maxRecDepth 100000 in
set_option maxHeartbeats 4000000 in
theorem p_cutAbove {a1 a2 b1 b2 l1 l2 h1 h2 n d m e n' d' m' e' : Int} {o p q r q' r' : Bool} (ha : -134217728 ≤ a2 ∧ a2 ≤ 134217728) (hb : -134217728 ≤ b2 ∧ b2 ≤ 134217728) (hl : -536870912 ≤ h2 ∧ h2 ≤ 536870912)
    (C1 : PCall Try.prog 48 [vPart a1 a2 b1 b2 n d q m e r, vI (h2 - 2 * a2), vI (h2 - 2 * b2), vB p] (vPart a1 a2 b1 b2 n' d' q' m' e' r')) : PCall Try.prog 30 [vBox l1 l2 h1 h2 o p, vPart a1 a2 b1 b2 n d q m e r] (vPart a1 a2 b1 b2 n' d' q' m' e' r') := by
  refine pcall_body (f := 30) Try.func30 rfl rfl rfl rfl ?_
  (repeat (first | ((with_reducible apply al_q); exact rfl) | ((with_reducible apply al_sub); (iterate 3 exact rfl); (first | exact i64_wrap (by omega) | assumption | rfl); exact rfl) | ((with_reducible apply al_mul); (iterate 3 exact rfl); (first | exact i64_wrap (by omega) | assumption | rfl); exact rfl) | (refine al_call4 rfl rfl rfl rfl rfl rfl (by (first | exact C1)) rfl ?_) | ((with_reducible apply al_bin); (iterate 5 exact rfl); (intro W; go_simp; try rfl); (intro W; go_simp; try rfl); exact rfl; exact rfl) | ((with_reducible apply awp_seq)) | ((with_reducible apply athen_normal)) | ((with_reducible apply awp_region)) | ((with_reducible apply al_nil)) | ((with_reducible apply awp_ret)) | ((with_reducible apply awp_skip)) | ((with_reducible apply athen_ret))))
  (first | (refine apost_ret rfl (resl_agg rfl rfl rfl resl_nil) ?_) | (refine apost_ret rfl (resl_one rfl rfl rfl resl_nil) ?_))
  exact AV.Le.refl _
set_option maxRecDepth 100000 in
set_option maxHeartbeats 4000000 in
theorem p_allOf {a1 a2 b1 b2 : Int} : PCall Try.prog 26 [vP a1 a2, vP b1 b2] (vPaB a1 a2 b1 b2 alB) := by
  refine pcall_body (f := 26) Try.func26 rfl rfl rfl rfl ?_
  (repeat (first | ((with_reducible apply al_q); exact rfl) | ((with_reducible apply al_nilS); kernel_rfl) | ((with_reducible apply awp_region_draw); kernel_rfl; kernel_rfl; exact rfl) | ((with_reducible apply awp_seq)) | ((with_reducible apply athen_normal)) | ((with_reducible apply awp_region)) | ((with_reducible apply al_nil)) | ((with_reducible apply awp_ret)) | ((with_reducible apply awp_skip)) | ((with_reducible apply athen_ret))))
  (first | (refine apost_ret rfl (resl_agg rfl rfl rfl resl_nil) ?_) | (refine apost_ret rfl (resl_one rfl rfl rfl resl_nil) ?_))
  exact AV.Le.refl _
set_option maxRecDepth 100000 in
set_option maxHeartbeats 4000000 in
theorem p_hasAny' {a1 a2 b1 b2 n d m e c : Int} {o q r : Bool} (C1 : PCall Try.prog 49 [vBd n d o, vBd m e q] (vI c)) (cs : (c < 0 ∧ r = true) ∨ (¬ c < 0 ∧ c = 0 ∧ o = true ∧ r = q) ∨ (¬ c < 0 ∧ c = 0 ∧ o = false ∧ r = false) ∨ (¬ c < 0 ∧ ¬ c = 0 ∧ r = false)) : PCall Try.prog 31 [vPart a1 a2 b1 b2 n d o m e q] (vB r) := by
  rcases cs with ⟨q1, rfl⟩ | ⟨q1, q2, rfl, rfl⟩ | ⟨q1, q2, rfl, rfl⟩ | ⟨q1, q2, rfl⟩
  all_goals
    refine pcall_body (f := 31) Try.func31 rfl rfl rfl rfl ?_
    (repeat (first | ((with_reducible apply al_q); exact rfl) | ((with_reducible apply al_eqP); (iterate 4 exact rfl)) | ((with_reducible apply al_eqB); (iterate 4 exact rfl)) | (refine al_call2 rfl rfl rfl rfl (by (first | exact C1)) rfl ?_) | ((with_reducible apply al_guard_b (c := true)); exact rfl; exact rfl; (first | assumption | exact decide_eq_true (by omega) | (simp only [Bool.not_eq_true', decide_eq_false_iff_not, decide_eq_true_eq, Bool.not_eq_false']; omega))) | ((with_reducible apply al_guard_b (c := false)); exact rfl; exact rfl; (first | assumption | exact decide_eq_false (by omega) | (simp only [Bool.not_eq_true', decide_eq_false_iff_not, decide_eq_true_eq, Bool.not_eq_false']; omega))) | ((with_reducible apply al_bin); (iterate 5 exact rfl); (intro W; go_simp; try rfl); (intro W; go_simp; try rfl); exact rfl; exact rfl) | ((with_reducible apply al_nilS); kernel_rfl) | ((with_reducible apply awp_region_draw); kernel_rfl; kernel_rfl; exact rfl) | ((with_reducible apply awp_seq)) | ((with_reducible apply athen_normal)) | ((with_reducible apply awp_region)) | ((with_reducible apply al_nil)) | ((with_reducible apply awp_ret)) | ((with_reducible apply awp_skip)) | ((with_reducible apply athen_ret))))
    (first | (refine apost_ret rfl (resl_tmp rfl resl_nil) ?_))
    exact AV.Le.refl _
theorem p_hasAny {a1 a2 b1 b2 : Int} {p : Pa} (hp : PaOK p) : PCall Try.prog 31 [vPaB a1 a2 b1 b2 p] (vB (anB p)) := by
  refine p_hasAny' (p_xcompare hp.1 hp.2) ?_
  unfold anB
  by_cases h1 : cmB p.f p.t < 0
  · exact .inl ⟨h1, by rw [decide_eq_true h1]; rfl⟩
  · rw [decide_eq_false h1]
    by_cases h2 : cmB p.f p.t = 0
    · rw [decide_eq_true h2]
      cases h3 : p.f.own with
      | true => exact .inr (.inl ⟨h1, h2, rfl, rfl⟩)
      | false => exact .inr (.inr (.inl ⟨h1, h2, rfl, rfl⟩))
    · exact .inr (.inr (.inr ⟨h1, h2, by rw [decide_eq_false h2]; rfl⟩))
set_option maxRecDepth 100000 in
set_option maxHeartbeats 4000000 in
theorem p_far6 {n : Int} {b : Bool} (hb : cb6 n = b) : PCall Try.prog 47 [vI n] (vB b) := by
  have cs : (-536870912 ≤ n ∧ n ≤ 536870912 ∧ b = true) ∨ (-536870912 ≤ n ∧ ¬ n ≤ 536870912 ∧ b = false) ∨ (¬ -536870912 ≤ n ∧ b = false) := by
    rw [← hb]; unfold cb6
    by_cases h1 : -536870912 ≤ n <;> by_cases h2 : n ≤ 536870912 <;> simp [h1, h2]
  clear hb
  rcases cs with ⟨h1, h2, rfl⟩ | ⟨h1, h2, rfl⟩ | ⟨h1, rfl⟩
  all_goals
    refine pcall_body (f := 47) Try.func47 rfl rfl rfl rfl ?_
    (repeat (first | ((with_reducible apply al_q); exact rfl) | ((with_reducible apply al_guard_b (c := true)); exact rfl; exact rfl; (first | assumption | exact decide_eq_true (by omega) | (simp only [Bool.not_eq_true', decide_eq_false_iff_not, decide_eq_true_eq, Bool.not_eq_false']; omega))) | ((with_reducible apply al_guard_b (c := false)); exact rfl; exact rfl; (first | assumption | exact decide_eq_false (by omega) | (simp only [Bool.not_eq_true', decide_eq_false_iff_not, decide_eq_true_eq, Bool.not_eq_false']; omega))) | ((with_reducible apply al_bin); (iterate 5 exact rfl); (intro W; go_simp; try rfl); (intro W; go_simp; try rfl); exact rfl; exact rfl) | ((with_reducible apply al_nilS); kernel_rfl) | ((with_reducible apply awp_region_draw); kernel_rfl; kernel_rfl; exact rfl) | ((with_reducible apply awp_seq)) | ((with_reducible apply athen_normal)) | ((with_reducible apply awp_region)) | ((with_reducible apply al_nil)) | ((with_reducible apply awp_ret)) | ((with_reducible apply awp_skip)) | ((with_reducible apply athen_ret))))
    (first | (refine apost_ret rfl (resl_tmp rfl resl_nil) ?_))
    first | exact AV.Le.refl _ | exact AV.Le.of_eq (by rw [decide_eq_true h2]; rfl) | exact AV.Le.of_eq (by rw [decide_eq_false h2]; rfl)
set_option maxRecDepth 100000 in
set_option maxHeartbeats 4000000 in
theorem p_isCorner {x y : Int} {b : Bool} (hb : co6 x y = b) : PCall Try.prog 24 [vP x y] (vB b) := by
  have C1 := p_far6 (n := x) rfl
  have C2 := p_far6 (n := y) rfl
  unfold co6 at hb
  cases q1 : cb6 x <;> cases q2 : cb6 y <;> rw [q1] at C1 <;> rw [q2] at C2 <;> rw [q1, q2] at hb <;> subst hb <;> clear q1 q2
  all_goals
    refine pcall_body (f := 24) Try.func24 rfl rfl rfl rfl ?_
    (repeat (first | ((with_reducible apply al_q); exact rfl) | (refine al_call1 rfl rfl rfl (by (first | exact C1 | exact C2)) rfl ?_) | ((with_reducible apply al_guard_b (c := true)); exact rfl; exact rfl; (first | assumption | exact decide_eq_true (by omega) | (simp only [Bool.not_eq_true', decide_eq_false_iff_not, decide_eq_true_eq, Bool.not_eq_false']; omega))) | ((with_reducible apply al_guard_b (c := false)); exact rfl; exact rfl; (first | assumption | exact decide_eq_false (by omega) | (simp only [Bool.not_eq_true', decide_eq_false_iff_not, decide_eq_true_eq, Bool.not_eq_false']; omega))) | ((with_reducible apply al_nilS); kernel_rfl) | ((with_reducible apply awp_region_draw); kernel_rfl; kernel_rfl; exact rfl) | ((with_reducible apply awp_seq)) | ((with_reducible apply athen_normal)) | ((with_reducible apply awp_region)) | ((with_reducible apply al_nil)) | ((with_reducible apply awp_ret)) | ((with_reducible apply awp_skip)) | ((with_reducible apply athen_ret))))
    (first | (refine apost_ret rfl (resl_tmp rfl resl_nil) ?_))
    exact AV.Le.refl _
set_option maxRecDepth 100000 in
set_option maxHeartbeats 4000000 in
theorem p_isKind {k : Int} {b : Bool} (hb : kd6 k = b) : PCall Try.prog 25 [vI k] (vB b) := by
  have cs : (k = 0 ∧ b = true) ∨ (¬ k = 0 ∧ k = 1 ∧ b = true) ∨ (¬ k = 0 ∧ ¬ k = 1 ∧ k = 2 ∧ b = true) ∨ (¬ k = 0 ∧ ¬ k = 1 ∧ ¬ k = 2 ∧ b = false) := by
    rw [← hb]; unfold kd6
    by_cases h1 : k = 0
    · exact .inl ⟨h1, by subst h1; rfl⟩
    · by_cases h2 : k = 1
      · exact .inr (.inl ⟨h1, h2, by subst h2; rfl⟩)
      · by_cases h3 : k = 2
        · exact .inr (.inr (.inl ⟨h1, h2, h3, by subst h3; rfl⟩))
        · refine .inr (.inr (.inr ⟨h1, h2, h3, ?_⟩))
          rw [Bool.and_eq_false_iff, decide_eq_false_iff_not, decide_eq_false_iff_not]
          omega
  clear hb
  rcases cs with ⟨h1, rfl⟩ | ⟨h1, h2, rfl⟩ | ⟨h1, h2, h3, rfl⟩ | ⟨h1, h2, h3, rfl⟩
  all_goals
    refine pcall_body (f := 25) Try.func25 rfl rfl rfl rfl ?_
    (repeat (first | ((with_reducible apply al_q); exact rfl) | ((with_reducible apply al_eqP); (iterate 4 exact rfl)) | ((with_reducible apply al_eqB); (iterate 4 exact rfl)) | ((with_reducible apply al_guard_b (c := true)); exact rfl; exact rfl; (first | assumption | exact decide_eq_true (by omega) | (simp only [Bool.not_eq_true', decide_eq_false_iff_not, decide_eq_true_eq, Bool.not_eq_false']; omega))) | ((with_reducible apply al_guard_b (c := false)); exact rfl; exact rfl; (first | assumption | exact decide_eq_false (by omega) | (simp only [Bool.not_eq_true', decide_eq_false_iff_not, decide_eq_true_eq, Bool.not_eq_false']; omega))) | ((with_reducible apply al_bin); (iterate 5 exact rfl); (intro W; go_simp; try rfl); (intro W; go_simp; try rfl); exact rfl; exact rfl) | ((with_reducible apply al_nilS); kernel_rfl) | ((with_reducible apply awp_region_draw); kernel_rfl; kernel_rfl; exact rfl) | ((with_reducible apply awp_seq)) | ((with_reducible apply athen_normal)) | ((with_reducible apply awp_region)) | ((with_reducible apply al_nil)) | ((with_reducible apply awp_ret)) | ((with_reducible apply awp_skip)) | ((with_reducible apply athen_ret))))
    (first | (refine apost_ret rfl (resl_tmp rfl resl_nil) ?_))
    first | exact AV.Le.refl _ | exact AV.Le.of_eq (by rw [decide_eq_true h3]; rfl) | exact AV.Le.of_eq (by rw [decide_eq_false h3]; rfl)
set_option maxRecDepth 100000 in
set_option maxHeartbeats 8000000 in
theorem p_Meets' {a1 a2 b1 b2 l1 l2 h1 h2 k : Int} {o p r : Bool} {n1 d1 m1 e1 n2 d2 m2 e2 n3 d3 m3 e3 n4 d4 m4 e4 : Int} {q1 r1 q2 r2 q3 r3 q4 r4 : Bool} (R1 : PCall Try.prog 23 [vP a1 a2] (vB true)) (R2 : PCall Try.prog 23 [vP b1 b2] (vB true)) (K1 : PCall Try.prog 24 [vP l1 l2] (vB true)) (K2 : PCall Try.prog 24 [vP h1 h2] (vB true)) (K3 : PCall Try.prog 25 [vI k] (vB true))
    (eo : (!decide (k = 2)) = o) (ep : decide (k = 1) = p) (A0 : PCall Try.prog 26 [vP a1 a2, vP b1 b2] (vPart a1 a2 b1 b2 0 1 true 1 1 true))
    (C1 : PCall Try.prog 27 [vBox l1 l2 h1 h2 o p, vPart a1 a2 b1 b2 0 1 true 1 1 true] (vPart a1 a2 b1 b2 n1 d1 q1 m1 e1 r1))
    (C2 : PCall Try.prog 28 [vBox l1 l2 h1 h2 o p, vPart a1 a2 b1 b2 n1 d1 q1 m1 e1 r1] (vPart a1 a2 b1 b2 n2 d2 q2 m2 e2 r2))
    (C3 : PCall Try.prog 29 [vBox l1 l2 h1 h2 o p, vPart a1 a2 b1 b2 n2 d2 q2 m2 e2 r2] (vPart a1 a2 b1 b2 n3 d3 q3 m3 e3 r3))
    (C4 : PCall Try.prog 30 [vBox l1 l2 h1 h2 o p, vPart a1 a2 b1 b2 n3 d3 q3 m3 e3 r3] (vPart a1 a2 b1 b2 n4 d4 q4 m4 e4 r4))
    (H1 : PCall Try.prog 31 [vPart a1 a2 b1 b2 n4 d4 q4 m4 e4 r4] (vB r)) :
    PCall Try.prog 11 [vP a1 a2, vP b1 b2, vP l1 l2, vP h1 h2, vI k] (vB r) := by
  subst eo
  subst ep
  refine pcall_body (f := 11) Try.func11 rfl rfl rfl rfl ?_
  (repeat (first | ((with_reducible apply al_q); exact rfl) | ((with_reducible apply al_loadP1); (iterate 5 exact rfl)) | ((with_reducible apply al_loadPN); (iterate 5 exact rfl)) | ((with_reducible apply al_eqP); (iterate 4 exact rfl)) | ((with_reducible apply al_eqB); (iterate 4 exact rfl)) | ((with_reducible apply al_neqP); (iterate 4 exact rfl)) | ((with_reducible apply al_add); (iterate 3 exact rfl); (first | exact i64_wrap (by omega) | assumption | rfl); exact rfl) | ((with_reducible apply al_mkfn); exact rfl; exact (fun W => rfl); exact rfl) | ((with_reducible apply al_mkfnb); (iterate 4 exact rfl)) | ((with_reducible apply al_indexVN); (iterate 3 exact rfl); (first | decide | omega); (first | decide | omega); (first | assumption | rfl); exact rfl) | ((with_reducible apply al_indexV1); (iterate 3 exact rfl); (first | decide | omega); (first | decide | omega); (first | assumption | rfl); exact rfl) | ((with_reducible apply al_eqT); (iterate 4 exact rfl); kernel_rfl) | ((with_reducible apply al_neT); (iterate 4 exact rfl); kernel_rfl) | (refine al_call1 rfl rfl rfl (by (first | exact R1 | exact R2 | exact K1 | exact K2 | exact K3 | exact A0)) rfl ?_) | (refine al_call2 rfl rfl rfl rfl (by (first | exact R1 | exact R2 | exact K1 | exact K2 | exact K3 | exact A0)) rfl ?_) | (refine al_callb (bs := [_]) (args := [_]) rfl rfl rfl rfl (by (first | exact R1 | exact R2 | exact K1 | exact K2 | exact K3 | exact A0)) rfl ?_) | ((with_reducible apply al_guard_b (c := true)); exact rfl; exact rfl; (first | assumption | exact decide_eq_true (by omega) | (simp only [Bool.not_eq_true', decide_eq_false_iff_not, decide_eq_true_eq, Bool.not_eq_false']; omega))) | ((with_reducible apply al_guard_b (c := false)); exact rfl; exact rfl; (first | assumption | exact decide_eq_false (by omega) | (simp only [Bool.not_eq_true', decide_eq_false_iff_not, decide_eq_true_eq, Bool.not_eq_false']; omega))) | ((with_reducible apply al_bin); (iterate 5 exact rfl); (intro W; go_simp; try rfl); (intro W; go_simp; try rfl); exact rfl; exact rfl) | ((with_reducible apply al_un); exact rfl; exact rfl; (intro W; go_simp; try rfl); exact rfl; exact rfl) | ((with_reducible apply al_nilS); kernel_rfl) | ((with_reducible apply awp_region_draw); kernel_rfl; kernel_rfl; exact rfl) | ((with_reducible apply awp_seq)) | ((with_reducible apply athen_normal)) | ((with_reducible apply awp_region)) | ((with_reducible apply al_nil)) | ((with_reducible apply awp_ret)) | ((with_reducible apply awp_skip)) | ((with_reducible apply athen_ret)) | ((with_reducible apply awp_block)) | ((with_reducible apply ablock_normal)) | ((with_reducible apply ablock_ret)) | ((with_reducible apply ablock_same)) | ((with_reducible apply awp_exit)) | ((with_reducible apply athen_exit)) | ((with_reducible apply roll_succ)) | ((with_reducible apply ablock_ne); exact rfl) | ((with_reducible apply awp_cond_t); exact rfl) | ((with_reducible apply awp_cond_f); exact rfl) | ((with_reducible apply awp_cond_1); exact rfl; (first | assumption | exact decide_eq_true (by omega) | (simp only [Bool.not_eq_true', decide_eq_false_iff_not, decide_eq_true_eq, Bool.not_eq_false']; omega))) | ((with_reducible apply awp_cond_0); exact rfl; (first | assumption | exact decide_eq_false (by omega) | (simp only [Bool.not_eq_true', decide_eq_false_iff_not, decide_eq_true_eq, Bool.not_eq_false']; omega)))))
  refine awp_roll 5 ?_
  (repeat (first | ((with_reducible apply al_q); exact rfl) | ((with_reducible apply al_loadP1); (iterate 5 exact rfl)) | ((with_reducible apply al_loadPN); (iterate 5 exact rfl)) | ((with_reducible apply al_eqP); (iterate 4 exact rfl)) | ((with_reducible apply al_eqB); (iterate 4 exact rfl)) | ((with_reducible apply al_neqP); (iterate 4 exact rfl)) | ((with_reducible apply al_add); (iterate 3 exact rfl); (first | exact i64_wrap (by omega) | assumption | rfl); exact rfl) | ((with_reducible apply al_mkfn); exact rfl; exact (fun W => rfl); exact rfl) | ((with_reducible apply al_mkfnb); (iterate 4 exact rfl)) | ((with_reducible apply al_indexVN); (iterate 3 exact rfl); (first | decide | omega); (first | decide | omega); (first | assumption | rfl); exact rfl) | ((with_reducible apply al_indexV1); (iterate 3 exact rfl); (first | decide | omega); (first | decide | omega); (first | assumption | rfl); exact rfl) | ((with_reducible apply al_eqT); (iterate 4 exact rfl); kernel_rfl) | ((with_reducible apply al_neT); (iterate 4 exact rfl); kernel_rfl) | (refine al_call1 rfl rfl rfl (by (first | exact C1 | exact C2 | exact C3 | exact C4 | exact H1)) rfl ?_) | (refine al_call2 rfl rfl rfl rfl (by (first | exact C1 | exact C2 | exact C3 | exact C4 | exact H1)) rfl ?_) | (refine al_callb (bs := [_]) (args := [_]) rfl rfl rfl rfl (by (first | exact C1 | exact C2 | exact C3 | exact C4 | exact H1)) rfl ?_) | ((with_reducible apply al_guard_b (c := true)); exact rfl; exact rfl; (first | assumption | exact decide_eq_true (by omega) | (simp only [Bool.not_eq_true', decide_eq_false_iff_not, decide_eq_true_eq, Bool.not_eq_false']; omega))) | ((with_reducible apply al_guard_b (c := false)); exact rfl; exact rfl; (first | assumption | exact decide_eq_false (by omega) | (simp only [Bool.not_eq_true', decide_eq_false_iff_not, decide_eq_true_eq, Bool.not_eq_false']; omega))) | ((with_reducible apply al_bin); (iterate 5 exact rfl); (intro W; go_simp; try rfl); (intro W; go_simp; try rfl); exact rfl; exact rfl) | ((with_reducible apply al_un); exact rfl; exact rfl; (intro W; go_simp; try rfl); exact rfl; exact rfl) | ((with_reducible apply al_nilS); kernel_rfl) | ((with_reducible apply awp_region_draw); kernel_rfl; kernel_rfl; exact rfl) | ((with_reducible apply awp_seq)) | ((with_reducible apply athen_normal)) | ((with_reducible apply awp_region)) | ((with_reducible apply al_nil)) | ((with_reducible apply awp_ret)) | ((with_reducible apply awp_skip)) | ((with_reducible apply athen_ret)) | ((with_reducible apply awp_block)) | ((with_reducible apply ablock_normal)) | ((with_reducible apply ablock_ret)) | ((with_reducible apply ablock_same)) | ((with_reducible apply awp_exit)) | ((with_reducible apply athen_exit)) | ((with_reducible apply roll_succ)) | ((with_reducible apply ablock_ne); exact rfl) | ((with_reducible apply awp_cond_t); exact rfl) | ((with_reducible apply awp_cond_f); exact rfl) | ((with_reducible apply awp_cond_1); exact rfl; (first | assumption | exact decide_eq_true (by omega) | (simp only [Bool.not_eq_true', decide_eq_false_iff_not, decide_eq_true_eq, Bool.not_eq_false']; omega))) | ((with_reducible apply awp_cond_0); exact rfl; (first | assumption | exact decide_eq_false (by omega) | (simp only [Bool.not_eq_true', decide_eq_false_iff_not, decide_eq_true_eq, Bool.not_eq_false']; omega)))))
  (first | (refine apost_ret rfl (resl_tmp rfl resl_nil) ?_))
  exact AV.Le.refl _
end Go.Proofs.Ytfcehanpmbeegaa
