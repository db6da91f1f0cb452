/-
  Contracts of package pixel: bounds of a segment's way, cuts, and whether a segment has a place in a box. My own text.
-/
import Derived.Test.YtfcehanpmbeegaaAbsQ
import Derived.Test.YtfcehanpmbeegaaAbsV
import Derived.Test.YtfcehanpmbeegaaPixM
import Derived.Test.YtfcehanpmbeegaaCrossR
namespace Go.Proofs.Ytfcehanpmbeegaa
open Go.RowKit
set_option linter.unusedVariables false
set_option linter.unusedSimpArgs false
theorem p_Compare {n m : Int} : PCall Try.prog 63 [vI n, vI m] (vI (icmp n m)) :=
  pcall_ev [.int .i64 n, .int .i64 m] (.int .i64 (icmp n m)) rfl rfl rfl rfl rfl fun W => Compare_any n m W
/-- a bound, as a value. -/
abbrev vBd (n d : Int) (o : Bool) : AV := .w (.agg [.c (.int .i64 n), .c (.int .i64 d), .c (.bool o)])
abbrev vBdB (x : Bd) : AV := vBd x.n x.d x.own
/-- numbers small enough for products. -/
def BdOK (x : Bd) : Prop := (-2000000000 ≤ x.n ∧ x.n ≤ 2000000000) ∧ 0 < x.d ∧ x.d ≤ 2000000000
theorem mul_bd2 {x y : Int} (h1 : -2000000000 ≤ x) (h2 : x ≤ 2000000000) (h3 : 0 ≤ y) (h4 : y ≤ 2000000000) : -4000000000000000000 ≤ x * y ∧ x * y ≤ 4000000000000000000 := by
  have a1 : x * y ≤ 2000000000 * y := Int.mul_le_mul_of_nonneg_right h2 h3
  have a2 : -2000000000 * y ≤ x * y := Int.mul_le_mul_of_nonneg_right h1 h3
  omega
theorem bd_wrap {x y : Bd} (hx : BdOK x) (hy : BdOK y) : IntKind.i64.wrap (x.n * y.d) = x.n * y.d := by
  obtain ⟨⟨a1, a2⟩, a3, a4⟩ := hx
  obtain ⟨⟨b1, b2⟩, b3, b4⟩ := hy
  have := mul_bd2 a1 a2 (by omega : (0 : Int) ≤ y.d) b4
  exact i64_wrap (by omega)
set_option maxRecDepth 100000 in
set_option maxHeartbeats 4000000 in
theorem p_xcompare' {n d m e c : Int} {o q : Bool} (C1 : PCall Try.prog 63 [vI (n * e), vI (m * d)] (vI c)) (w1 : IntKind.i64.wrap (n * e) = n * e) (w2 : IntKind.i64.wrap (m * d) = m * d) : PCall Try.prog 49 [vBd n d o, vBd m e q] (vI c) := by
  refine pcall_body (f := 49) Try.func49 rfl rfl rfl rfl ?_
  (repeat (first | ((with_reducible apply al_q); exact rfl) | ((with_reducible apply al_mul); (iterate 3 exact rfl); (first | exact i64_wrap (by omega) | assumption | rfl); exact rfl) | (refine al_call2 rfl rfl rfl rfl (by (first | exact C1)) rfl ?_) | ((with_reducible apply al_bin); (iterate 5 exact rfl); (intro W; go_simp; try rfl); (intro W; go_simp; try rfl); exact rfl; exact rfl) | ((with_reducible apply awp_seq)) | ((with_reducible apply athen_normal)) | ((with_reducible apply awp_region)) | ((with_reducible apply al_nil)) | ((with_reducible apply awp_ret)) | ((with_reducible apply awp_skip)) | ((with_reducible apply athen_ret))))
  (first | (refine apost_ret rfl (resl_tmp rfl resl_nil) ?_))
  exact AV.Le.refl _
theorem p_xcompare {x y : Bd} (hx : BdOK x) (hy : BdOK y) : PCall Try.prog 49 [vBdB x, vBdB y] (vI (cmB x y)) :=
  p_xcompare' p_Compare (bd_wrap hx hy) (bd_wrap hy hx)
set_option maxRecDepth 100000 in
set_option maxHeartbeats 4000000 in
theorem p_later' {n d m e c : Int} {o q : Bool} {r1 r2 : Int} {r3 : Bool} (C1 : PCall Try.prog 49 [vBd n d o, vBd m e q] (vI c)) (cs : (0 < c ∧ r1 = n ∧ r2 = d ∧ r3 = o) ∨ (¬ 0 < c ∧ c = 0 ∧ q = true ∧ r1 = n ∧ r2 = d ∧ r3 = o) ∨ (¬ 0 < c ∧ c = 0 ∧ q = false ∧ r1 = m ∧ r2 = e ∧ r3 = q) ∨ (¬ 0 < c ∧ ¬ c = 0 ∧ r1 = m ∧ r2 = e ∧ r3 = q)) : PCall Try.prog 61 [vBd n d o, vBd m e q] (vBd r1 r2 r3) := by
  rcases cs with ⟨q1, rfl, rfl, rfl⟩ | ⟨q1, q2, rfl, rfl, rfl, rfl⟩ | ⟨q1, q2, rfl, rfl, rfl, rfl⟩ | ⟨q1, q2, rfl, rfl, rfl⟩
  all_goals
    refine pcall_body (f := 61) Try.func61 rfl rfl rfl rfl ?_
    (repeat (first | ((with_reducible apply al_q); exact rfl) | ((with_reducible apply al_eqP); (iterate 4 exact rfl)) | ((with_reducible apply al_eqB); (iterate 4 exact rfl)) | (refine al_call2 rfl rfl rfl rfl (by (first | exact C1)) rfl ?_) | ((with_reducible apply al_guard_b (c := true)); exact rfl; exact rfl; (first | assumption | exact decide_eq_true (by omega) | (simp only [Bool.not_eq_true', decide_eq_false_iff_not, decide_eq_true_eq, Bool.not_eq_false']; omega))) | ((with_reducible apply al_guard_b (c := false)); exact rfl; exact rfl; (first | assumption | exact decide_eq_false (by omega) | (simp only [Bool.not_eq_true', decide_eq_false_iff_not, decide_eq_true_eq, Bool.not_eq_false']; omega))) | ((with_reducible apply al_bin); (iterate 5 exact rfl); (intro W; go_simp; try rfl); (intro W; go_simp; try rfl); exact rfl; exact rfl) | ((with_reducible apply al_nilS); kernel_rfl) | ((with_reducible apply awp_region_draw); kernel_rfl; kernel_rfl; exact rfl) | ((with_reducible apply awp_seq)) | ((with_reducible apply athen_normal)) | ((with_reducible apply awp_region)) | ((with_reducible apply al_nil)) | ((with_reducible apply awp_ret)) | ((with_reducible apply awp_skip)) | ((with_reducible apply athen_ret)) | ((with_reducible apply awp_cond_t); exact rfl) | ((with_reducible apply awp_cond_f); exact rfl) | ((with_reducible apply awp_cond_1); exact rfl; (first | assumption | exact decide_eq_true (by omega) | (simp only [Bool.not_eq_true', decide_eq_false_iff_not, decide_eq_true_eq, Bool.not_eq_false']; omega))) | ((with_reducible apply awp_cond_0); exact rfl; (first | assumption | exact decide_eq_false (by omega) | (simp only [Bool.not_eq_true', decide_eq_false_iff_not, decide_eq_true_eq, Bool.not_eq_false']; omega)))))
    (first | (refine apost_ret rfl (resl_agg rfl rfl rfl resl_nil) ?_) | (refine apost_ret rfl (resl_one rfl rfl rfl resl_nil) ?_))
    exact AV.Le.refl _
theorem p_later {x y : Bd} (hx : BdOK x) (hy : BdOK y) : PCall Try.prog 61 [vBdB x, vBdB y] (vBdB (laB x y)) := by
  refine p_later' (p_xcompare hx hy) ?_
  rcases la_cases x y with ⟨e, h⟩ | ⟨e, h⟩ <;> rw [e]
  · by_cases h1 : 0 < cmB x y
    · exact .inl ⟨h1, rfl, rfl, rfl⟩
    · rcases h with h | ⟨h, k⟩
      · exact absurd h h1
      · exact .inr (.inl ⟨h1, h, k, rfl, rfl, rfl⟩)
  · have h1 : ¬ 0 < cmB x y := fun k => h (.inl k)
    by_cases h2 : cmB x y = 0
    · refine .inr (.inr (.inl ⟨h1, h2, ?_, rfl, rfl, rfl⟩))
      cases hy : y.own with
      | false => rfl
      | true => exact absurd (.inr ⟨h2, hy⟩) h
    · exact .inr (.inr (.inr ⟨h1, h2, rfl, rfl, rfl⟩))
set_option maxRecDepth 100000 in
set_option maxHeartbeats 4000000 in
theorem p_earlier' {n d m e c : Int} {o q : Bool} {r1 r2 : Int} {r3 : Bool} (C1 : PCall Try.prog 49 [vBd n d o, vBd m e q] (vI c)) (cs : (c < 0 ∧ r1 = n ∧ r2 = d ∧ r3 = o) ∨ (¬ c < 0 ∧ c = 0 ∧ q = true ∧ r1 = n ∧ r2 = d ∧ r3 = o) ∨ (¬ c < 0 ∧ c = 0 ∧ q = false ∧ r1 = m ∧ r2 = e ∧ r3 = q) ∨ (¬ c < 0 ∧ ¬ c = 0 ∧ r1 = m ∧ r2 = e ∧ r3 = q)) : PCall Try.prog 62 [vBd n d o, vBd m e q] (vBd r1 r2 r3) := by
  rcases cs with ⟨q1, rfl, rfl, rfl⟩ | ⟨q1, q2, rfl, rfl, rfl, rfl⟩ | ⟨q1, q2, rfl, rfl, rfl, rfl⟩ | ⟨q1, q2, rfl, rfl, rfl⟩
  all_goals
    refine pcall_body (f := 62) Try.func62 rfl rfl rfl rfl ?_
    (repeat (first | ((with_reducible apply al_q); exact rfl) | ((with_reducible apply al_eqP); (iterate 4 exact rfl)) | ((with_reducible apply al_eqB); (iterate 4 exact rfl)) | (refine al_call2 rfl rfl rfl rfl (by (first | exact C1)) rfl ?_) | ((with_reducible apply al_guard_b (c := true)); exact rfl; exact rfl; (first | assumption | exact decide_eq_true (by omega) | (simp only [Bool.not_eq_true', decide_eq_false_iff_not, decide_eq_true_eq, Bool.not_eq_false']; omega))) | ((with_reducible apply al_guard_b (c := false)); exact rfl; exact rfl; (first | assumption | exact decide_eq_false (by omega) | (simp only [Bool.not_eq_true', decide_eq_false_iff_not, decide_eq_true_eq, Bool.not_eq_false']; omega))) | ((with_reducible apply al_bin); (iterate 5 exact rfl); (intro W; go_simp; try rfl); (intro W; go_simp; try rfl); exact rfl; exact rfl) | ((with_reducible apply al_nilS); kernel_rfl) | ((with_reducible apply awp_region_draw); kernel_rfl; kernel_rfl; exact rfl) | ((with_reducible apply awp_seq)) | ((with_reducible apply athen_normal)) | ((with_reducible apply awp_region)) | ((with_reducible apply al_nil)) | ((with_reducible apply awp_ret)) | ((with_reducible apply awp_skip)) | ((with_reducible apply athen_ret)) | ((with_reducible apply awp_cond_t); exact rfl) | ((with_reducible apply awp_cond_f); exact rfl) | ((with_reducible apply awp_cond_1); exact rfl; (first | assumption | exact decide_eq_true (by omega) | (simp only [Bool.not_eq_true', decide_eq_false_iff_not, decide_eq_true_eq, Bool.not_eq_false']; omega))) | ((with_reducible apply awp_cond_0); exact rfl; (first | assumption | exact decide_eq_false (by omega) | (simp only [Bool.not_eq_true', decide_eq_false_iff_not, decide_eq_true_eq, Bool.not_eq_false']; omega)))))
    (first | (refine apost_ret rfl (resl_agg rfl rfl rfl resl_nil) ?_) | (refine apost_ret rfl (resl_one rfl rfl rfl resl_nil) ?_))
    exact AV.Le.refl _
theorem p_earlier {x y : Bd} (hx : BdOK x) (hy : BdOK y) : PCall Try.prog 62 [vBdB x, vBdB y] (vBdB (eaB x y)) := by
  refine p_earlier' (p_xcompare hx hy) ?_
  rcases ea_cases x y with ⟨e, h⟩ | ⟨e, h⟩ <;> rw [e]
  · by_cases h1 : cmB x y < 0
    · exact .inl ⟨h1, rfl, rfl, rfl⟩
    · rcases h with h | ⟨h, k⟩
      · exact absurd h h1
      · exact .inr (.inl ⟨h1, h, k, rfl, rfl, rfl⟩)
  · have h1 : ¬ cmB x y < 0 := fun k => h (.inl k)
    by_cases h2 : cmB x y = 0
    · refine .inr (.inr (.inl ⟨h1, h2, ?_, rfl, rfl, rfl⟩))
      cases hy : y.own with
      | false => rfl
      | true => exact absurd (.inr ⟨h2, hy⟩) h
    · exact .inr (.inr (.inr ⟨h1, h2, rfl, rfl, rfl⟩))
/-- what is left of a segment, as a value. -/
abbrev vPart (a1 a2 b1 b2 n d : Int) (o : Bool) (m e : Int) (q : Bool) : AV := .w (.agg [.c (.int .i64 a1), .c (.int .i64 a2), .c (.int .i64 b1), .c (.int .i64 b2), .c (.int .i64 n), .c (.int .i64 d), .c (.bool o), .c (.int .i64 m), .c (.int .i64 e), .c (.bool q)])
abbrev vPaB (a1 a2 b1 b2 : Int) (p : Pa) : AV := vPart a1 a2 b1 b2 p.f.n p.f.d p.f.own p.t.n p.t.d p.t.own
def PaOK (p : Pa) : Prop := BdOK p.f ∧ BdOK p.t
set_option maxRecDepth 100000 in
set_option maxHeartbeats 4000000 in
theorem p_keep' {a1 a2 b1 b2 n d m e u v : Int} {o q w : Bool} {n' d' m' e' : Int} {o' q' : Bool} (hu : -1100000000 ≤ u ∧ u ≤ 1100000000) (hv : -1100000000 ≤ v ∧ v ≤ 1100000000)
    (cs : (0 < v - u ∧ PCall Try.prog 61 [vBd n d o, vBd (-u) (v - u) w] (vBd n' d' o') ∧ m' = m ∧ e' = e ∧ q' = q) ∨ (¬ 0 < v - u ∧ v - u < 0 ∧ PCall Try.prog 62 [vBd m e q, vBd u (-(v - u)) w] (vBd m' e' q') ∧ n' = n ∧ d' = d ∧ o' = o)
      ∨ (¬ 0 < v - u ∧ ¬ v - u < 0 ∧ u < 0 ∧ n' = 1 ∧ d' = 1 ∧ o' = false ∧ m' = 0 ∧ e' = 1 ∧ q' = false) ∨ (¬ 0 < v - u ∧ ¬ v - u < 0 ∧ ¬ u < 0 ∧ u = 0 ∧ w = false ∧ n' = 1 ∧ d' = 1 ∧ o' = false ∧ m' = 0 ∧ e' = 1 ∧ q' = false)
      ∨ (¬ 0 < v - u ∧ ¬ v - u < 0 ∧ ¬ u < 0 ∧ u = 0 ∧ w = true ∧ n' = n ∧ d' = d ∧ o' = o ∧ m' = m ∧ e' = e ∧ q' = q) ∨ (¬ 0 < v - u ∧ ¬ v - u < 0 ∧ ¬ u < 0 ∧ ¬ u = 0 ∧ n' = n ∧ d' = d ∧ o' = o ∧ m' = m ∧ e' = e ∧ q' = q)) :
    PCall Try.prog 48 [vPart a1 a2 b1 b2 n d o m e q, vI u, vI v, vB w] (vPart a1 a2 b1 b2 n' d' o' m' e' q') := by
  rcases cs with ⟨q1, C1, rfl, rfl, rfl⟩ | ⟨q1, q2, C1, rfl, rfl, rfl⟩ | ⟨q1, q2, q3, rfl, rfl, rfl, rfl, rfl, rfl⟩ | ⟨q1, q2, q3, q4, rfl, rfl, rfl, rfl, rfl, rfl, rfl⟩ | ⟨q1, q2, q3, q4, rfl, rfl, rfl, rfl, rfl, rfl, rfl⟩ | ⟨q1, q2, q3, q4, rfl, rfl, rfl, rfl, rfl, rfl⟩
  · refine pcall_body (f := 48) Try.func48 rfl rfl rfl rfl ?_
    (repeat (first | ((with_reducible apply al_q); exact rfl) | ((with_reducible apply al_eqP); (iterate 4 exact rfl)) | ((with_reducible apply al_eqB); (iterate 4 exact rfl)) | ((with_reducible apply al_sub); (iterate 3 exact rfl); (first | exact i64_wrap (by omega) | assumption | rfl); exact rfl) | ((with_reducible apply al_neg); exact rfl; exact rfl; (first | exact i64_wrap (by omega) | assumption | rfl); exact rfl) | (refine al_call2 rfl rfl rfl rfl (by (first | exact C1)) rfl ?_) | ((with_reducible apply al_guard_b (c := true)); exact rfl; exact rfl; (first | assumption | exact decide_eq_true (by omega) | (simp only [Bool.not_eq_true', decide_eq_false_iff_not, decide_eq_true_eq, Bool.not_eq_false']; omega))) | ((with_reducible apply al_guard_b (c := false)); exact rfl; exact rfl; (first | assumption | exact decide_eq_false (by omega) | (simp only [Bool.not_eq_true', decide_eq_false_iff_not, decide_eq_true_eq, Bool.not_eq_false']; omega))) | ((with_reducible apply al_bin); (iterate 5 exact rfl); (intro W; go_simp; try rfl); (intro W; go_simp; try rfl); exact rfl; exact rfl) | ((with_reducible apply al_un); exact rfl; exact rfl; (intro W; go_simp; try rfl); exact rfl; exact rfl) | ((with_reducible apply al_nilS); kernel_rfl) | ((with_reducible apply awp_region_draw); kernel_rfl; kernel_rfl; exact rfl) | ((with_reducible apply awp_seq)) | ((with_reducible apply athen_normal)) | ((with_reducible apply awp_region)) | ((with_reducible apply al_nil)) | ((with_reducible apply awp_ret)) | ((with_reducible apply awp_skip)) | ((with_reducible apply athen_ret)) | ((with_reducible apply awp_block)) | ((with_reducible apply ablock_normal)) | ((with_reducible apply ablock_ret)) | ((with_reducible apply ablock_same)) | ((with_reducible apply ablock_ne); exact rfl) | ((with_reducible apply awp_cond_t); exact rfl) | ((with_reducible apply awp_cond_f); exact rfl) | ((with_reducible apply awp_cond_1); exact rfl; (first | assumption | exact decide_eq_true (by omega) | (simp only [Bool.not_eq_true', decide_eq_false_iff_not, decide_eq_true_eq, Bool.not_eq_false']; omega))) | ((with_reducible apply awp_cond_0); exact rfl; (first | assumption | exact decide_eq_false (by omega) | (simp only [Bool.not_eq_true', decide_eq_false_iff_not, decide_eq_true_eq, Bool.not_eq_false']; omega)))))
    (first | (refine apost_ret rfl (resl_agg rfl rfl rfl resl_nil) ?_) | (refine apost_ret rfl (resl_one rfl rfl rfl resl_nil) ?_))
    exact AV.Le.refl _
  · refine pcall_body (f := 48) Try.func48 rfl rfl rfl rfl ?_
    (repeat (first | ((with_reducible apply al_q); exact rfl) | ((with_reducible apply al_eqP); (iterate 4 exact rfl)) | ((with_reducible apply al_eqB); (iterate 4 exact rfl)) | ((with_reducible apply al_sub); (iterate 3 exact rfl); (first | exact i64_wrap (by omega) | assumption | rfl); exact rfl) | ((with_reducible apply al_neg); exact rfl; exact rfl; (first | exact i64_wrap (by omega) | assumption | rfl); exact rfl) | (refine al_call2 rfl rfl rfl rfl (by (first | exact C1)) rfl ?_) | ((with_reducible apply al_guard_b (c := true)); exact rfl; exact rfl; (first | assumption | exact decide_eq_true (by omega) | (simp only [Bool.not_eq_true', decide_eq_false_iff_not, decide_eq_true_eq, Bool.not_eq_false']; omega))) | ((with_reducible apply al_guard_b (c := false)); exact rfl; exact rfl; (first | assumption | exact decide_eq_false (by omega) | (simp only [Bool.not_eq_true', decide_eq_false_iff_not, decide_eq_true_eq, Bool.not_eq_false']; omega))) | ((with_reducible apply al_bin); (iterate 5 exact rfl); (intro W; go_simp; try rfl); (intro W; go_simp; try rfl); exact rfl; exact rfl) | ((with_reducible apply al_un); exact rfl; exact rfl; (intro W; go_simp; try rfl); exact rfl; exact rfl) | ((with_reducible apply al_nilS); kernel_rfl) | ((with_reducible apply awp_region_draw); kernel_rfl; kernel_rfl; exact rfl) | ((with_reducible apply awp_seq)) | ((with_reducible apply athen_normal)) | ((with_reducible apply awp_region)) | ((with_reducible apply al_nil)) | ((with_reducible apply awp_ret)) | ((with_reducible apply awp_skip)) | ((with_reducible apply athen_ret)) | ((with_reducible apply awp_block)) | ((with_reducible apply ablock_normal)) | ((with_reducible apply ablock_ret)) | ((with_reducible apply ablock_same)) | ((with_reducible apply ablock_ne); exact rfl) | ((with_reducible apply awp_cond_t); exact rfl) | ((with_reducible apply awp_cond_f); exact rfl) | ((with_reducible apply awp_cond_1); exact rfl; (first | assumption | exact decide_eq_true (by omega) | (simp only [Bool.not_eq_true', decide_eq_false_iff_not, decide_eq_true_eq, Bool.not_eq_false']; omega))) | ((with_reducible apply awp_cond_0); exact rfl; (first | assumption | exact decide_eq_false (by omega) | (simp only [Bool.not_eq_true', decide_eq_false_iff_not, decide_eq_true_eq, Bool.not_eq_false']; omega)))))
    (first | (refine apost_ret rfl (resl_agg rfl rfl rfl resl_nil) ?_) | (refine apost_ret rfl (resl_one rfl rfl rfl resl_nil) ?_))
    exact AV.Le.refl _
  all_goals
    refine pcall_body (f := 48) Try.func48 rfl rfl rfl rfl ?_
    (repeat (first | ((with_reducible apply al_q); exact rfl) | ((with_reducible apply al_eqP); (iterate 4 exact rfl)) | ((with_reducible apply al_eqB); (iterate 4 exact rfl)) | ((with_reducible apply al_sub); (iterate 3 exact rfl); (first | exact i64_wrap (by omega) | assumption | rfl); exact rfl) | ((with_reducible apply al_neg); exact rfl; exact rfl; (first | exact i64_wrap (by omega) | assumption | rfl); exact rfl) | (refine al_call2 rfl rfl rfl rfl (by fail) rfl ?_) | ((with_reducible apply al_guard_b (c := true)); exact rfl; exact rfl; (first | assumption | exact decide_eq_true (by omega) | (simp only [Bool.not_eq_true', decide_eq_false_iff_not, decide_eq_true_eq, Bool.not_eq_false']; omega))) | ((with_reducible apply al_guard_b (c := false)); exact rfl; exact rfl; (first | assumption | exact decide_eq_false (by omega) | (simp only [Bool.not_eq_true', decide_eq_false_iff_not, decide_eq_true_eq, Bool.not_eq_false']; omega))) | ((with_reducible apply al_bin); (iterate 5 exact rfl); (intro W; go_simp; try rfl); (intro W; go_simp; try rfl); exact rfl; exact rfl) | ((with_reducible apply al_un); exact rfl; exact rfl; (intro W; go_simp; try rfl); exact rfl; exact rfl) | ((with_reducible apply al_nilS); kernel_rfl) | ((with_reducible apply awp_region_draw); kernel_rfl; kernel_rfl; exact rfl) | ((with_reducible apply awp_seq)) | ((with_reducible apply athen_normal)) | ((with_reducible apply awp_region)) | ((with_reducible apply al_nil)) | ((with_reducible apply awp_ret)) | ((with_reducible apply awp_skip)) | ((with_reducible apply athen_ret)) | ((with_reducible apply awp_block)) | ((with_reducible apply ablock_normal)) | ((with_reducible apply ablock_ret)) | ((with_reducible apply ablock_same)) | ((with_reducible apply ablock_ne); exact rfl) | ((with_reducible apply awp_cond_t); exact rfl) | ((with_reducible apply awp_cond_f); exact rfl) | ((with_reducible apply awp_cond_1); exact rfl; (first | assumption | exact decide_eq_true (by omega) | (simp only [Bool.not_eq_true', decide_eq_false_iff_not, decide_eq_true_eq, Bool.not_eq_false']; omega))) | ((with_reducible apply awp_cond_0); exact rfl; (first | assumption | exact decide_eq_false (by omega) | (simp only [Bool.not_eq_true', decide_eq_false_iff_not, decide_eq_true_eq, Bool.not_eq_false']; omega)))))
    (first | (refine apost_ret rfl (resl_agg rfl rfl rfl resl_nil) ?_) | (refine apost_ret rfl (resl_one rfl rfl rfl resl_nil) ?_))
    exact AV.Le.refl _
theorem la_ok {x y : Bd} (hx : BdOK x) (hy : BdOK y) : BdOK (laB x y) := by unfold laB; split <;> assumption
theorem ea_ok {x y : Bd} (hx : BdOK x) (hy : BdOK y) : BdOK (eaB x y) := by unfold eaB; split <;> assumption
theorem kp_ok {p : Pa} {u v : Int} {w : Bool} (hp : PaOK p) (hu : -900000000 ≤ u ∧ u ≤ 900000000) (hv : -900000000 ≤ v ∧ v ≤ 900000000) : PaOK (kpB p u v w) := by
  unfold kpB
  by_cases h1 : 0 < v - u
  · rw [if_pos h1]; exact ⟨la_ok hp.1 ⟨by simp only; omega, by simp only; omega⟩, hp.2⟩
  · rw [if_neg h1]
    by_cases h2 : v - u < 0
    · rw [if_pos h2]; exact ⟨hp.1, ea_ok hp.2 ⟨by simp only; omega, by simp only; omega⟩⟩
    · rw [if_neg h2]
      split
      · exact ⟨⟨by decide, by decide⟩, ⟨by decide, by decide⟩⟩
      · exact hp
theorem p_keep {a1 a2 b1 b2 u v : Int} {w : Bool} {p : Pa} (hp : PaOK p) (hu : -900000000 ≤ u ∧ u ≤ 900000000) (hv : -900000000 ≤ v ∧ v ≤ 900000000) : PCall Try.prog 48 [vPaB a1 a2 b1 b2 p, vI u, vI v, vB w] (vPaB a1 a2 b1 b2 (kpB p u v w)) := by
  refine p_keep' (by omega) (by omega) ?_
  unfold kpB
  by_cases h1 : 0 < v - u
  · rw [if_pos h1]
    exact .inl ⟨h1, p_later hp.1 (y := ⟨-u, v - u, w⟩) ⟨by simp only; omega, by simp only; omega⟩, rfl, rfl, rfl⟩
  · rw [if_neg h1]
    by_cases h2 : v - u < 0
    · rw [if_pos h2]
      exact .inr (.inl ⟨h1, h2, p_earlier hp.2 (y := ⟨u, -(v - u), w⟩) ⟨by simp only; omega, by simp only; omega⟩, rfl, rfl, rfl⟩)
    · rw [if_neg h2]
      by_cases h3 : u < 0
      · rw [if_pos (.inl h3)]
        exact .inr (.inr (.inl ⟨h1, h2, h3, rfl, rfl, rfl, rfl, rfl, rfl⟩))
      · by_cases h4 : u = 0
        · cases w with
          | false => rw [if_pos (.inr ⟨h4, rfl⟩)]; exact .inr (.inr (.inr (.inl ⟨h1, h2, h3, h4, rfl, rfl, rfl, rfl, rfl, rfl, rfl⟩)))
          | true => rw [if_neg (by simp [h3])]; exact .inr (.inr (.inr (.inr (.inl ⟨h1, h2, h3, h4, rfl, rfl, rfl, rfl, rfl, rfl, rfl⟩))))
        · rw [if_neg (by simp [h3, h4])]
          exact .inr (.inr (.inr (.inr (.inr ⟨h1, h2, h3, h4, rfl, rfl, rfl, rfl, rfl, rfl⟩))))
end Go.Proofs.Ytfcehanpmbeegaa
