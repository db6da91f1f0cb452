/-
  Package grid, the reference package of layer 3, and the statements' own calls, by values. My own text.
-/
import Derived.Test.YtfcehanpmbeegaaAbsO
import Derived.Test.YtfcehanpmbeegaaGridA
namespace Go.Proofs.Ytfcehanpmbeegaa
open Go.RowKit
set_option linter.unusedVariables false
set_option linter.unusedSimpArgs false
theorem p_rung {k : Int} {r : Nat} (h : IsR k r) : PCall Try.prog 59 [vI k] (vI r) :=
  pcall_ev [.int .i64 k] (.int .i64 r) rfl rfl rfl rfl rfl fun W => nearestRung_any k r W h
theorem p_gSnap {v k : Int} {r : Nat} (h : IsR k r) (v0 : -9223372036854775808 ≤ v) (v1 : v < 9223372036854775808) : PCall Try.prog 42 [vI v, vI k] (vI (gsn v r)) :=
  pcall_ev [.int .i64 v, .int .i64 k] (.int .i64 (gsn v r)) rfl rfl rfl rfl rfl fun W => gSnap_any v k r W h v0 v1
theorem p_side {k : Int} {r : Nat} (h : IsR k r) : PCall Try.prog 44 [vI k] (vI (2 ^ r)) :=
  pcall_ev [.int .i64 k] (.int .i64 (2 ^ r)) rfl rfl rfl rfl rfl fun W => side_any k r W h
theorem p_gRight {k : Int} : PCall Try.prog 39 [vI k] (vB (decide (0 ≤ k) && decide (k ≤ 28))) :=
  pcall_ev [.int .i64 k] (.bool (decide (0 ≤ k) && decide (k ≤ 28))) rfl rfl rfl rfl rfl fun W => gRight_any k W
theorem p_In {x y k : Int} {r : Nat} {b : Bool} (h : IsR k r) (hb : inB r x y = b) : PCall Try.prog 22 [vP x y, vI k] (vB b) := by
  subst hb
  exact pcall_ev [.agg #[.int .i64 x, .int .i64 y], .int .i64 k] (.bool (inB r x y)) rfl rfl rfl rfl rfl fun W => In_any x y k r W h
set_option maxRecDepth 100000 in
set_option maxHeartbeats 4000000 in
theorem p_gOf {x y k : Int} {r : Nat} (h : IsR k r) (x0 : -9223372036854775808 ≤ x) (x1 : x < 9223372036854775808) (y0 : -9223372036854775808 ≤ y) (y1 : y < 9223372036854775808) : PCall Try.prog 20 [vP x y, vI k] (vP (gsn x r) (gsn y r)) := by
  refine pcall_body (f := 20) Try.func20 rfl rfl rfl rfl ?_
  (repeat (first | ((with_reducible apply al_q); exact rfl) | (refine al_call2 rfl rfl rfl rfl (by (first | exact p_gSnap h x0 x1 | exact p_gSnap h y0 y1)) rfl ?_) | ((with_reducible apply al_nilS); kernel_rfl) | ((with_reducible apply awp_region_draw); kernel_rfl; kernel_rfl; exact rfl) | ((with_reducible apply awp_seq)) | ((with_reducible apply athen_normal)) | ((with_reducible apply awp_region)) | ((with_reducible apply al_nil)) | ((with_reducible apply awp_ret)) | ((with_reducible apply awp_skip)) | ((with_reducible apply athen_ret))))
  (first | (refine apost_ret rfl (resl_agg rfl rfl rfl resl_nil) ?_) | (refine apost_ret rfl (resl_one rfl rfl rfl resl_nil) ?_))
  exact AV.Le.refl _
set_option maxRecDepth 100000 in
set_option maxHeartbeats 4000000 in
theorem p_Center_f {x y k : Int} {r : Nat} (h : IsR k r) (hb : inB r x y = false) : PCall Try.prog 43 [vP x y, vI k] (vP 0 0) := by
  refine pcall_body (f := 43) Try.func43 rfl rfl rfl rfl ?_
  (repeat (first | ((with_reducible apply al_q); exact rfl) | ((with_reducible apply al_mul); (iterate 3 exact rfl); (first | exact i64_wrap (by omega) | assumption | rfl); exact rfl) | (refine al_call1 rfl rfl rfl (by (first | exact p_In h hb)) rfl ?_) | (refine al_call2 rfl rfl rfl rfl (by (first | exact p_In h hb)) rfl ?_) | ((with_reducible apply al_bin); (iterate 5 exact rfl); (intro W; go_simp; try rfl); (intro W; go_simp; try rfl); exact rfl; exact rfl) | ((with_reducible apply al_un); exact rfl; exact rfl; (intro W; go_simp; try rfl); exact rfl; exact rfl) | ((with_reducible apply awp_seq)) | ((with_reducible apply athen_normal)) | ((with_reducible apply awp_region)) | ((with_reducible apply al_nil)) | ((with_reducible apply awp_ret)) | ((with_reducible apply awp_skip)) | ((with_reducible apply athen_ret)) | ((with_reducible apply awp_cond_t); exact rfl) | ((with_reducible apply awp_cond_f); exact rfl) | ((with_reducible apply awp_cond_1); exact rfl; (first | assumption | exact decide_eq_true (by omega) | (simp only [Bool.not_eq_true', decide_eq_false_iff_not, decide_eq_true_eq, Bool.not_eq_false']; omega))) | ((with_reducible apply awp_cond_0); exact rfl; (first | assumption | exact decide_eq_false (by omega) | (simp only [Bool.not_eq_true', decide_eq_false_iff_not, decide_eq_true_eq, Bool.not_eq_false']; omega)))))
  (first | (refine apost_ret rfl (resl_agg rfl rfl rfl resl_nil) ?_) | (refine apost_ret rfl (resl_one rfl rfl rfl resl_nil) ?_))
  exact AV.Le.refl _
set_option maxRecDepth 100000 in
set_option maxHeartbeats 4000000 in
theorem p_Center {x y k : Int} {r : Nat} (h : IsR k r) (hb : inB r x y = true) : PCall Try.prog 43 [vP x y, vI k] (vP (2 ^ r * x) (2 ^ r * y)) := by
  obtain ⟨⟨q1, q2⟩, q3, q4⟩ := (inB_mul r x y).1 hb
  have C1 := p_In h hb
  have C2 := p_side h
  clear h hb
  generalize (2 : Int) ^ r = P at *
  refine pcall_body (f := 43) Try.func43 rfl rfl rfl rfl ?_
  (repeat (first | ((with_reducible apply al_q); exact rfl) | ((with_reducible apply al_mul); (iterate 3 exact rfl); (first | exact i64_wrap (by omega) | assumption | rfl); exact rfl) | (refine al_call1 rfl rfl rfl (by (first | exact C1 | exact C2)) rfl ?_) | (refine al_call2 rfl rfl rfl rfl (by (first | exact C1 | exact C2)) rfl ?_) | ((with_reducible apply al_bin); (iterate 5 exact rfl); (intro W; go_simp; try rfl); (intro W; go_simp; try rfl); exact rfl; exact rfl) | ((with_reducible apply al_un); exact rfl; exact rfl; (intro W; go_simp; try rfl); exact rfl; exact rfl) | ((with_reducible apply awp_seq)) | ((with_reducible apply athen_normal)) | ((with_reducible apply awp_region)) | ((with_reducible apply al_nil)) | ((with_reducible apply awp_ret)) | ((with_reducible apply awp_skip)) | ((with_reducible apply athen_ret)) | ((with_reducible apply awp_cond_t); exact rfl) | ((with_reducible apply awp_cond_f); exact rfl) | ((with_reducible apply awp_cond_1); exact rfl; (first | assumption | exact decide_eq_true (by omega) | (simp only [Bool.not_eq_true', decide_eq_false_iff_not, decide_eq_true_eq, Bool.not_eq_false']; omega))) | ((with_reducible apply awp_cond_0); exact rfl; (first | assumption | exact decide_eq_false (by omega) | (simp only [Bool.not_eq_true', decide_eq_false_iff_not, decide_eq_true_eq, Bool.not_eq_false']; omega)))))
  (first | (refine apost_ret rfl (resl_agg rfl rfl rfl resl_nil) ?_) | (refine apost_ret rfl (resl_one rfl rfl rfl resl_nil) ?_))
  exact AV.Le.refl _
set_option maxRecDepth 100000 in
set_option maxHeartbeats 4000000 in
theorem p_Sides_f {x y k : Int} {r : Nat} (h : IsR k r) (hb : inB r x y = false) : PCall Try.prog 21 [vP x y, vI k] (.tup [.agg [.c (.int .i64 0), .c (.int .i64 0)], .agg [.c (.int .i64 0), .c (.int .i64 0)]]) := by
  have C1 := p_In h hb
  refine pcall_body (f := 21) Try.func21 rfl rfl rfl rfl ?_
  (repeat (first | ((with_reducible apply al_q); exact rfl) | ((with_reducible apply al_add); (iterate 3 exact rfl); (first | exact i64_wrap (by omega) | assumption | rfl); exact rfl) | ((with_reducible apply al_sub); (iterate 3 exact rfl); (first | exact i64_wrap (by omega) | assumption | rfl); exact rfl) | ((with_reducible apply al_mul); (iterate 3 exact rfl); (first | exact i64_wrap (by omega) | assumption | rfl); exact rfl) | (refine al_call1 rfl rfl rfl (by (first | exact C1)) rfl ?_) | (refine al_call2 rfl rfl rfl rfl (by (first | exact C1)) rfl ?_) | ((with_reducible apply al_bin); (iterate 5 exact rfl); (intro W; go_simp; try rfl); (intro W; go_simp; try rfl); exact rfl; exact rfl) | ((with_reducible apply al_un); exact rfl; exact rfl; (intro W; go_simp; try rfl); exact rfl; exact rfl) | ((with_reducible apply al_nilS); kernel_rfl) | ((with_reducible apply awp_region_draw); kernel_rfl; kernel_rfl; exact rfl) | ((with_reducible apply awp_seq)) | ((with_reducible apply athen_normal)) | ((with_reducible apply awp_region)) | ((with_reducible apply al_nil)) | ((with_reducible apply awp_ret)) | ((with_reducible apply awp_skip)) | ((with_reducible apply athen_ret)) | ((with_reducible apply awp_cond_t); exact rfl) | ((with_reducible apply awp_cond_f); exact rfl) | ((with_reducible apply awp_cond_1); exact rfl; (first | assumption | exact decide_eq_true (by omega) | (simp only [Bool.not_eq_true', decide_eq_false_iff_not, decide_eq_true_eq, Bool.not_eq_false']; omega))) | ((with_reducible apply awp_cond_0); exact rfl; (first | assumption | exact decide_eq_false (by omega) | (simp only [Bool.not_eq_true', decide_eq_false_iff_not, decide_eq_true_eq, Bool.not_eq_false']; omega)))))
  (first | (refine apost_ret rfl (resl_agg rfl rfl rfl (resl_agg rfl rfl rfl resl_nil)) ?_) | (refine apost_ret rfl (resl_one rfl rfl rfl (resl_agg rfl rfl rfl resl_nil)) ?_) | (refine apost_ret rfl (resl_agg rfl rfl rfl (resl_one rfl rfl rfl resl_nil)) ?_) | (refine apost_ret rfl (resl_one rfl rfl rfl (resl_one rfl rfl rfl resl_nil)) ?_))
  exact AV.Le.refl _
set_option maxRecDepth 100000 in
set_option maxHeartbeats 4000000 in
theorem p_Sides {x y k : Int} {r : Nat} (h : IsR k r) (hb : inB r x y = true) : PCall Try.prog 21 [vP x y, vI k] (.tup [.agg [.c (.int .i64 (2 * (2 ^ r * x) - 2 ^ r)), .c (.int .i64 (2 * (2 ^ r * y) - 2 ^ r))], .agg [.c (.int .i64 (2 * (2 ^ r * x) + 2 ^ r)), .c (.int .i64 (2 * (2 ^ r * y) + 2 ^ r))]]) := by
  obtain ⟨⟨q1, q2⟩, q3, q4⟩ := (inB_mul r x y).1 hb
  obtain ⟨q5, q6⟩ := pow28 h.1
  have C1 := p_In h hb
  have C2 := p_side h
  have C3 := p_Center h hb
  clear h hb
  generalize (2 : Int) ^ r = P at *
  generalize P * x = X at *
  generalize P * y = Y at *
  refine pcall_body (f := 21) Try.func21 rfl rfl rfl rfl ?_
  (repeat (first | ((with_reducible apply al_q); exact rfl) | ((with_reducible apply al_add); (iterate 3 exact rfl); (first | exact i64_wrap (by omega) | assumption | rfl); exact rfl) | ((with_reducible apply al_sub); (iterate 3 exact rfl); (first | exact i64_wrap (by omega) | assumption | rfl); exact rfl) | ((with_reducible apply al_mul); (iterate 3 exact rfl); (first | exact i64_wrap (by omega) | assumption | rfl); exact rfl) | (refine al_call1 rfl rfl rfl (by (first | exact C1 | exact C2 | exact C3)) rfl ?_) | (refine al_call2 rfl rfl rfl rfl (by (first | exact C1 | exact C2 | exact C3)) rfl ?_) | ((with_reducible apply al_bin); (iterate 5 exact rfl); (intro W; go_simp; try rfl); (intro W; go_simp; try rfl); exact rfl; exact rfl) | ((with_reducible apply al_un); exact rfl; exact rfl; (intro W; go_simp; try rfl); exact rfl; exact rfl) | ((with_reducible apply al_nilS); kernel_rfl) | ((with_reducible apply awp_region_draw); kernel_rfl; kernel_rfl; exact rfl) | ((with_reducible apply awp_seq)) | ((with_reducible apply athen_normal)) | ((with_reducible apply awp_region)) | ((with_reducible apply al_nil)) | ((with_reducible apply awp_ret)) | ((with_reducible apply awp_skip)) | ((with_reducible apply athen_ret)) | ((with_reducible apply awp_cond_t); exact rfl) | ((with_reducible apply awp_cond_f); exact rfl) | ((with_reducible apply awp_cond_1); exact rfl; (first | assumption | exact decide_eq_true (by omega) | (simp only [Bool.not_eq_true', decide_eq_false_iff_not, decide_eq_true_eq, Bool.not_eq_false']; omega))) | ((with_reducible apply awp_cond_0); exact rfl; (first | assumption | exact decide_eq_false (by omega) | (simp only [Bool.not_eq_true', decide_eq_false_iff_not, decide_eq_true_eq, Bool.not_eq_false']; omega)))))
  (first | (refine apost_ret rfl (resl_agg rfl rfl rfl (resl_agg rfl rfl rfl resl_nil)) ?_) | (refine apost_ret rfl (resl_one rfl rfl rfl (resl_agg rfl rfl rfl resl_nil)) ?_) | (refine apost_ret rfl (resl_agg rfl rfl rfl (resl_one rfl rfl rfl resl_nil)) ?_) | (refine apost_ret rfl (resl_one rfl rfl rfl (resl_one rfl rfl rfl resl_nil)) ?_))
  exact AV.Le.refl _
def snb (n d : Int) (r : Nat) : Bool := decide (0 < d) && wi (134217728 / 2 ^ r) (sna n d r)
def snv (n d : Int) (r : Nat) : Int := if snb n d r then sna n d r else 0
/-! the reference package -/
set_option maxRecDepth 100000 in
set_option maxHeartbeats 4000000 in
theorem p_Rung {k : Int} {r : Nat} (h : IsR k r) : PCall Try.prog 15 [vI k] (vI r) := by
  obtain ⟨h0, h1⟩ := h
  have hk : (r : Int) ≤ 28 := by omega
  rcases h1 with ⟨h1, rfl⟩ | ⟨h1, rfl⟩ | rfl
  all_goals
    refine pcall_body (f := 15) Try.func15 rfl rfl rfl rfl ?_
    (repeat (first | ((with_reducible apply al_q); exact rfl) | ((with_reducible apply al_bin); (iterate 5 exact rfl); (intro W; go_simp; try rfl); (intro W; go_simp; try rfl); exact rfl; exact rfl) | ((with_reducible apply awp_seq)) | ((with_reducible apply athen_normal)) | ((with_reducible apply awp_region)) | ((with_reducible apply al_nil)) | ((with_reducible apply awp_ret)) | ((with_reducible apply awp_skip)) | ((with_reducible apply athen_ret)) | ((with_reducible apply awp_cond_t); exact rfl) | ((with_reducible apply awp_cond_f); exact rfl) | ((with_reducible apply awp_cond_1); exact rfl; (first | assumption | exact decide_eq_true (by omega) | (simp only [Bool.not_eq_true', decide_eq_false_iff_not, decide_eq_true_eq, Bool.not_eq_false']; omega))) | ((with_reducible apply awp_cond_0); exact rfl; (first | assumption | exact decide_eq_false (by omega) | (simp only [Bool.not_eq_true', decide_eq_false_iff_not, decide_eq_true_eq, Bool.not_eq_false']; omega)))))
    (first | (refine apost_ret rfl (resl_tmp rfl resl_nil) ?_))
    exact AV.Le.refl _
theorem gsn_ref (v : Int) (r : Nat) : (v + v + 1 * 2 ^ r) / (1 * 2 ^ (r + 1)) = gsn v r := by
  unfold gsn
  rw [Int.one_mul, Int.one_mul, Int.pow_succ, Int.mul_comm (2 ^ r) 2]
  congr 1
  omega
/-- is a number times 2^r not too far? -/
def nrB (n : Int) (r : Nat) : Bool := decide (-134217728 ≤ n * 2 ^ r) && decide (n * 2 ^ r ≤ 134217728)
theorem nrB_wi (n : Int) (r : Nat) : nrB n r = wi (134217728 / 2 ^ r) n := by
  rw [wi_mul]
  unfold nrB
  rw [Bool.eq_iff_iff, Bool.and_eq_true, decide_eq_true_eq, decide_eq_true_eq, decide_eq_true_eq, Int.mul_comm]
set_option maxRecDepth 100000 in
set_option maxHeartbeats 4000000 in
theorem p_near {n : Int} {r : Nat} {b : Bool} (hn : NB 200 n) (hr : r ≤ 28) (hb : nrB n r = b) : PCall Try.prog 40 [nv n, vI r] (vB b) := by
  have C1 : PCall Try.prog 56 [vI r] (nv (2 ^ r)) := p_rPower (by omega)
  have C2 : PCall Try.prog 56 [vI 27] (nv 134217728) := by
    have e27 : (2 : Int) ^ 27 = 134217728 := by decide
    have := p_rPower (k := 27) (by omega)
    rw [e27] at this
    exact this
  have C3 : PCall Try.prog 50 [nv n, nv (2 ^ r)] (nv (n * 2 ^ r)) := p_rMul (hn.up (by omega)) ((NB.pow2 r).up (by omega))
  have C4 : PCall Try.prog 58 [nv 134217728] (nv (-134217728)) := p_rNeg ((NB.of_fits (by decide)).up (show 10 ≤ 1000 by omega))
  have nb : NB 1000 (n * 2 ^ r) := (hn.mul (NB.pow2 r)).up (by omega)
  have C5 : PCall Try.prog 57 [nv (n * 2 ^ r), nv (-134217728)] (vI (icmp (n * 2 ^ r) (-134217728))) := p_rCmp nb ((NB.of_fits (by decide)).up (show 10 ≤ 1000 by omega))
  have C6 : PCall Try.prog 57 [nv (n * 2 ^ r), nv 134217728] (vI (icmp (n * 2 ^ r) 134217728)) := p_rCmp nb ((NB.of_fits (by decide)).up (show 10 ≤ 1000 by omega))
  have i1 := icmp_ge (a := n * 2 ^ r) (b := -134217728)
  have i2 : icmp (n * 2 ^ r) 134217728 ≤ 0 ↔ n * 2 ^ r ≤ 134217728 := by unfold icmp; repeat' split <;> omega
  unfold nrB at hb
  generalize n * 2 ^ r = z at *
  generalize icmp z (-134217728) = a1 at *
  generalize icmp z 134217728 = a2 at *
  have cs : (0 ≤ a1 ∧ a2 ≤ 0 ∧ b = true) ∨ (0 ≤ a1 ∧ ¬ a2 ≤ 0 ∧ b = false) ∨ (¬ 0 ≤ a1 ∧ b = false) := by
    rw [← hb]
    by_cases p1 : -134217728 ≤ z <;> by_cases p2 : z ≤ 134217728 <;> simp [p1, p2] <;> omega
  clear hb hn nb i1 i2
  have hr' : (r : Int) ≤ 28 := by omega
  rcases cs with ⟨p1, p2, rfl⟩ | ⟨p1, p2, rfl⟩ | ⟨p1, rfl⟩
  · refine pcall_body (f := 40) Try.func40 rfl rfl rfl rfl ?_
    (repeat (first | ((with_reducible apply al_q); exact rfl) | (refine al_call1 rfl rfl rfl (by (first | exact C1 | exact C2 | exact C3 | exact C4 | exact C5 | exact C6)) rfl ?_) | (refine al_call2 rfl rfl rfl rfl (by (first | exact C1 | exact C2 | exact C3 | exact C4 | exact C5 | exact C6)) rfl ?_) | ((with_reducible apply al_guard_b (c := true)); exact rfl; exact rfl; (first | assumption | exact decide_eq_true (by omega) | (simp only [Bool.not_eq_true', decide_eq_false_iff_not, decide_eq_true_eq, Bool.not_eq_false']; omega))) | ((with_reducible apply al_guard_b (c := false)); exact rfl; exact rfl; (first | assumption | exact decide_eq_false (by omega) | (simp only [Bool.not_eq_true', decide_eq_false_iff_not, decide_eq_true_eq, Bool.not_eq_false']; omega))) | ((with_reducible apply al_bin); (iterate 5 exact rfl); (intro W; go_simp; try rfl); (intro W; go_simp; try rfl); exact rfl; exact rfl) | ((with_reducible apply al_nilS); kernel_rfl) | ((with_reducible apply awp_region_draw); kernel_rfl; kernel_rfl; exact rfl) | ((with_reducible apply awp_seq)) | ((with_reducible apply athen_normal)) | ((with_reducible apply awp_region)) | ((with_reducible apply al_nil)) | ((with_reducible apply awp_ret)) | ((with_reducible apply awp_skip)) | ((with_reducible apply athen_ret))))
    (first | (refine apost_ret rfl (resl_tmp rfl resl_nil) ?_))
    exact AV.Le.of_eq (by rw [decide_eq_true p2]; rfl)
  · refine pcall_body (f := 40) Try.func40 rfl rfl rfl rfl ?_
    (repeat (first | ((with_reducible apply al_q); exact rfl) | (refine al_call1 rfl rfl rfl (by (first | exact C1 | exact C2 | exact C3 | exact C4 | exact C5 | exact C6)) rfl ?_) | (refine al_call2 rfl rfl rfl rfl (by (first | exact C1 | exact C2 | exact C3 | exact C4 | exact C5 | exact C6)) rfl ?_) | ((with_reducible apply al_guard_b (c := true)); exact rfl; exact rfl; (first | assumption | exact decide_eq_true (by omega) | (simp only [Bool.not_eq_true', decide_eq_false_iff_not, decide_eq_true_eq, Bool.not_eq_false']; omega))) | ((with_reducible apply al_guard_b (c := false)); exact rfl; exact rfl; (first | assumption | exact decide_eq_false (by omega) | (simp only [Bool.not_eq_true', decide_eq_false_iff_not, decide_eq_true_eq, Bool.not_eq_false']; omega))) | ((with_reducible apply al_bin); (iterate 5 exact rfl); (intro W; go_simp; try rfl); (intro W; go_simp; try rfl); exact rfl; exact rfl) | ((with_reducible apply al_nilS); kernel_rfl) | ((with_reducible apply awp_region_draw); kernel_rfl; kernel_rfl; exact rfl) | ((with_reducible apply awp_seq)) | ((with_reducible apply athen_normal)) | ((with_reducible apply awp_region)) | ((with_reducible apply al_nil)) | ((with_reducible apply awp_ret)) | ((with_reducible apply awp_skip)) | ((with_reducible apply athen_ret))))
    (first | (refine apost_ret rfl (resl_tmp rfl resl_nil) ?_))
    exact AV.Le.of_eq (by rw [decide_eq_false p2]; rfl)
  · refine pcall_body (f := 40) Try.func40 rfl rfl rfl rfl ?_
    (repeat (first | ((with_reducible apply al_q); exact rfl) | (refine al_call1 rfl rfl rfl (by (first | exact C1 | exact C2 | exact C3 | exact C4 | exact C5 | exact C6)) rfl ?_) | (refine al_call2 rfl rfl rfl rfl (by (first | exact C1 | exact C2 | exact C3 | exact C4 | exact C5 | exact C6)) rfl ?_) | ((with_reducible apply al_guard_b (c := true)); exact rfl; exact rfl; (first | assumption | exact decide_eq_true (by omega) | (simp only [Bool.not_eq_true', decide_eq_false_iff_not, decide_eq_true_eq, Bool.not_eq_false']; omega))) | ((with_reducible apply al_guard_b (c := false)); exact rfl; exact rfl; (first | assumption | exact decide_eq_false (by omega) | (simp only [Bool.not_eq_true', decide_eq_false_iff_not, decide_eq_true_eq, Bool.not_eq_false']; omega))) | ((with_reducible apply al_bin); (iterate 5 exact rfl); (intro W; go_simp; try rfl); (intro W; go_simp; try rfl); exact rfl; exact rfl) | ((with_reducible apply al_nilS); kernel_rfl) | ((with_reducible apply awp_region_draw); kernel_rfl; kernel_rfl; exact rfl) | ((with_reducible apply awp_seq)) | ((with_reducible apply athen_normal)) | ((with_reducible apply awp_region)) | ((with_reducible apply al_nil)) | ((with_reducible apply awp_ret)) | ((with_reducible apply awp_skip)) | ((with_reducible apply athen_ret))))
    (first | (refine apost_ret rfl (resl_tmp rfl resl_nil) ?_))
    exact AV.Le.refl _
set_option maxRecDepth 100000 in
set_option maxHeartbeats 4000000 in
theorem p_r3In {x y k : Int} {r : Nat} {b : Bool} (h : IsR k r) (x0 : -9223372036854775808 ≤ x) (x1 : x < 9223372036854775808) (y0 : -9223372036854775808 ≤ y) (y1 : y < 9223372036854775808) (hb : inB r x y = b) : PCall Try.prog 16 [vP x y, vI k] (vB b) := by
  have C1 := p_Rung h
  have C2 := p_rOf x0 x1
  have C3 := p_rOf y0 y1
  have n1 : NB 200 x := (NB.of_fits (fits_small x0 x1)).up (by omega)
  have n2 : NB 200 y := (NB.of_fits (fits_small y0 y1)).up (by omega)
  have C4 := p_near n1 h.1 rfl
  have C5 := p_near n2 h.1 rfl
  rw [nrB_wi] at C4 C5
  unfold inB at hb
  clear h n1 n2
  cases q1 : wi (134217728 / 2 ^ r) x <;> cases q2 : wi (134217728 / 2 ^ r) y <;> rw [q1] at C4 <;> rw [q2] at C5 <;> rw [q1, q2] at hb <;> subst hb <;> clear q1 q2
  all_goals
    refine pcall_body (f := 16) Try.func16 rfl rfl rfl rfl ?_
    (repeat (first | ((with_reducible apply al_q); exact rfl) | (refine al_call1 rfl rfl rfl (by (first | exact C1 | exact C2 | exact C3 | exact C4 | exact C5)) rfl ?_) | (refine al_call2 rfl rfl rfl rfl (by (first | exact C1 | exact C2 | exact C3 | exact C4 | exact C5)) rfl ?_) | ((with_reducible apply al_guard_b (c := true)); exact rfl; exact rfl; (first | assumption | exact decide_eq_true (by omega) | (simp only [Bool.not_eq_true', decide_eq_false_iff_not, decide_eq_true_eq, Bool.not_eq_false']; omega))) | ((with_reducible apply al_guard_b (c := false)); exact rfl; exact rfl; (first | assumption | exact decide_eq_false (by omega) | (simp only [Bool.not_eq_true', decide_eq_false_iff_not, decide_eq_true_eq, Bool.not_eq_false']; omega))) | ((with_reducible apply al_nilS); kernel_rfl) | ((with_reducible apply awp_region_draw); kernel_rfl; kernel_rfl; exact rfl) | ((with_reducible apply awp_seq)) | ((with_reducible apply athen_normal)) | ((with_reducible apply awp_region)) | ((with_reducible apply al_nil)) | ((with_reducible apply awp_ret)) | ((with_reducible apply awp_skip)) | ((with_reducible apply athen_ret))))
    (first | (refine apost_ret rfl (resl_tmp rfl resl_nil) ?_))
    exact AV.Le.refl _
end Go.Proofs.Ytfcehanpmbeegaa
