/-
  cobweblaw05.CrossSelf returns true, for all its arguments. My own text.
-/
import Derived.Test.YtlhgmlebjnkonaaCrossH
namespace Go.Proofs.Ytlhgmlebjnkonaa
open Go.RowKit
set_option linter.unusedVariables false
set_option linter.unusedSimpArgs false
theorem lx_un {a1 a2 b1 b2 : Int} (h : ¬ lx a1 a2 b1 b2) : lo1 a1 a2 b1 b2 = b1 ∧ lo2 a1 a2 b1 b2 = b2 ∧ hi1 a1 a2 b1 b2 = a1 ∧ hi2 a1 a2 b1 b2 = a2 := by unfold lo1 lo2 hi1 hi2; simp [h]
/-- two segments that begin in one point, and go the same way: s no longer than t. -/
theorem inl_begin {s1 s2 s3 s4 t3 t4 : Int} (h1 : lx s1 s2 s3 s4) (h2 : lx s3 s4 t3 t4) (hne : ¬ (s1 = s3 ∧ s2 = s4)) : inl s1 s2 s3 s4 s1 s2 t3 t4 = alM s1 s2 s3 s4 := by
  unfold inl inlP
  obtain ⟨_, _, r3, r4⟩ := lx_sorted (lx.rfl' (a1 := s1) (a2 := s2))
  obtain ⟨r1, r2, _, _⟩ := lx_sorted h2
  rw [r3, r4, r1, r2, if_pos ⟨on_low h1, on_low (h1.trans h2)⟩, if_neg hne]
/-- that end in one point. -/
theorem inl_end {s1 s2 s3 s4 t1 t2 : Int} (h1 : lx s1 s2 s3 s4) (h2 : lx t1 t2 s1 s2) (hne : ¬ (s1 = s3 ∧ s2 = s4)) (hc : cr t1 t2 s3 s4 s1 s2 = 0) : inl s1 s2 s3 s4 t1 t2 s3 s4 = alM s1 s2 s3 s4 := by
  unfold inl inlP
  obtain ⟨_, _, r3, r4⟩ := lx_sorted h2
  obtain ⟨l1, l2, _, _⟩ := lh_comm t1 t2 s1 s2
  obtain ⟨_, _, l3, l4⟩ := lh_comm t1 t2 s1 s2
  obtain ⟨r1, r2, _, _⟩ := lx_sorted (lx.rfl' (a1 := s3) (a2 := s4))
  rw [l3, l4, r3, r4, r1, r2, if_pos ⟨on_low h1, (on_iff (h2.trans h1)).2 ⟨hc, h2, h1⟩⟩, if_neg hne]
/-- a segment has all of itself in common with itself. -/
theorem self_one {a1 a2 b1 b2 : Int} (hne : ¬ (a1 = b1 ∧ a2 = b2)) : meetV a1 a2 b1 b2 b1 b2 a1 a2 = alM (lo1 a1 a2 b1 b2) (lo2 a1 a2 b1 b2) (hi1 a1 a2 b1 b2) (hi2 a1 a2 b1 b2) := by
  rw [meetV_cd]
  unfold meetV
  rw [if_pos (by unfold wD; grind)]
  unfold inlS
  rcases lh_or a1 a2 b1 b2 with ⟨h1, h2, h3, h4, h⟩ | ⟨h1, h2, h3, h4, h⟩ <;> rw [h1, h2, h3, h4]
  · exact inl_begin h .rfl' hne
  · exact inl_begin h .rfl' (by omega)
/-- with one that is as long again. -/
theorem self_two {a1 a2 b1 b2 c1 c2 : Int} (hne : ¬ (a1 = b1 ∧ a2 = b2)) (e1 : c1 = 2 * b1 - a1) (e2 : c2 = 2 * b2 - a2) : meetV a1 a2 c1 c2 b1 b2 a1 a2 = alM (lo1 a1 a2 b1 b2) (lo2 a1 a2 b1 b2) (hi1 a1 a2 b1 b2) (hi2 a1 a2 b1 b2) := by
  rw [meetV_cd, meetV_sw]
  unfold meetV
  rw [if_pos (by subst e1; subst e2; unfold wD; grind)]
  unfold inlS
  by_cases h : lx a1 a2 b1 b2
  · have hb : lx b1 b2 c1 c2 := by unfold lx at *; omega
    obtain ⟨h1, h2, h3, h4⟩ := lx_sorted h
    obtain ⟨k1, k2, k3, k4⟩ := lx_sorted (h.trans hb)
    rw [h1, h2, h3, h4, k1, k2, k3, k4]
    exact inl_begin h hb hne
  · have h' := (lx.total a1 a2 b1 b2).resolve_left h
    have hb : lx c1 c2 b1 b2 := by unfold lx at *; omega
    have hn : ¬ lx a1 a2 c1 c2 := by unfold lx at *; omega
    obtain ⟨h1, h2, h3, h4⟩ := lx_un h
    obtain ⟨k1, k2, k3, k4⟩ := lx_un hn
    rw [h1, h2, h3, h4, k1, k2, k3, k4]
    exact inl_end h' hb (by omega) (by subst e1; subst e2; unfold cr; grind)
/-- with one that goes on: just its end. -/
theorem self_next {a1 a2 b1 b2 c1 c2 : Int} (hne : ¬ (a1 = b1 ∧ a2 = b2)) (e1 : c1 = 2 * b1 - a1) (e2 : c2 = 2 * b2 - a2) : ∃ d, meetV a1 a2 b1 b2 b1 b2 c1 c2 = plM (b1 * d) d (b2 * d) d := by
  have only : ∀ p1 p2, On p1 p2 a1 a2 b1 b2 → On p1 p2 b1 b2 c1 c2 → p1 = b1 ∧ p2 = b2 := by
    intro p1 p2 ha hb
    by_cases h : lx a1 a2 b1 b2
    · have hb' : lx b1 b2 c1 c2 := by unfold lx at *; omega
      exact lx.anti ((on_iff h).1 ha).2.2 ((on_iff hb').1 hb).2.1
    · have h' := (lx.total a1 a2 b1 b2).resolve_left h
      have hb' : lx c1 c2 b1 b2 := by unfold lx at *; omega
      have k := lx.anti ((on_iff h').1 (on_comm.1 ha)).2.1 ((on_iff hb').1 (on_comm.1 hb)).2.2
      omega
  have o1 := (on_self a1 a2 b1 b2).2
  have o2 := (on_self b1 b2 c1 c2).1
  rcases mv_kinds a1 a2 b1 b2 b1 b2 c1 c2 with ⟨_, hn⟩ | ⟨x, y, d, e, h0, h1, hf, hp⟩ | ⟨f1, f2, g1, g2, e, hne', hl, u1, u2, u3, u4, _⟩
  · exact absurd o2 (hn _ _ o1)
  · obtain ⟨rfl, rfl⟩ := hp _ _ o1 o2
    exact ⟨d, e⟩
  · obtain ⟨rfl, rfl⟩ := only _ _ u1 u2
    obtain ⟨rfl, rfl⟩ := only _ _ u3 u4
    exact absurd ⟨rfl, rfl⟩ hne'
set_option maxRecDepth 100000 in
set_option maxHeartbeats 4000000 in
theorem cse_no {a1 a2 b1 b2 : Int} {r1 r2 : Bool} (A1 : PCall Try.prog 10 [] (vB true)) (R1 : PCall Try.prog 12 [vP a1 a2] (vB r1)) (R2 : PCall Try.prog 12 [vP b1 b2] (vB r2)) (h : r1 = false ∨ (r1 = true ∧ r2 = false) ∨ (r1 = true ∧ r2 = true ∧ eqP a1 a2 b1 b2 = true)) : PCall Try.prog 8 [vP a1 a2, vP b1 b2] (vB true) := by
  rcases h with rfl | ⟨rfl, rfl⟩ | ⟨rfl, rfl, h⟩
  all_goals
    refine pcall_body (f := 8) Try.func8 rfl rfl rfl rfl ?_
    ((repeat ((repeat (first | ((with_reducible apply awp_seq)) | ((with_reducible apply athen_normal)) | ((with_reducible apply awp_region)) | ((with_reducible apply al_nilS); (kernel_rfl)) | ((with_reducible apply awp_region_draw); (kernel_rfl); (kernel_rfl); exact rfl) | ((with_reducible apply awp_cond_t); exact rfl) | ((with_reducible apply awp_cond_f); exact rfl) | ((with_reducible apply awp_cond_1); exact rfl; (first | assumption | exact decide_eq_true (by omega) | (simp only [Bool.not_eq_true', decide_eq_false_iff_not, decide_eq_true_eq, Bool.not_eq_false']; omega))) | ((with_reducible apply awp_cond_0); exact rfl; (first | assumption | exact decide_eq_false (by omega) | (simp only [Bool.not_eq_true', decide_eq_false_iff_not, decide_eq_true_eq, Bool.not_eq_false']; omega))) | ((with_reducible apply al_nil)) | ((with_reducible apply awp_ret)) | ((with_reducible apply awp_skip)) | ((with_reducible apply athen_ret)))); (first | ((with_reducible apply al_loadN); (iterate 5 exact rfl)) | ((with_reducible apply al_load1); (iterate 5 exact rfl)) | ((with_reducible apply al_move); (iterate 3 exact rfl)) | ((with_reducible apply al_fld); (iterate 3 exact rfl)) | ((with_reducible apply al_store); (iterate 6 exact rfl)) | ((with_reducible apply al_pick_t); (iterate 5 exact rfl)) | ((with_reducible apply al_pick_f); (iterate 5 exact rfl)) | ((with_reducible apply al_assign); (iterate 3 exact rfl)) | ((with_reducible apply al_build); (iterate 5 exact rfl)) | ((with_reducible apply al_alloc); (iterate 4 exact rfl)) | ((with_reducible apply al_box); (iterate 4 exact rfl)) | ((with_reducible apply al_eql); (iterate 4 exact rfl)) | ((with_reducible apply al_neq); (iterate 4 exact rfl)) | ((with_reducible apply al_eqP); (iterate 4 exact rfl)) | ((with_reducible apply al_eqB); (iterate 4 exact rfl)) | ((with_reducible apply al_neqP); (iterate 4 exact rfl)) | ((with_reducible apply al_sub); (iterate 3 exact rfl); (first | exact i64_wrap (by omega) | assumption | rfl); exact rfl) | ((with_reducible apply al_mul); (iterate 3 exact rfl); (first | exact i64_wrap (by omega) | assumption | rfl); exact rfl) | ((with_reducible apply al_not); (iterate 3 exact rfl)) | (refine al_call0 rfl rfl (by first | (exact A1) | (exact R1) | (exact R2)) rfl ?_) | (refine al_call1 rfl rfl rfl (by first | (exact A1) | (exact R1) | (exact R2)) rfl ?_) | (refine al_call2 rfl rfl rfl rfl (by first | (exact A1) | (exact R1) | (exact R2)) rfl ?_) | (refine al_call4 rfl rfl rfl rfl rfl rfl (by first | (exact A1) | (exact R1) | (exact R2)) rfl ?_) | ((with_reducible apply al_pass); exact rfl; (rintro d ⟨⟩; rfl)) | ((with_reducible apply al_guard_b (c := true)); exact rfl; exact rfl; (first | assumption | exact decide_eq_true (by omega) | (simp only [Bool.not_eq_true', decide_eq_false_iff_not, decide_eq_true_eq, Bool.not_eq_false']; omega))) | ((with_reducible apply al_guard_b (c := false)); exact rfl; exact rfl; (first | assumption | exact decide_eq_false (by omega) | (simp only [Bool.not_eq_true', decide_eq_false_iff_not, decide_eq_true_eq, Bool.not_eq_false']; omega))) | ((with_reducible apply al_bin); (iterate 5 exact rfl); (intro W; go_simp; try rfl); (intro W; go_simp; try rfl); exact rfl; exact rfl) | ((with_reducible apply al_un); exact rfl; exact rfl; (intro W; go_simp; try rfl); exact rfl; exact rfl)); (repeat (first | ((with_reducible apply al_loadN); (iterate 5 exact rfl)) | ((with_reducible apply al_load1); (iterate 5 exact rfl)) | ((with_reducible apply al_move); (iterate 3 exact rfl)) | ((with_reducible apply al_fld); (iterate 3 exact rfl)) | ((with_reducible apply al_store); (iterate 6 exact rfl)) | ((with_reducible apply al_pick_t); (iterate 5 exact rfl)) | ((with_reducible apply al_pick_f); (iterate 5 exact rfl)) | ((with_reducible apply al_assign); (iterate 3 exact rfl)) | ((with_reducible apply al_build); (iterate 5 exact rfl)) | ((with_reducible apply al_alloc); (iterate 4 exact rfl)) | ((with_reducible apply al_box); (iterate 4 exact rfl)) | ((with_reducible apply al_eql); (iterate 4 exact rfl)) | ((with_reducible apply al_neq); (iterate 4 exact rfl)) | ((with_reducible apply al_eqP); (iterate 4 exact rfl)) | ((with_reducible apply al_eqB); (iterate 4 exact rfl)) | ((with_reducible apply al_neqP); (iterate 4 exact rfl)) | ((with_reducible apply al_sub); (iterate 3 exact rfl); (first | exact i64_wrap (by omega) | assumption | rfl); exact rfl) | ((with_reducible apply al_mul); (iterate 3 exact rfl); (first | exact i64_wrap (by omega) | assumption | rfl); exact rfl) | ((with_reducible apply al_not); (iterate 3 exact rfl)) | (refine al_call0 rfl rfl (by first | (exact A1) | (exact R1) | (exact R2)) rfl ?_) | (refine al_call1 rfl rfl rfl (by first | (exact A1) | (exact R1) | (exact R2)) rfl ?_) | (refine al_call2 rfl rfl rfl rfl (by first | (exact A1) | (exact R1) | (exact R2)) rfl ?_) | (refine al_call4 rfl rfl rfl rfl rfl rfl (by first | (exact A1) | (exact R1) | (exact R2)) rfl ?_) | ((with_reducible apply al_pass); exact rfl; (rintro d ⟨⟩; rfl)) | ((with_reducible apply al_guard_b (c := true)); exact rfl; exact rfl; (first | assumption | exact decide_eq_true (by omega) | (simp only [Bool.not_eq_true', decide_eq_false_iff_not, decide_eq_true_eq, Bool.not_eq_false']; omega))) | ((with_reducible apply al_guard_b (c := false)); exact rfl; exact rfl; (first | assumption | exact decide_eq_false (by omega) | (simp only [Bool.not_eq_true', decide_eq_false_iff_not, decide_eq_true_eq, Bool.not_eq_false']; omega))) | ((with_reducible apply al_bin); (iterate 5 exact rfl); (intro W; go_simp; try rfl); (intro W; go_simp; try rfl); exact rfl; exact rfl) | ((with_reducible apply al_un); exact rfl; exact rfl; (intro W; go_simp; try rfl); exact rfl; exact rfl))))); (repeat (first | ((with_reducible apply awp_seq)) | ((with_reducible apply athen_normal)) | ((with_reducible apply awp_region)) | ((with_reducible apply al_nilS); (kernel_rfl)) | ((with_reducible apply awp_region_draw); (kernel_rfl); (kernel_rfl); exact rfl) | ((with_reducible apply awp_cond_t); exact rfl) | ((with_reducible apply awp_cond_f); exact rfl) | ((with_reducible apply awp_cond_1); exact rfl; (first | assumption | exact decide_eq_true (by omega) | (simp only [Bool.not_eq_true', decide_eq_false_iff_not, decide_eq_true_eq, Bool.not_eq_false']; omega))) | ((with_reducible apply awp_cond_0); exact rfl; (first | assumption | exact decide_eq_false (by omega) | (simp only [Bool.not_eq_true', decide_eq_false_iff_not, decide_eq_true_eq, Bool.not_eq_false']; omega))) | ((with_reducible apply al_nil)) | ((with_reducible apply awp_ret)) | ((with_reducible apply awp_skip)) | ((with_reducible apply athen_ret)))))
    (first | (refine apost_ret rfl (resl_tmp rfl resl_nil) ?_))
    exact AV.Le.refl _
set_option maxRecDepth 100000 in
set_option maxHeartbeats 8000000 in
theorem cse_core {a1 a2 b1 b2 c1 c2 n d m e x1 x2 y1 y2 : Int} {r : Bool} (A1 : PCall Try.prog 10 [] (vB true)) (R1 : PCall Try.prog 12 [vP a1 a2] (vB true)) (R2 : PCall Try.prog 12 [vP b1 b2] (vB true)) (hne : eqP a1 a2 b1 b2 = false)
    (wa : IntKind.i64.wrap (2 * b1) = 2 * b1) (wb : IntKind.i64.wrap (2 * b2) = 2 * b2) (wc : IntKind.i64.wrap (2 * b1 - a1) = c1) (wd : IntKind.i64.wrap (2 * b2 - a2) = c2)
    (M1 : PCall Try.prog 9 [vP a1 a2, vP b1 b2, vP b1 b2, vP a1 a2] (vM 2 0 0 0 0 x1 x2 y1 y2)) (E1 : PCall Try.prog 15 [vP a1 a2, vP b1 b2, vP b1 b2, vP a1 a2] (vB true))
    (hxy : eqP x1 x2 y1 y2 = false) (hx : (!eqP x1 x2 a1 a2) = false ∧ (!eqP y1 y2 a1 a2) = true ∧ (!eqP y1 y2 b1 b2) = false ∨ (!eqP x1 x2 a1 a2) = true ∧ (!eqP x1 x2 b1 b2) = false ∧ (!eqP y1 y2 a1 a2) = false)
    (R3 : PCall Try.prog 12 [vP c1 c2] (vB r))
    (N : r = true → PCall Try.prog 9 [vP a1 a2, vP b1 b2, vP b1 b2, vP c1 c2] (vM 1 n d m e 0 0 0 0) ∧ PCall Try.prog 9 [vP a1 a2, vP c1 c2, vP b1 b2, vP a1 a2] (vM 2 0 0 0 0 x1 x2 y1 y2) ∧ PCall Try.prog 20 [vI b1] (fv b1 1) ∧ PCall Try.prog 20 [vI b2] (fv b2 1) ∧ PCall Try.prog 19 [fv n d, fv b1 1] (vI 0) ∧ PCall Try.prog 19 [fv m e, fv b2 1] (vI 0)
      ∧ PCall Try.prog 15 [vP a1 a2, vP b1 b2, vP b1 b2, vP c1 c2] (vB true) ∧ PCall Try.prog 17 [vM 2 0 0 0 0 x1 x2 y1 y2, vM 2 0 0 0 0 x1 x2 y1 y2] (vB true) ∧ PCall Try.prog 15 [vP a1 a2, vP c1 c2, vP b1 b2, vP a1 a2] (vB false)) : PCall Try.prog 8 [vP a1 a2, vP b1 b2] (vB true) := by
  have z : (!decide ((2 : Int) = 2)) = false := by decide
  cases r with
  | false =>
    clear N
    rcases hx with ⟨h1, h2, h3⟩ | ⟨h1, h2, h3⟩
    all_goals
      refine pcall_body (f := 8) Try.func8 rfl rfl rfl rfl ?_
      ((repeat ((repeat (first | ((with_reducible apply awp_seq)) | ((with_reducible apply athen_normal)) | ((with_reducible apply awp_region)) | ((with_reducible apply al_nilS); (kernel_rfl)) | ((with_reducible apply awp_region_draw); (kernel_rfl); (kernel_rfl); exact rfl) | ((with_reducible apply awp_cond_t); exact rfl) | ((with_reducible apply awp_cond_f); exact rfl) | ((with_reducible apply awp_cond_1); exact rfl; (first | assumption | exact decide_eq_true (by omega) | (simp only [Bool.not_eq_true', decide_eq_false_iff_not, decide_eq_true_eq, Bool.not_eq_false']; omega))) | ((with_reducible apply awp_cond_0); exact rfl; (first | assumption | exact decide_eq_false (by omega) | (simp only [Bool.not_eq_true', decide_eq_false_iff_not, decide_eq_true_eq, Bool.not_eq_false']; omega))) | ((with_reducible apply al_nil)) | ((with_reducible apply awp_ret)) | ((with_reducible apply awp_skip)) | ((with_reducible apply athen_ret)))); (first | ((with_reducible apply al_loadN); (iterate 5 exact rfl)) | ((with_reducible apply al_load1); (iterate 5 exact rfl)) | ((with_reducible apply al_move); (iterate 3 exact rfl)) | ((with_reducible apply al_fld); (iterate 3 exact rfl)) | ((with_reducible apply al_store); (iterate 6 exact rfl)) | ((with_reducible apply al_pick_t); (iterate 5 exact rfl)) | ((with_reducible apply al_pick_f); (iterate 5 exact rfl)) | ((with_reducible apply al_assign); (iterate 3 exact rfl)) | ((with_reducible apply al_build); (iterate 5 exact rfl)) | ((with_reducible apply al_alloc); (iterate 4 exact rfl)) | ((with_reducible apply al_box); (iterate 4 exact rfl)) | ((with_reducible apply al_eql); (iterate 4 exact rfl)) | ((with_reducible apply al_neq); (iterate 4 exact rfl)) | ((with_reducible apply al_eqP); (iterate 4 exact rfl)) | ((with_reducible apply al_eqB); (iterate 4 exact rfl)) | ((with_reducible apply al_neqP); (iterate 4 exact rfl)) | ((with_reducible apply al_sub); (iterate 3 exact rfl); (first | exact i64_wrap (by omega) | assumption | rfl); exact rfl) | ((with_reducible apply al_mul); (iterate 3 exact rfl); (first | exact i64_wrap (by omega) | assumption | rfl); exact rfl) | ((with_reducible apply al_not); (iterate 3 exact rfl)) | (refine al_call0 rfl rfl (by first | (exact A1) | (exact R1) | (exact R2) | (exact M1) | (exact E1) | (exact R3)) rfl ?_) | (refine al_call1 rfl rfl rfl (by first | (exact A1) | (exact R1) | (exact R2) | (exact M1) | (exact E1) | (exact R3)) rfl ?_) | (refine al_call2 rfl rfl rfl rfl (by first | (exact A1) | (exact R1) | (exact R2) | (exact M1) | (exact E1) | (exact R3)) rfl ?_) | (refine al_call4 rfl rfl rfl rfl rfl rfl (by first | (exact A1) | (exact R1) | (exact R2) | (exact M1) | (exact E1) | (exact R3)) rfl ?_) | ((with_reducible apply al_pass); exact rfl; (rintro d ⟨⟩; rfl)) | ((with_reducible apply al_guard_b (c := true)); exact rfl; exact rfl; (first | assumption | exact decide_eq_true (by omega) | (simp only [Bool.not_eq_true', decide_eq_false_iff_not, decide_eq_true_eq, Bool.not_eq_false']; omega))) | ((with_reducible apply al_guard_b (c := false)); exact rfl; exact rfl; (first | assumption | exact decide_eq_false (by omega) | (simp only [Bool.not_eq_true', decide_eq_false_iff_not, decide_eq_true_eq, Bool.not_eq_false']; omega))) | ((with_reducible apply al_bin); (iterate 5 exact rfl); (intro W; go_simp; try rfl); (intro W; go_simp; try rfl); exact rfl; exact rfl) | ((with_reducible apply al_un); exact rfl; exact rfl; (intro W; go_simp; try rfl); exact rfl; exact rfl)); (repeat (first | ((with_reducible apply al_loadN); (iterate 5 exact rfl)) | ((with_reducible apply al_load1); (iterate 5 exact rfl)) | ((with_reducible apply al_move); (iterate 3 exact rfl)) | ((with_reducible apply al_fld); (iterate 3 exact rfl)) | ((with_reducible apply al_store); (iterate 6 exact rfl)) | ((with_reducible apply al_pick_t); (iterate 5 exact rfl)) | ((with_reducible apply al_pick_f); (iterate 5 exact rfl)) | ((with_reducible apply al_assign); (iterate 3 exact rfl)) | ((with_reducible apply al_build); (iterate 5 exact rfl)) | ((with_reducible apply al_alloc); (iterate 4 exact rfl)) | ((with_reducible apply al_box); (iterate 4 exact rfl)) | ((with_reducible apply al_eql); (iterate 4 exact rfl)) | ((with_reducible apply al_neq); (iterate 4 exact rfl)) | ((with_reducible apply al_eqP); (iterate 4 exact rfl)) | ((with_reducible apply al_eqB); (iterate 4 exact rfl)) | ((with_reducible apply al_neqP); (iterate 4 exact rfl)) | ((with_reducible apply al_sub); (iterate 3 exact rfl); (first | exact i64_wrap (by omega) | assumption | rfl); exact rfl) | ((with_reducible apply al_mul); (iterate 3 exact rfl); (first | exact i64_wrap (by omega) | assumption | rfl); exact rfl) | ((with_reducible apply al_not); (iterate 3 exact rfl)) | (refine al_call0 rfl rfl (by first | (exact A1) | (exact R1) | (exact R2) | (exact M1) | (exact E1) | (exact R3)) rfl ?_) | (refine al_call1 rfl rfl rfl (by first | (exact A1) | (exact R1) | (exact R2) | (exact M1) | (exact E1) | (exact R3)) rfl ?_) | (refine al_call2 rfl rfl rfl rfl (by first | (exact A1) | (exact R1) | (exact R2) | (exact M1) | (exact E1) | (exact R3)) rfl ?_) | (refine al_call4 rfl rfl rfl rfl rfl rfl (by first | (exact A1) | (exact R1) | (exact R2) | (exact M1) | (exact E1) | (exact R3)) rfl ?_) | ((with_reducible apply al_pass); exact rfl; (rintro d ⟨⟩; rfl)) | ((with_reducible apply al_guard_b (c := true)); exact rfl; exact rfl; (first | assumption | exact decide_eq_true (by omega) | (simp only [Bool.not_eq_true', decide_eq_false_iff_not, decide_eq_true_eq, Bool.not_eq_false']; omega))) | ((with_reducible apply al_guard_b (c := false)); exact rfl; exact rfl; (first | assumption | exact decide_eq_false (by omega) | (simp only [Bool.not_eq_true', decide_eq_false_iff_not, decide_eq_true_eq, Bool.not_eq_false']; omega))) | ((with_reducible apply al_bin); (iterate 5 exact rfl); (intro W; go_simp; try rfl); (intro W; go_simp; try rfl); exact rfl; exact rfl) | ((with_reducible apply al_un); exact rfl; exact rfl; (intro W; go_simp; try rfl); exact rfl; exact rfl))))); (repeat (first | ((with_reducible apply awp_seq)) | ((with_reducible apply athen_normal)) | ((with_reducible apply awp_region)) | ((with_reducible apply al_nilS); (kernel_rfl)) | ((with_reducible apply awp_region_draw); (kernel_rfl); (kernel_rfl); exact rfl) | ((with_reducible apply awp_cond_t); exact rfl) | ((with_reducible apply awp_cond_f); exact rfl) | ((with_reducible apply awp_cond_1); exact rfl; (first | assumption | exact decide_eq_true (by omega) | (simp only [Bool.not_eq_true', decide_eq_false_iff_not, decide_eq_true_eq, Bool.not_eq_false']; omega))) | ((with_reducible apply awp_cond_0); exact rfl; (first | assumption | exact decide_eq_false (by omega) | (simp only [Bool.not_eq_true', decide_eq_false_iff_not, decide_eq_true_eq, Bool.not_eq_false']; omega))) | ((with_reducible apply al_nil)) | ((with_reducible apply awp_ret)) | ((with_reducible apply awp_skip)) | ((with_reducible apply athen_ret)))))
      (first | (refine apost_ret rfl (resl_tmp rfl resl_nil) ?_))
      exact AV.Le.refl _
  | true =>
    obtain ⟨M2, M3, F1, F2, K1, K2, E2, O1, E3⟩ := N rfl
    clear N
    rcases hx with ⟨h1, h2, h3⟩ | ⟨h1, h2, h3⟩
    all_goals
      refine pcall_body (f := 8) Try.func8 rfl rfl rfl rfl ?_
      ((repeat ((repeat (first | ((with_reducible apply awp_seq)) | ((with_reducible apply athen_normal)) | ((with_reducible apply awp_region)) | ((with_reducible apply al_nilS); (kernel_rfl)) | ((with_reducible apply awp_region_draw); (kernel_rfl); (kernel_rfl); exact rfl) | ((with_reducible apply awp_cond_t); exact rfl) | ((with_reducible apply awp_cond_f); exact rfl) | ((with_reducible apply awp_cond_1); exact rfl; (first | assumption | exact decide_eq_true (by omega) | (simp only [Bool.not_eq_true', decide_eq_false_iff_not, decide_eq_true_eq, Bool.not_eq_false']; omega))) | ((with_reducible apply awp_cond_0); exact rfl; (first | assumption | exact decide_eq_false (by omega) | (simp only [Bool.not_eq_true', decide_eq_false_iff_not, decide_eq_true_eq, Bool.not_eq_false']; omega))) | ((with_reducible apply al_nil)) | ((with_reducible apply awp_ret)) | ((with_reducible apply awp_skip)) | ((with_reducible apply athen_ret)))); (first | ((with_reducible apply al_loadN); (iterate 5 exact rfl)) | ((with_reducible apply al_load1); (iterate 5 exact rfl)) | ((with_reducible apply al_move); (iterate 3 exact rfl)) | ((with_reducible apply al_fld); (iterate 3 exact rfl)) | ((with_reducible apply al_store); (iterate 6 exact rfl)) | ((with_reducible apply al_pick_t); (iterate 5 exact rfl)) | ((with_reducible apply al_pick_f); (iterate 5 exact rfl)) | ((with_reducible apply al_assign); (iterate 3 exact rfl)) | ((with_reducible apply al_build); (iterate 5 exact rfl)) | ((with_reducible apply al_alloc); (iterate 4 exact rfl)) | ((with_reducible apply al_box); (iterate 4 exact rfl)) | ((with_reducible apply al_eql); (iterate 4 exact rfl)) | ((with_reducible apply al_neq); (iterate 4 exact rfl)) | ((with_reducible apply al_eqP); (iterate 4 exact rfl)) | ((with_reducible apply al_eqB); (iterate 4 exact rfl)) | ((with_reducible apply al_neqP); (iterate 4 exact rfl)) | ((with_reducible apply al_sub); (iterate 3 exact rfl); (first | exact i64_wrap (by omega) | assumption | rfl); exact rfl) | ((with_reducible apply al_mul); (iterate 3 exact rfl); (first | exact i64_wrap (by omega) | assumption | rfl); exact rfl) | ((with_reducible apply al_not); (iterate 3 exact rfl)) | (refine al_call0 rfl rfl (by first | (exact A1) | (exact R1) | (exact R2) | (exact M1) | (exact E1) | (exact R3) | (exact M2) | (exact M3) | (exact F1) | (exact F2) | (exact K1) | (exact K2) | (exact E2) | (exact O1) | (exact E3)) rfl ?_) | (refine al_call1 rfl rfl rfl (by first | (exact A1) | (exact R1) | (exact R2) | (exact M1) | (exact E1) | (exact R3) | (exact M2) | (exact M3) | (exact F1) | (exact F2) | (exact K1) | (exact K2) | (exact E2) | (exact O1) | (exact E3)) rfl ?_) | (refine al_call2 rfl rfl rfl rfl (by first | (exact A1) | (exact R1) | (exact R2) | (exact M1) | (exact E1) | (exact R3) | (exact M2) | (exact M3) | (exact F1) | (exact F2) | (exact K1) | (exact K2) | (exact E2) | (exact O1) | (exact E3)) rfl ?_) | (refine al_call4 rfl rfl rfl rfl rfl rfl (by first | (exact A1) | (exact R1) | (exact R2) | (exact M1) | (exact E1) | (exact R3) | (exact M2) | (exact M3) | (exact F1) | (exact F2) | (exact K1) | (exact K2) | (exact E2) | (exact O1) | (exact E3)) rfl ?_) | ((with_reducible apply al_pass); exact rfl; (rintro d ⟨⟩; rfl)) | ((with_reducible apply al_guard_b (c := true)); exact rfl; exact rfl; (first | assumption | exact decide_eq_true (by omega) | (simp only [Bool.not_eq_true', decide_eq_false_iff_not, decide_eq_true_eq, Bool.not_eq_false']; omega))) | ((with_reducible apply al_guard_b (c := false)); exact rfl; exact rfl; (first | assumption | exact decide_eq_false (by omega) | (simp only [Bool.not_eq_true', decide_eq_false_iff_not, decide_eq_true_eq, Bool.not_eq_false']; omega))) | ((with_reducible apply al_bin); (iterate 5 exact rfl); (intro W; go_simp; try rfl); (intro W; go_simp; try rfl); exact rfl; exact rfl) | ((with_reducible apply al_un); exact rfl; exact rfl; (intro W; go_simp; try rfl); exact rfl; exact rfl)); (repeat (first | ((with_reducible apply al_loadN); (iterate 5 exact rfl)) | ((with_reducible apply al_load1); (iterate 5 exact rfl)) | ((with_reducible apply al_move); (iterate 3 exact rfl)) | ((with_reducible apply al_fld); (iterate 3 exact rfl)) | ((with_reducible apply al_store); (iterate 6 exact rfl)) | ((with_reducible apply al_pick_t); (iterate 5 exact rfl)) | ((with_reducible apply al_pick_f); (iterate 5 exact rfl)) | ((with_reducible apply al_assign); (iterate 3 exact rfl)) | ((with_reducible apply al_build); (iterate 5 exact rfl)) | ((with_reducible apply al_alloc); (iterate 4 exact rfl)) | ((with_reducible apply al_box); (iterate 4 exact rfl)) | ((with_reducible apply al_eql); (iterate 4 exact rfl)) | ((with_reducible apply al_neq); (iterate 4 exact rfl)) | ((with_reducible apply al_eqP); (iterate 4 exact rfl)) | ((with_reducible apply al_eqB); (iterate 4 exact rfl)) | ((with_reducible apply al_neqP); (iterate 4 exact rfl)) | ((with_reducible apply al_sub); (iterate 3 exact rfl); (first | exact i64_wrap (by omega) | assumption | rfl); exact rfl) | ((with_reducible apply al_mul); (iterate 3 exact rfl); (first | exact i64_wrap (by omega) | assumption | rfl); exact rfl) | ((with_reducible apply al_not); (iterate 3 exact rfl)) | (refine al_call0 rfl rfl (by first | (exact A1) | (exact R1) | (exact R2) | (exact M1) | (exact E1) | (exact R3) | (exact M2) | (exact M3) | (exact F1) | (exact F2) | (exact K1) | (exact K2) | (exact E2) | (exact O1) | (exact E3)) rfl ?_) | (refine al_call1 rfl rfl rfl (by first | (exact A1) | (exact R1) | (exact R2) | (exact M1) | (exact E1) | (exact R3) | (exact M2) | (exact M3) | (exact F1) | (exact F2) | (exact K1) | (exact K2) | (exact E2) | (exact O1) | (exact E3)) rfl ?_) | (refine al_call2 rfl rfl rfl rfl (by first | (exact A1) | (exact R1) | (exact R2) | (exact M1) | (exact E1) | (exact R3) | (exact M2) | (exact M3) | (exact F1) | (exact F2) | (exact K1) | (exact K2) | (exact E2) | (exact O1) | (exact E3)) rfl ?_) | (refine al_call4 rfl rfl rfl rfl rfl rfl (by first | (exact A1) | (exact R1) | (exact R2) | (exact M1) | (exact E1) | (exact R3) | (exact M2) | (exact M3) | (exact F1) | (exact F2) | (exact K1) | (exact K2) | (exact E2) | (exact O1) | (exact E3)) rfl ?_) | ((with_reducible apply al_pass); exact rfl; (rintro d ⟨⟩; rfl)) | ((with_reducible apply al_guard_b (c := true)); exact rfl; exact rfl; (first | assumption | exact decide_eq_true (by omega) | (simp only [Bool.not_eq_true', decide_eq_false_iff_not, decide_eq_true_eq, Bool.not_eq_false']; omega))) | ((with_reducible apply al_guard_b (c := false)); exact rfl; exact rfl; (first | assumption | exact decide_eq_false (by omega) | (simp only [Bool.not_eq_true', decide_eq_false_iff_not, decide_eq_true_eq, Bool.not_eq_false']; omega))) | ((with_reducible apply al_bin); (iterate 5 exact rfl); (intro W; go_simp; try rfl); (intro W; go_simp; try rfl); exact rfl; exact rfl) | ((with_reducible apply al_un); exact rfl; exact rfl; (intro W; go_simp; try rfl); exact rfl; exact rfl))))); (repeat (first | ((with_reducible apply awp_seq)) | ((with_reducible apply athen_normal)) | ((with_reducible apply awp_region)) | ((with_reducible apply al_nilS); (kernel_rfl)) | ((with_reducible apply awp_region_draw); (kernel_rfl); (kernel_rfl); exact rfl) | ((with_reducible apply awp_cond_t); exact rfl) | ((with_reducible apply awp_cond_f); exact rfl) | ((with_reducible apply awp_cond_1); exact rfl; (first | assumption | exact decide_eq_true (by omega) | (simp only [Bool.not_eq_true', decide_eq_false_iff_not, decide_eq_true_eq, Bool.not_eq_false']; omega))) | ((with_reducible apply awp_cond_0); exact rfl; (first | assumption | exact decide_eq_false (by omega) | (simp only [Bool.not_eq_true', decide_eq_false_iff_not, decide_eq_true_eq, Bool.not_eq_false']; omega))) | ((with_reducible apply al_nil)) | ((with_reducible apply awp_ret)) | ((with_reducible apply awp_skip)) | ((with_reducible apply athen_ret)))))
      (first | (refine apost_ret rfl (resl_tmp rfl resl_nil) ?_))
      exact AV.Le.refl _
theorem cse {a1 a2 b1 b2 : Int} : PCall Try.prog 8 [vP a1 a2, vP b1 b2] (vB true) := by
  have R1 := p_r5Right (x := a1) (y := a2) rfl
  have R2 := p_r5Right (x := b1) (y := b2) rfl
  cases ha : rB5 a1 a2 with
  | false => rw [ha] at R1; exact cse_no p_alive5 R1 R2 (.inl rfl)
  | true =>
    cases hb : rB5 b1 b2 with
    | false => rw [ha] at R1; rw [hb] at R2; exact cse_no p_alive5 R1 R2 (.inr (.inl ⟨rfl, rfl⟩))
    | true =>
      cases he : eqP a1 a2 b1 b2 with
      | true => rw [ha] at R1; rw [hb] at R2; exact cse_no p_alive5 R1 R2 (.inr (.inr ⟨rfl, rfl, he⟩))
      | false =>
        rw [ha] at R1
        rw [hb] at R2
        have hne : ¬ (a1 = b1 ∧ a2 = b2) := fun k => by rw [eqP_iff.2 k] at he; cases he
        have ka := rB5_iff.1 ha
        have kb := rB5_iff.1 hb
        have M1 := p_cMeet_yes ha hb hb ha
        have E1 := p_cEnds (a1 := a1) (a2 := a2) (b1 := b1) (b2 := b2) (c1 := b1) (c2 := b2) (d1 := a1) (d2 := a2)
        have m1 : mAll a1 a2 b1 b2 b1 b2 a1 a2 = meetV a1 a2 b1 b2 b1 b2 a1 a2 := by unfold mAll; rw [ha, hb]; rfl
        rw [self_one hne] at m1 M1
        have hL : (lo1 a1 a2 b1 b2 = a1 ∧ lo2 a1 a2 b1 b2 = a2 ∧ hi1 a1 a2 b1 b2 = b1 ∧ hi2 a1 a2 b1 b2 = b2) ∨ (lo1 a1 a2 b1 b2 = b1 ∧ lo2 a1 a2 b1 b2 = b2 ∧ hi1 a1 a2 b1 b2 = a1 ∧ hi2 a1 a2 b1 b2 = a2) := by
          rcases lh_or a1 a2 b1 b2 with ⟨h1, h2, h3, h4, _⟩ | ⟨h1, h2, h3, h4, _⟩
          · exact .inl ⟨h1, h2, h3, h4⟩
          · exact .inr ⟨h1, h2, h3, h4⟩
        have e1 : endB (mAll a1 a2 b1 b2 b1 b2 a1 a2) a1 a2 b1 b2 b1 b2 a1 a2 = true := by
          obtain ⟨h1, h2, h3, h4⟩ := lh_comm a1 a2 b1 b2
          unfold endB eqB
          rw [m1, h1, h2, h3, h4]
          simp only [alM]
          rw [if_neg (by decide), if_pos trivial, eqP_self, eqP_self]
          rfl
        rw [e1] at E1
        have nb : eqP b1 b2 a1 a2 = false := by rw [eqP_comm]; exact he
        obtain ⟨D, hs⟩ := self_next hne (rfl : 2 * b1 - a1 = _) (rfl : 2 * b2 - a2 = _)
        refine cse_core (c1 := 2 * b1 - a1) (c2 := 2 * b2 - a2) (r := rB5 (2 * b1 - a1) (2 * b2 - a2)) p_alive5 R1 R2 he (i64_wrap (by omega)) (i64_wrap (by omega)) (i64_wrap (by omega)) (i64_wrap (by omega)) M1 E1 ?_ ?_ (p_r5Right rfl) (n := b1 * D) (d := D) (m := b2 * D) (e := D) ?_
        · rcases hL with ⟨h1, h2, h3, h4⟩ | ⟨h1, h2, h3, h4⟩ <;> rw [h1, h2, h3, h4] <;> assumption
        · rcases hL with ⟨h1, h2, h3, h4⟩ | ⟨h1, h2, h3, h4⟩ <;> rw [h1, h2, h3, h4]
          · left; simp only [alM]; rw [eqP_self, eqP_self, nb]; exact ⟨rfl, rfl, rfl⟩
          · right; simp only [alM]; rw [eqP_self, eqP_self, nb]; exact ⟨rfl, rfl, rfl⟩
        intro hc
        have h2 := self_two hne (rfl : 2 * b1 - a1 = _) (rfl : 2 * b2 - a2 = _)
        have cn : ¬ (2 * b1 - a1 = b1 ∧ 2 * b2 - a2 = b2) := by omega
        have cl : ∀ {p q : Int}, lx a1 a2 b1 b2 → (p = 2 * b1 - a1 ∧ q = 2 * b2 - a2) → lx a1 a2 p q := fun h k => by unfold lx at *; omega
        have cg : ∀ {p q : Int}, ¬ lx a1 a2 b1 b2 → (p = 2 * b1 - a1 ∧ q = 2 * b2 - a2) → ¬ lx a1 a2 p q := fun h k => by unfold lx at *; omega
        have cl' := fun h => cl h (p := 2 * b1 - a1) (q := 2 * b2 - a2) ⟨rfl, rfl⟩
        have cg' := fun h => cg h (p := 2 * b1 - a1) (q := 2 * b2 - a2) ⟨rfl, rfl⟩
        clear cl cg
        generalize 2 * b1 - a1 = c1 at *
        generalize 2 * b2 - a2 = c2 at *
        have kc := rB5_iff.1 hc
        have M2 := p_cMeet_yes ha hb hb hc
        have M3 := p_cMeet_yes ha hc hb ha
        rw [hs] at M2
        rw [h2] at M3
        have m2 : mAll a1 a2 b1 b2 b1 b2 c1 c2 = plM (b1 * D) D (b2 * D) D := by unfold mAll; rw [ha, hb, hc]; exact hs
        have m3 : mAll a1 a2 c1 c2 b1 b2 a1 a2 = alM (lo1 a1 a2 b1 b2) (lo2 a1 a2 b1 b2) (hi1 a1 a2 b1 b2) (hi2 a1 a2 b1 b2) := by unfold mAll; rw [ha, hb, hc]; exact h2
        have g2 := mAll_good a1 a2 b1 b2 b1 b2 c1 c2
        rw [m2] at g2
        have gg : 0 < D ∧ fits (b1 * D) = true ∧ fits (b2 * D) = true ∧ fits D = true := by
          rcases g2 with g | ⟨x, y, d, g, h0, h1, hx, hy⟩ | ⟨f1, f2, g1, g2, g⟩
          · simp [plM, noM] at g
          · simp only [plM, Mt.mk.injEq] at g
            obtain ⟨_, rfl, rfl, rfl, _⟩ := g
            exact ⟨h0, fits_84 hx, fits_84 hy, by unfold fits; rw [decide_eq_true_eq]; omega⟩
          · simp [plM, alM] at g
        obtain ⟨h0, fx, fy, fd⟩ := gg
        have E2 := p_cEnds (a1 := a1) (a2 := a2) (b1 := b1) (b2 := b2) (c1 := b1) (c2 := b2) (d1 := c1) (d2 := c2)
        have e2 : endB (mAll a1 a2 b1 b2 b1 b2 c1 c2) a1 a2 b1 b2 b1 b2 c1 c2 = true := by
          unfold endB
          rw [m2, eqP_self]
          simp [plM]
        rw [e2] at E2
        have E3 := p_cEnds (a1 := a1) (a2 := a2) (b1 := c1) (b2 := c2) (c1 := b1) (c2 := b2) (d1 := a1) (d2 := a2)
        have e3 : endB (mAll a1 a2 c1 c2 b1 b2 a1 a2) a1 a2 c1 c2 b1 b2 a1 a2 = false := by
          unfold endB
          rw [m3]
          simp only [alM]
          rw [if_neg (by decide), if_pos trivial]
          obtain ⟨l1, l2, l3, l4⟩ := lh_comm a1 a2 b1 b2
          rw [l1, l2, l3, l4, Bool.eq_false_iff]
          intro hh
          unfold eqB at hh
          rw [Bool.and_eq_true, eqP_iff, eqP_iff] at hh
          by_cases h : lx a1 a2 b1 b2
          · obtain ⟨r1, r2, r3, r4⟩ := lx_sorted h
            obtain ⟨s1, s2, s3, s4⟩ := lx_sorted (cl' h)
            rw [r1, r2, r3, r4, s1, s2, s3, s4] at hh
            exact cn hh.2
          · obtain ⟨r1, r2, r3, r4⟩ := lx_un h
            obtain ⟨s1, s2, s3, s4⟩ := lx_un (cg' h)
            rw [r1, r2, r3, r4, s1, s2, s3, s4] at hh
            exact cn hh.1
        rw [e3] at E3
        exact ⟨M2, M3, p_fOf (by omega) (by omega), p_fOf (by omega) (by omega), cmp_mul fx fd (fits_small (by omega) (by omega)) h0, cmp_mul fy fd (fits_small (by omega) (by omega)) h0, E2, p_one (.inr (.inr ⟨_, _, _, _, rfl⟩)), E3⟩
theorem cse_walk (a1 a2 b1 b2 : Int) (W : World) (_ : -9223372036854775808 ≤ a1 ∧ a1 ≤ 9223372036854775807) (_ : -9223372036854775808 ≤ a2 ∧ a2 ≤ 9223372036854775807) (_ : -9223372036854775808 ≤ b1 ∧ b1 ≤ 9223372036854775807) (_ : -9223372036854775808 ≤ b2 ∧ b2 ≤ 9223372036854775807) :
    Calls Try.prog 8 #[.agg #[.int .i64 a1, .int .i64 a2], .agg #[.int .i64 b1, .int .i64 b2]] W fun e W' => e = .returned (.bool true) ∧ Below W.heap.size W W' :=
  pcall_true cse [_, _] rfl rfl W
end Go.Proofs.Ytlhgmlebjnkonaa
