/-
  The reference package of layer 5, by values: Meet and Ends; they are cross's. My own text.
-/
import Derived.Test.YtlhgmlebjnkonaaCrossF
import Derived.Test.YtlhgmlebjnkonaaCrossE
import Derived.Test.YtlhgmlebjnkonaaCrossN
import Derived.Test.YtlhgmlebjnkonaaCrossD
namespace Go.Proofs.Ytlhgmlebjnkonaa
open Go.RowKit
set_option linter.unusedVariables false
set_option linter.unusedSimpArgs false
theorem p_r5Meet_par {a1 a2 b1 b2 c1 c2 d1 d2 : Int} (ha : rB5 a1 a2 = true) (hb : rB5 b1 b2 = true) (hc : rB5 c1 c2 = true) (hd : rB5 d1 d2 = true) (hw : wD a1 a2 b1 b2 c1 c2 d1 d2 = 0) : PCall Try.prog 14 [vP a1 a2, vP b1 b2, vP c1 c2, vP d1 d2] (vMr (meetV a1 a2 b1 b2 c1 c2 d1 d2)) := by
  have ka := rB5_iff.1 ha
  have kb := rB5_iff.1 hb
  have kc := rB5_iff.1 hc
  have kd := rB5_iff.1 hd
  have np : NB 5 (b2 - a2) := NB.i64 (by omega) (by omega)
  have nq : NB 5 (a1 - b1) := NB.i64 (by omega) (by omega)
  have ns : NB 5 (d2 - c2) := NB.i64 (by omega) (by omega)
  have nt : NB 5 (c1 - d1) := NB.i64 (by omega) (by omega)
  have z : NB 1000 (0 : Int) := by unfold NB; exact pow10_pos _
  have D0 := p_r5det (np.up (by omega)) (nq.up (by omega)) (ns.up (by omega)) (nt.up (by omega))
  have e0 : (b2 - a2) * (c1 - d1) - (a1 - b1) * (d2 - c2) = 0 := hw
  rw [e0] at D0
  rw [← rowM_eq hw]
  refine r5par_core (p_r5Right ha) (p_r5Right hb) (p_r5Right hc) (p_r5Right hd) (p_r5line ha hb rfl rfl rfl) (p_r5line hc hd rfl rfl rfl) (p_r5num (by omega) (by omega)) (p_r5num (by omega) (by omega)) (p_r5num (by omega) (by omega)) (p_r5num (by omega) (by omega)) (p_r5num (by omega) (by omega))
    D0 (icmp 0 0) (p_rCmp z z) (icmp_zero.2 rfl) ?_ ?_
  · intro p hp
    have hr : rB5 p.1 p.2 = true := by
      simp only [List.mem_cons, List.not_mem_nil, or_false] at hp
      rcases hp with rfl | rfl | rfl | rfl <;> assumption
    rw [onB_On (rB5_rB ha) (rB5_rB hb) (rB5_rB hr), onB_On (rB5_rB hc) (rB5_rB hd) (rB5_rB hr)]
  · intro p hp
    simp only [List.mem_cons, List.not_mem_nil, or_false] at hp
    rcases hp with rfl | rfl | rfl | rfl <;> assumption
theorem p_r5Meet {a1 a2 b1 b2 c1 c2 d1 d2 : Int} : PCall Try.prog 14 [vP a1 a2, vP b1 b2, vP c1 c2, vP d1 d2] (vMr (mAll a1 a2 b1 b2 c1 c2 d1 d2)) := by
  unfold mAll
  by_cases h : (rB5 a1 a2 && rB5 b1 b2 && rB5 c1 c2 && rB5 d1 d2) = true
  · rw [if_pos h]
    simp only [Bool.and_eq_true] at h
    by_cases hw : wD a1 a2 b1 b2 c1 c2 d1 d2 = 0
    · exact p_r5Meet_par h.1.1.1 h.1.1.2 h.1.2 h.2 hw
    · have := p_r5Meet_cross h.1.1.1 h.1.1.2 h.1.2 h.2 hw
      unfold meetV
      rw [if_neg hw]
      exact this
  · rw [if_neg h]
    exact p_r5Meet_not (by simpa using h)
/-! a meeting is good: its numbers fit -/
theorem wD_bd {a1 a2 b1 b2 c1 c2 d1 d2 : Int} (ha : rB5 a1 a2 = true) (hb : rB5 b1 b2 = true) (hc : rB5 c1 c2 = true) (hd : rB5 d1 d2 = true) : -144115188075855872 ≤ wD a1 a2 b1 b2 c1 c2 d1 d2 ∧ wD a1 a2 b1 b2 c1 c2 d1 d2 ≤ 144115188075855872 := by
  rw [rB5_iff] at ha hb hc hd
  have m1 := mul56 (x := b2 - a2) (y := c1 - d1) (by omega) (by omega) (by omega) (by omega)
  have m2 := mul56 (x := a1 - b1) (y := d2 - c2) (by omega) (by omega) (by omega) (by omega)
  unfold wD
  omega
theorem bw_bd {n d a b : Int} (h : bw n d a b) (a0 : -134217728 ≤ a) (a1 : a ≤ 134217728) (b0 : -134217728 ≤ b) (b1 : b ≤ 134217728) (d0 : 0 ≤ d) (d1 : d ≤ 144115188075855872) : -19342813113834066795298816 ≤ n ∧ n ≤ 19342813113834066795298816 := by
  obtain ⟨h0, h1⟩ := h
  have i0 : -134217728 ≤ imin a b ∧ imin a b ≤ 134217728 := by unfold imin; split <;> omega
  have i1 : -134217728 ≤ imax a b ∧ imax a b ≤ 134217728 := by unfold imax; split <;> omega
  have m0 := bd_83 i0.1 i0.2 (show -144115188075855872 ≤ d by omega) d1
  have m1 := bd_83 i1.1 i1.2 (show -144115188075855872 ≤ d by omega) d1
  omega
/-- numbers that fit, a place's. -/
def GoodM (M : Mt) : Prop := (M = noM) ∨ (∃ x y d, M = plM x d y d ∧ 0 < d ∧ d ≤ 144115188075855872 ∧ (-19342813113834066795298816 ≤ x ∧ x ≤ 19342813113834066795298816) ∧ (-19342813113834066795298816 ≤ y ∧ y ≤ 19342813113834066795298816)) ∨ (∃ f1 f2 g1 g2, M = alM f1 f2 g1 g2)
theorem good_pl {a1 a2 b1 b2 c1 c2 d1 d2 x y d : Int} (ha : rB5 a1 a2 = true) (hb : rB5 b1 b2 = true) (hc : rB5 c1 c2 = true) (hd : rB5 d1 d2 = true) (h0 : 0 < d) (h1 : d = 1 ∨ d = nr2 (wD a1 a2 b1 b2 c1 c2 d1 d2)) (hf : four a1 a2 b1 b2 c1 c2 d1 d2 x y d) :
    d ≤ 144115188075855872 ∧ (-19342813113834066795298816 ≤ x ∧ x ≤ 19342813113834066795298816) ∧ (-19342813113834066795298816 ≤ y ∧ y ≤ 19342813113834066795298816) := by
  have hb' := wD_bd ha hb hc hd
  rw [rB5_iff] at ha hb
  have hd1 : d ≤ 144115188075855872 := by
    rcases h1 with rfl | rfl
    · omega
    · unfold nr2; split <;> omega
  exact ⟨hd1, bw_bd hf.1 ha.1.1 ha.1.2 hb.1.1 hb.1.2 (by omega) hd1, bw_bd hf.2.1 ha.2.1 ha.2.2 hb.2.1 hb.2.2 (by omega) hd1⟩
theorem mAll_good (a1 a2 b1 b2 c1 c2 d1 d2 : Int) : GoodM (mAll a1 a2 b1 b2 c1 c2 d1 d2) := by
  unfold mAll
  by_cases h : (rB5 a1 a2 && rB5 b1 b2 && rB5 c1 c2 && rB5 d1 d2) = true
  · rw [if_pos h]
    simp only [Bool.and_eq_true] at h
    rcases mv_kinds a1 a2 b1 b2 c1 c2 d1 d2 with ⟨e, _⟩ | ⟨x, y, d, e, h0, h1, hf, _⟩ | ⟨f1, f2, g1, g2, e, _⟩
    · exact .inl e
    · exact .inr (.inl ⟨x, y, d, e, h0, good_pl h.1.1.1 h.1.1.2 h.1.2 h.2 h0 h1 hf⟩)
    · exact .inr (.inr ⟨f1, f2, g1, g2, e⟩)
  · rw [if_neg h]; exact .inl rfl
theorem fits_84 {x : Int} (h : -19342813113834066795298816 ≤ x ∧ x ≤ 19342813113834066795298816) : fits x = true := by unfold fits; rw [decide_eq_true_eq]; omega
/-! is a place a point's? -/
set_option maxRecDepth 100000 in
set_option maxHeartbeats 4000000 in
theorem p_r5is {x y d p1 p2 : Int} {r : Bool} (hp : rB5 p1 p2 = true) (nx : NB 150 x) (ny : NB 150 y) (nd : NB 150 d) (hr : decide (x = p1 * d ∧ y = p2 * d) = r) : PCall Try.prog 39 [vM5 1 x d y d 0 0 0 0, vP p1 p2] (vB r) := by
  have hb := rB5_iff.1 hp
  have A1 := p_r5at hp
  have n1 : NB 5 p1 := NB.i64 (by omega) (by omega)
  have n2 : NB 5 p2 := NB.i64 (by omega) (by omega)
  have n3 : NB 5 (1 : Int) := NB.i64 (by omega) (by omega)
  have C1 := p_r2Cmp (n := x) (d := d) (m := p1) (e := 1) (nx.up (by omega)) (nd.up (by omega)) (n1.up (by omega)) (n3.up (by omega))
  have C2 := p_r2Cmp (n := y) (d := d) (m := p2) (e := 1) (ny.up (by omega)) (nd.up (by omega)) (n2.up (by omega)) (n3.up (by omega))
  rw [Int.mul_one] at C1 C2
  have q : ∀ u v : Int, icmp u v = 0 ↔ u = v := fun u v => by unfold icmp; split <;> (try split) <;> omega
  have cs : (¬ icmp x (p1 * d) = 0 ∧ r = false) ∨ (icmp x (p1 * d) = 0 ∧ icmp y (p2 * d) = 0 ∧ r = true) ∨ (icmp x (p1 * d) = 0 ∧ ¬ icmp y (p2 * d) = 0 ∧ r = false) := by
    rw [← hr, q, q]
    by_cases h1 : x = p1 * d <;> by_cases h2 : y = p2 * d <;> simp [h1, h2]
  clear hr q n1 n2 n3 nx ny nd hp hb
  generalize icmp x (p1 * d) = c1 at *
  generalize icmp y (p2 * d) = c2 at *
  rcases cs with ⟨q1, rfl⟩ | ⟨q1, q2, rfl⟩ | ⟨q1, q2, rfl⟩
  all_goals
    refine pcall_body (f := 39) Try.func39 rfl rfl rfl rfl ?_
    ((repeat ((repeat (first | ((with_reducible apply awp_seq)) | ((with_reducible apply athen_normal)) | ((with_reducible apply awp_region)) | ((with_reducible apply al_nilS); (kernel_rfl)) | ((with_reducible apply awp_region_draw); (kernel_rfl); (kernel_rfl); exact rfl) | ((with_reducible apply al_nil)) | ((with_reducible apply awp_ret)) | ((with_reducible apply awp_skip)) | ((with_reducible apply athen_ret)))); (first | ((with_reducible apply al_loadN); (iterate 5 exact rfl)) | ((with_reducible apply al_load1); (iterate 5 exact rfl)) | ((with_reducible apply al_move); (iterate 3 exact rfl)) | ((with_reducible apply al_fld); (iterate 3 exact rfl)) | ((with_reducible apply al_store); (iterate 6 exact rfl)) | ((with_reducible apply al_pick_t); (iterate 5 exact rfl)) | ((with_reducible apply al_pick_f); (iterate 5 exact rfl)) | ((with_reducible apply al_assign); (iterate 3 exact rfl)) | ((with_reducible apply al_alloc); (iterate 4 exact rfl)) | ((with_reducible apply al_box); (iterate 4 exact rfl)) | ((with_reducible apply al_eql); (iterate 4 exact rfl)) | ((with_reducible apply al_eqP); (iterate 4 exact rfl)) | ((with_reducible apply al_eqB); (iterate 4 exact rfl)) | (refine al_call1 rfl rfl rfl (by first | (exact A1) | (exact C1) | (exact C2)) rfl ?_) | (refine al_call2 rfl rfl rfl rfl (by first | (exact A1) | (exact C1) | (exact C2)) rfl ?_) | ((with_reducible apply al_pass); exact rfl; (rintro d ⟨⟩; rfl)) | ((with_reducible apply al_guard_b (c := true)); exact rfl; exact rfl; (first | assumption | exact decide_eq_true (by omega) | (simp only [Bool.not_eq_true', decide_eq_false_iff_not, decide_eq_true_eq, Bool.not_eq_false']; omega))) | ((with_reducible apply al_guard_b (c := false)); exact rfl; exact rfl; (first | assumption | exact decide_eq_false (by omega) | (simp only [Bool.not_eq_true', decide_eq_false_iff_not, decide_eq_true_eq, Bool.not_eq_false']; omega))) | ((with_reducible apply al_bin); (iterate 5 exact rfl); (intro W; go_simp; try rfl); (intro W; go_simp; try rfl); exact rfl; exact rfl)); (repeat (first | ((with_reducible apply al_loadN); (iterate 5 exact rfl)) | ((with_reducible apply al_load1); (iterate 5 exact rfl)) | ((with_reducible apply al_move); (iterate 3 exact rfl)) | ((with_reducible apply al_fld); (iterate 3 exact rfl)) | ((with_reducible apply al_store); (iterate 6 exact rfl)) | ((with_reducible apply al_pick_t); (iterate 5 exact rfl)) | ((with_reducible apply al_pick_f); (iterate 5 exact rfl)) | ((with_reducible apply al_assign); (iterate 3 exact rfl)) | ((with_reducible apply al_alloc); (iterate 4 exact rfl)) | ((with_reducible apply al_box); (iterate 4 exact rfl)) | ((with_reducible apply al_eql); (iterate 4 exact rfl)) | ((with_reducible apply al_eqP); (iterate 4 exact rfl)) | ((with_reducible apply al_eqB); (iterate 4 exact rfl)) | (refine al_call1 rfl rfl rfl (by first | (exact A1) | (exact C1) | (exact C2)) rfl ?_) | (refine al_call2 rfl rfl rfl rfl (by first | (exact A1) | (exact C1) | (exact C2)) rfl ?_) | ((with_reducible apply al_pass); exact rfl; (rintro d ⟨⟩; rfl)) | ((with_reducible apply al_guard_b (c := true)); exact rfl; exact rfl; (first | assumption | exact decide_eq_true (by omega) | (simp only [Bool.not_eq_true', decide_eq_false_iff_not, decide_eq_true_eq, Bool.not_eq_false']; omega))) | ((with_reducible apply al_guard_b (c := false)); exact rfl; exact rfl; (first | assumption | exact decide_eq_false (by omega) | (simp only [Bool.not_eq_true', decide_eq_false_iff_not, decide_eq_true_eq, Bool.not_eq_false']; omega))) | ((with_reducible apply al_bin); (iterate 5 exact rfl); (intro W; go_simp; try rfl); (intro W; go_simp; try rfl); exact rfl; exact rfl))))); (repeat (first | ((with_reducible apply awp_seq)) | ((with_reducible apply athen_normal)) | ((with_reducible apply awp_region)) | ((with_reducible apply al_nilS); (kernel_rfl)) | ((with_reducible apply awp_region_draw); (kernel_rfl); (kernel_rfl); exact rfl) | ((with_reducible apply al_nil)) | ((with_reducible apply awp_ret)) | ((with_reducible apply awp_skip)) | ((with_reducible apply athen_ret)))))
    (first | (refine apost_ret rfl (resl_tmp rfl resl_nil) ?_))
    first | exact AV.Le.refl _ | exact AV.Le.of_eq (by rw [decide_eq_true q2]; rfl) | exact AV.Le.of_eq (by rw [decide_eq_false q2]; rfl)
set_option maxRecDepth 100000 in
set_option maxHeartbeats 4000000 in
theorem r5Ends_no {a1 a2 b1 b2 c1 c2 d1 d2 : Int} (C1 : PCall Try.prog 14 [vP a1 a2, vP b1 b2, vP c1 c2, vP d1 d2] (vMr noM)) : PCall Try.prog 16 [vP a1 a2, vP b1 b2, vP c1 c2, vP d1 d2] (vB true) := by
  simp only [noM] at C1
  refine pcall_body (f := 16) Try.func16 rfl rfl rfl rfl ?_
  ((repeat ((repeat (first | ((with_reducible apply awp_seq)) | ((with_reducible apply athen_normal)) | ((with_reducible apply awp_region)) | ((with_reducible apply al_nilS); (kernel_rfl)) | ((with_reducible apply awp_region_draw); (kernel_rfl); (kernel_rfl); exact rfl) | ((with_reducible apply awp_cond_t); exact rfl) | ((with_reducible apply awp_cond_f); exact rfl) | ((with_reducible apply awp_cond_1); exact rfl; (first | assumption | exact decide_eq_true (by omega) | (simp only [Bool.not_eq_true', decide_eq_false_iff_not, decide_eq_true_eq, Bool.not_eq_false']; omega))) | ((with_reducible apply awp_cond_0); exact rfl; (first | assumption | exact decide_eq_false (by omega) | (simp only [Bool.not_eq_true', decide_eq_false_iff_not, decide_eq_true_eq, Bool.not_eq_false']; omega))) | ((with_reducible apply al_nil)) | ((with_reducible apply awp_ret)) | ((with_reducible apply awp_skip)) | ((with_reducible apply athen_ret)))); (first | ((with_reducible apply al_loadN); (iterate 5 exact rfl)) | ((with_reducible apply al_load1); (iterate 5 exact rfl)) | ((with_reducible apply al_move); (iterate 3 exact rfl)) | ((with_reducible apply al_fld); (iterate 3 exact rfl)) | ((with_reducible apply al_store); (iterate 6 exact rfl)) | ((with_reducible apply al_pick_t); (iterate 5 exact rfl)) | ((with_reducible apply al_pick_f); (iterate 5 exact rfl)) | ((with_reducible apply al_assign); (iterate 3 exact rfl)) | ((with_reducible apply al_alloc); (iterate 4 exact rfl)) | ((with_reducible apply al_box); (iterate 4 exact rfl)) | ((with_reducible apply al_eql); (iterate 4 exact rfl)) | ((with_reducible apply al_eqP); (iterate 4 exact rfl)) | ((with_reducible apply al_eqB); (iterate 4 exact rfl)) | (refine al_call2 rfl rfl rfl rfl (by first | (exact C1)) rfl ?_) | (refine al_call4 rfl rfl rfl rfl rfl rfl (by first | (exact C1)) rfl ?_) | ((with_reducible apply al_pass); exact rfl; (rintro d ⟨⟩; rfl)) | ((with_reducible apply al_guard_b (c := true)); exact rfl; exact rfl; (first | assumption | exact decide_eq_true (by omega) | (simp only [Bool.not_eq_true', decide_eq_false_iff_not, decide_eq_true_eq, Bool.not_eq_false']; omega))) | ((with_reducible apply al_guard_b (c := false)); exact rfl; exact rfl; (first | assumption | exact decide_eq_false (by omega) | (simp only [Bool.not_eq_true', decide_eq_false_iff_not, decide_eq_true_eq, Bool.not_eq_false']; omega))) | ((with_reducible apply al_bin); (iterate 5 exact rfl); (intro W; go_simp; try rfl); (intro W; go_simp; try rfl); exact rfl; exact rfl)); (repeat (first | ((with_reducible apply al_loadN); (iterate 5 exact rfl)) | ((with_reducible apply al_load1); (iterate 5 exact rfl)) | ((with_reducible apply al_move); (iterate 3 exact rfl)) | ((with_reducible apply al_fld); (iterate 3 exact rfl)) | ((with_reducible apply al_store); (iterate 6 exact rfl)) | ((with_reducible apply al_pick_t); (iterate 5 exact rfl)) | ((with_reducible apply al_pick_f); (iterate 5 exact rfl)) | ((with_reducible apply al_assign); (iterate 3 exact rfl)) | ((with_reducible apply al_alloc); (iterate 4 exact rfl)) | ((with_reducible apply al_box); (iterate 4 exact rfl)) | ((with_reducible apply al_eql); (iterate 4 exact rfl)) | ((with_reducible apply al_eqP); (iterate 4 exact rfl)) | ((with_reducible apply al_eqB); (iterate 4 exact rfl)) | (refine al_call2 rfl rfl rfl rfl (by first | (exact C1)) rfl ?_) | (refine al_call4 rfl rfl rfl rfl rfl rfl (by first | (exact C1)) rfl ?_) | ((with_reducible apply al_pass); exact rfl; (rintro d ⟨⟩; rfl)) | ((with_reducible apply al_guard_b (c := true)); exact rfl; exact rfl; (first | assumption | exact decide_eq_true (by omega) | (simp only [Bool.not_eq_true', decide_eq_false_iff_not, decide_eq_true_eq, Bool.not_eq_false']; omega))) | ((with_reducible apply al_guard_b (c := false)); exact rfl; exact rfl; (first | assumption | exact decide_eq_false (by omega) | (simp only [Bool.not_eq_true', decide_eq_false_iff_not, decide_eq_true_eq, Bool.not_eq_false']; omega))) | ((with_reducible apply al_bin); (iterate 5 exact rfl); (intro W; go_simp; try rfl); (intro W; go_simp; try rfl); exact rfl; exact rfl))))); (repeat (first | ((with_reducible apply awp_seq)) | ((with_reducible apply athen_normal)) | ((with_reducible apply awp_region)) | ((with_reducible apply al_nilS); (kernel_rfl)) | ((with_reducible apply awp_region_draw); (kernel_rfl); (kernel_rfl); exact rfl) | ((with_reducible apply awp_cond_t); exact rfl) | ((with_reducible apply awp_cond_f); exact rfl) | ((with_reducible apply awp_cond_1); exact rfl; (first | assumption | exact decide_eq_true (by omega) | (simp only [Bool.not_eq_true', decide_eq_false_iff_not, decide_eq_true_eq, Bool.not_eq_false']; omega))) | ((with_reducible apply awp_cond_0); exact rfl; (first | assumption | exact decide_eq_false (by omega) | (simp only [Bool.not_eq_true', decide_eq_false_iff_not, decide_eq_true_eq, Bool.not_eq_false']; omega))) | ((with_reducible apply al_nil)) | ((with_reducible apply awp_ret)) | ((with_reducible apply awp_skip)) | ((with_reducible apply athen_ret)))))
  (first | (refine apost_ret rfl (resl_tmp rfl resl_nil) ?_))
  exact AV.Le.refl _
set_option maxRecDepth 100000 in
set_option maxHeartbeats 4000000 in
theorem r5Ends_pl {a1 a2 b1 b2 c1 c2 d1 d2 x y d : Int} {u1 u2 u3 u4 r : Bool} (C1 : PCall Try.prog 14 [vP a1 a2, vP b1 b2, vP c1 c2, vP d1 d2] (vMr (plM x d y d)))
    (I1 : PCall Try.prog 39 [vM5 1 x d y d 0 0 0 0, vP a1 a2] (vB u1)) (I2 : PCall Try.prog 39 [vM5 1 x d y d 0 0 0 0, vP b1 b2] (vB u2)) (I3 : PCall Try.prog 39 [vM5 1 x d y d 0 0 0 0, vP c1 c2] (vB u3)) (I4 : PCall Try.prog 39 [vM5 1 x d y d 0 0 0 0, vP d1 d2] (vB u4))
    (hr : ((u1 || u2) && (u3 || u4)) = r) : PCall Try.prog 16 [vP a1 a2, vP b1 b2, vP c1 c2, vP d1 d2] (vB r) := by
  simp only [plM] at C1
  have cs : (u1 = true ∧ u3 = true ∧ r = true) ∨ (u1 = true ∧ u3 = false ∧ r = u4) ∨ (u1 = false ∧ u2 = true ∧ u3 = true ∧ r = true) ∨ (u1 = false ∧ u2 = true ∧ u3 = false ∧ r = u4) ∨ (u1 = false ∧ u2 = false ∧ r = false) := by
    rw [← hr]; cases u1 <;> cases u2 <;> cases u3 <;> simp
  clear hr
  rcases cs with ⟨rfl, rfl, rfl⟩ | ⟨rfl, rfl, rfl⟩ | ⟨rfl, rfl, rfl, rfl⟩ | ⟨rfl, rfl, rfl, rfl⟩ | ⟨rfl, rfl, rfl⟩
  all_goals
    refine pcall_body (f := 16) Try.func16 rfl rfl rfl rfl ?_
    ((repeat ((repeat (first | ((with_reducible apply awp_seq)) | ((with_reducible apply athen_normal)) | ((with_reducible apply awp_region)) | ((with_reducible apply al_nilS); (kernel_rfl)) | ((with_reducible apply awp_region_draw); (kernel_rfl); (kernel_rfl); exact rfl) | ((with_reducible apply awp_cond_t); exact rfl) | ((with_reducible apply awp_cond_f); exact rfl) | ((with_reducible apply awp_cond_1); exact rfl; (first | assumption | exact decide_eq_true (by omega) | (simp only [Bool.not_eq_true', decide_eq_false_iff_not, decide_eq_true_eq, Bool.not_eq_false']; omega))) | ((with_reducible apply awp_cond_0); exact rfl; (first | assumption | exact decide_eq_false (by omega) | (simp only [Bool.not_eq_true', decide_eq_false_iff_not, decide_eq_true_eq, Bool.not_eq_false']; omega))) | ((with_reducible apply al_nil)) | ((with_reducible apply awp_ret)) | ((with_reducible apply awp_skip)) | ((with_reducible apply athen_ret)))); (first | ((with_reducible apply al_loadN); (iterate 5 exact rfl)) | ((with_reducible apply al_load1); (iterate 5 exact rfl)) | ((with_reducible apply al_move); (iterate 3 exact rfl)) | ((with_reducible apply al_fld); (iterate 3 exact rfl)) | ((with_reducible apply al_store); (iterate 6 exact rfl)) | ((with_reducible apply al_pick_t); (iterate 5 exact rfl)) | ((with_reducible apply al_pick_f); (iterate 5 exact rfl)) | ((with_reducible apply al_assign); (iterate 3 exact rfl)) | ((with_reducible apply al_alloc); (iterate 4 exact rfl)) | ((with_reducible apply al_box); (iterate 4 exact rfl)) | ((with_reducible apply al_eql); (iterate 4 exact rfl)) | ((with_reducible apply al_eqP); (iterate 4 exact rfl)) | ((with_reducible apply al_eqB); (iterate 4 exact rfl)) | (refine al_call2 rfl rfl rfl rfl (by first | (exact C1) | (exact I1) | (exact I2) | (exact I3) | (exact I4)) rfl ?_) | (refine al_call4 rfl rfl rfl rfl rfl rfl (by first | (exact C1) | (exact I1) | (exact I2) | (exact I3) | (exact I4)) rfl ?_) | ((with_reducible apply al_pass); exact rfl; (rintro d ⟨⟩; rfl)) | ((with_reducible apply al_guard_b (c := true)); exact rfl; exact rfl; (first | assumption | exact decide_eq_true (by omega) | (simp only [Bool.not_eq_true', decide_eq_false_iff_not, decide_eq_true_eq, Bool.not_eq_false']; omega))) | ((with_reducible apply al_guard_b (c := false)); exact rfl; exact rfl; (first | assumption | exact decide_eq_false (by omega) | (simp only [Bool.not_eq_true', decide_eq_false_iff_not, decide_eq_true_eq, Bool.not_eq_false']; omega))) | ((with_reducible apply al_bin); (iterate 5 exact rfl); (intro W; go_simp; try rfl); (intro W; go_simp; try rfl); exact rfl; exact rfl)); (repeat (first | ((with_reducible apply al_loadN); (iterate 5 exact rfl)) | ((with_reducible apply al_load1); (iterate 5 exact rfl)) | ((with_reducible apply al_move); (iterate 3 exact rfl)) | ((with_reducible apply al_fld); (iterate 3 exact rfl)) | ((with_reducible apply al_store); (iterate 6 exact rfl)) | ((with_reducible apply al_pick_t); (iterate 5 exact rfl)) | ((with_reducible apply al_pick_f); (iterate 5 exact rfl)) | ((with_reducible apply al_assign); (iterate 3 exact rfl)) | ((with_reducible apply al_alloc); (iterate 4 exact rfl)) | ((with_reducible apply al_box); (iterate 4 exact rfl)) | ((with_reducible apply al_eql); (iterate 4 exact rfl)) | ((with_reducible apply al_eqP); (iterate 4 exact rfl)) | ((with_reducible apply al_eqB); (iterate 4 exact rfl)) | (refine al_call2 rfl rfl rfl rfl (by first | (exact C1) | (exact I1) | (exact I2) | (exact I3) | (exact I4)) rfl ?_) | (refine al_call4 rfl rfl rfl rfl rfl rfl (by first | (exact C1) | (exact I1) | (exact I2) | (exact I3) | (exact I4)) rfl ?_) | ((with_reducible apply al_pass); exact rfl; (rintro d ⟨⟩; rfl)) | ((with_reducible apply al_guard_b (c := true)); exact rfl; exact rfl; (first | assumption | exact decide_eq_true (by omega) | (simp only [Bool.not_eq_true', decide_eq_false_iff_not, decide_eq_true_eq, Bool.not_eq_false']; omega))) | ((with_reducible apply al_guard_b (c := false)); exact rfl; exact rfl; (first | assumption | exact decide_eq_false (by omega) | (simp only [Bool.not_eq_true', decide_eq_false_iff_not, decide_eq_true_eq, Bool.not_eq_false']; omega))) | ((with_reducible apply al_bin); (iterate 5 exact rfl); (intro W; go_simp; try rfl); (intro W; go_simp; try rfl); exact rfl; exact rfl))))); (repeat (first | ((with_reducible apply awp_seq)) | ((with_reducible apply athen_normal)) | ((with_reducible apply awp_region)) | ((with_reducible apply al_nilS); (kernel_rfl)) | ((with_reducible apply awp_region_draw); (kernel_rfl); (kernel_rfl); exact rfl) | ((with_reducible apply awp_cond_t); exact rfl) | ((with_reducible apply awp_cond_f); exact rfl) | ((with_reducible apply awp_cond_1); exact rfl; (first | assumption | exact decide_eq_true (by omega) | (simp only [Bool.not_eq_true', decide_eq_false_iff_not, decide_eq_true_eq, Bool.not_eq_false']; omega))) | ((with_reducible apply awp_cond_0); exact rfl; (first | assumption | exact decide_eq_false (by omega) | (simp only [Bool.not_eq_true', decide_eq_false_iff_not, decide_eq_true_eq, Bool.not_eq_false']; omega))) | ((with_reducible apply al_nil)) | ((with_reducible apply awp_ret)) | ((with_reducible apply awp_skip)) | ((with_reducible apply athen_ret)))))
    (first | (refine apost_ret rfl (resl_tmp rfl resl_nil) ?_))
    exact AV.Le.refl _
set_option maxRecDepth 100000 in
set_option maxHeartbeats 4000000 in
theorem r5Ends_al {a1 a2 b1 b2 c1 c2 d1 d2 f1 f2 g1 g2 l1 l2 m1 m2 : Int} {r : Bool} (C1 : PCall Try.prog 14 [vP a1 a2, vP b1 b2, vP c1 c2, vP d1 d2] (vMr (alM f1 f2 g1 g2)))
    (K1 : PCall Try.prog 37 [vP a1 a2, vP b1 b2] (vP l1 l2)) (K2 : PCall Try.prog 37 [vP c1 c2, vP d1 d2] (vP m1 m2))
    (hr : (eqP l1 l2 m1 m2 && eqP f1 f2 l1 l2 && (eqP g1 g2 a1 a2 || eqP g1 g2 b1 b2) && (eqP g1 g2 c1 c2 || eqP g1 g2 d1 d2)) = r) : PCall Try.prog 16 [vP a1 a2, vP b1 b2, vP c1 c2, vP d1 d2] (vB r) := by
  simp only [alM] at C1
  have cs : (eqP l1 l2 m1 m2 = false ∧ r = false) ∨ (eqP l1 l2 m1 m2 = true ∧ eqP f1 f2 l1 l2 = false ∧ r = false) ∨ (eqP l1 l2 m1 m2 = true ∧ eqP f1 f2 l1 l2 = true ∧ eqP g1 g2 a1 a2 = false ∧ eqP g1 g2 b1 b2 = false ∧ r = false)
      ∨ (eqP l1 l2 m1 m2 = true ∧ eqP f1 f2 l1 l2 = true ∧ eqP g1 g2 a1 a2 = true ∧ eqP g1 g2 c1 c2 = true ∧ r = true) ∨ (eqP l1 l2 m1 m2 = true ∧ eqP f1 f2 l1 l2 = true ∧ eqP g1 g2 a1 a2 = true ∧ eqP g1 g2 c1 c2 = false ∧ r = eqP g1 g2 d1 d2)
      ∨ (eqP l1 l2 m1 m2 = true ∧ eqP f1 f2 l1 l2 = true ∧ eqP g1 g2 a1 a2 = false ∧ eqP g1 g2 b1 b2 = true ∧ eqP g1 g2 c1 c2 = true ∧ r = true) ∨ (eqP l1 l2 m1 m2 = true ∧ eqP f1 f2 l1 l2 = true ∧ eqP g1 g2 a1 a2 = false ∧ eqP g1 g2 b1 b2 = true ∧ eqP g1 g2 c1 c2 = false ∧ r = eqP g1 g2 d1 d2) := by
    rw [← hr]; cases eqP l1 l2 m1 m2 <;> cases eqP f1 f2 l1 l2 <;> cases eqP g1 g2 a1 a2 <;> cases eqP g1 g2 b1 b2 <;> cases eqP g1 g2 c1 c2 <;> simp
  clear hr
  rcases cs with ⟨h1, rfl⟩ | ⟨h1, h2, rfl⟩ | ⟨h1, h2, h3, h4, rfl⟩ | ⟨h1, h2, h3, h4, rfl⟩ | ⟨h1, h2, h3, h4, rfl⟩ | ⟨h1, h2, h3, h4, h5, rfl⟩ | ⟨h1, h2, h3, h4, h5, rfl⟩
  all_goals
    refine pcall_body (f := 16) Try.func16 rfl rfl rfl rfl ?_
    ((repeat ((repeat (first | ((with_reducible apply awp_seq)) | ((with_reducible apply athen_normal)) | ((with_reducible apply awp_region)) | ((with_reducible apply al_nilS); (kernel_rfl)) | ((with_reducible apply awp_region_draw); (kernel_rfl); (kernel_rfl); exact rfl) | ((with_reducible apply awp_cond_t); exact rfl) | ((with_reducible apply awp_cond_f); exact rfl) | ((with_reducible apply awp_cond_1); exact rfl; (first | assumption | exact decide_eq_true (by omega) | (simp only [Bool.not_eq_true', decide_eq_false_iff_not, decide_eq_true_eq, Bool.not_eq_false']; omega))) | ((with_reducible apply awp_cond_0); exact rfl; (first | assumption | exact decide_eq_false (by omega) | (simp only [Bool.not_eq_true', decide_eq_false_iff_not, decide_eq_true_eq, Bool.not_eq_false']; omega))) | ((with_reducible apply al_nil)) | ((with_reducible apply awp_ret)) | ((with_reducible apply awp_skip)) | ((with_reducible apply athen_ret)))); (first | ((with_reducible apply al_loadN); (iterate 5 exact rfl)) | ((with_reducible apply al_load1); (iterate 5 exact rfl)) | ((with_reducible apply al_move); (iterate 3 exact rfl)) | ((with_reducible apply al_fld); (iterate 3 exact rfl)) | ((with_reducible apply al_store); (iterate 6 exact rfl)) | ((with_reducible apply al_pick_t); (iterate 5 exact rfl)) | ((with_reducible apply al_pick_f); (iterate 5 exact rfl)) | ((with_reducible apply al_assign); (iterate 3 exact rfl)) | ((with_reducible apply al_alloc); (iterate 4 exact rfl)) | ((with_reducible apply al_box); (iterate 4 exact rfl)) | ((with_reducible apply al_eql); (iterate 4 exact rfl)) | ((with_reducible apply al_eqP); (iterate 4 exact rfl)) | ((with_reducible apply al_eqB); (iterate 4 exact rfl)) | (refine al_call2 rfl rfl rfl rfl (by first | (exact C1) | (exact K1) | (exact K2)) rfl ?_) | (refine al_call4 rfl rfl rfl rfl rfl rfl (by first | (exact C1) | (exact K1) | (exact K2)) rfl ?_) | ((with_reducible apply al_pass); exact rfl; (rintro d ⟨⟩; rfl)) | ((with_reducible apply al_guard_b (c := true)); exact rfl; exact rfl; (first | assumption | exact decide_eq_true (by omega) | (simp only [Bool.not_eq_true', decide_eq_false_iff_not, decide_eq_true_eq, Bool.not_eq_false']; omega))) | ((with_reducible apply al_guard_b (c := false)); exact rfl; exact rfl; (first | assumption | exact decide_eq_false (by omega) | (simp only [Bool.not_eq_true', decide_eq_false_iff_not, decide_eq_true_eq, Bool.not_eq_false']; omega))) | ((with_reducible apply al_bin); (iterate 5 exact rfl); (intro W; go_simp; try rfl); (intro W; go_simp; try rfl); exact rfl; exact rfl)); (repeat (first | ((with_reducible apply al_loadN); (iterate 5 exact rfl)) | ((with_reducible apply al_load1); (iterate 5 exact rfl)) | ((with_reducible apply al_move); (iterate 3 exact rfl)) | ((with_reducible apply al_fld); (iterate 3 exact rfl)) | ((with_reducible apply al_store); (iterate 6 exact rfl)) | ((with_reducible apply al_pick_t); (iterate 5 exact rfl)) | ((with_reducible apply al_pick_f); (iterate 5 exact rfl)) | ((with_reducible apply al_assign); (iterate 3 exact rfl)) | ((with_reducible apply al_alloc); (iterate 4 exact rfl)) | ((with_reducible apply al_box); (iterate 4 exact rfl)) | ((with_reducible apply al_eql); (iterate 4 exact rfl)) | ((with_reducible apply al_eqP); (iterate 4 exact rfl)) | ((with_reducible apply al_eqB); (iterate 4 exact rfl)) | (refine al_call2 rfl rfl rfl rfl (by first | (exact C1) | (exact K1) | (exact K2)) rfl ?_) | (refine al_call4 rfl rfl rfl rfl rfl rfl (by first | (exact C1) | (exact K1) | (exact K2)) rfl ?_) | ((with_reducible apply al_pass); exact rfl; (rintro d ⟨⟩; rfl)) | ((with_reducible apply al_guard_b (c := true)); exact rfl; exact rfl; (first | assumption | exact decide_eq_true (by omega) | (simp only [Bool.not_eq_true', decide_eq_false_iff_not, decide_eq_true_eq, Bool.not_eq_false']; omega))) | ((with_reducible apply al_guard_b (c := false)); exact rfl; exact rfl; (first | assumption | exact decide_eq_false (by omega) | (simp only [Bool.not_eq_true', decide_eq_false_iff_not, decide_eq_true_eq, Bool.not_eq_false']; omega))) | ((with_reducible apply al_bin); (iterate 5 exact rfl); (intro W; go_simp; try rfl); (intro W; go_simp; try rfl); exact rfl; exact rfl))))); (repeat (first | ((with_reducible apply awp_seq)) | ((with_reducible apply athen_normal)) | ((with_reducible apply awp_region)) | ((with_reducible apply al_nilS); (kernel_rfl)) | ((with_reducible apply awp_region_draw); (kernel_rfl); (kernel_rfl); exact rfl) | ((with_reducible apply awp_cond_t); exact rfl) | ((with_reducible apply awp_cond_f); exact rfl) | ((with_reducible apply awp_cond_1); exact rfl; (first | assumption | exact decide_eq_true (by omega) | (simp only [Bool.not_eq_true', decide_eq_false_iff_not, decide_eq_true_eq, Bool.not_eq_false']; omega))) | ((with_reducible apply awp_cond_0); exact rfl; (first | assumption | exact decide_eq_false (by omega) | (simp only [Bool.not_eq_true', decide_eq_false_iff_not, decide_eq_true_eq, Bool.not_eq_false']; omega))) | ((with_reducible apply al_nil)) | ((with_reducible apply awp_ret)) | ((with_reducible apply awp_skip)) | ((with_reducible apply athen_ret)))))
    (first | (refine apost_ret rfl (resl_tmp rfl resl_nil) ?_))
    first | exact AV.Le.refl _ | exact AV.Le.of_eq (by rw [h4]; rfl) | exact AV.Le.of_eq (by rw [h5]; rfl)
theorem p_r5Ends {a1 a2 b1 b2 c1 c2 d1 d2 : Int} : PCall Try.prog 16 [vP a1 a2, vP b1 b2, vP c1 c2, vP d1 d2] (vB (endB (mAll a1 a2 b1 b2 c1 c2 d1 d2) a1 a2 b1 b2 c1 c2 d1 d2)) := by
  have C1 := p_r5Meet (a1 := a1) (a2 := a2) (b1 := b1) (b2 := b2) (c1 := c1) (c2 := c2) (d1 := d1) (d2 := d2)
  by_cases h : (rB5 a1 a2 && rB5 b1 b2 && rB5 c1 c2 && rB5 d1 d2) = true
  · have em : mAll a1 a2 b1 b2 c1 c2 d1 d2 = meetV a1 a2 b1 b2 c1 c2 d1 d2 := by unfold mAll; rw [if_pos h]
    simp only [Bool.and_eq_true] at h
    obtain ⟨⟨⟨ha, hb⟩, hc⟩, hd⟩ := h
    rw [em] at C1 ⊢
    rcases mv_kinds a1 a2 b1 b2 c1 c2 d1 d2 with ⟨e, _⟩ | ⟨x, y, d, e, h0, h1, hf, hp⟩ | ⟨f1, f2, g1, g2, e, hne, hl, u1, u2, u3, u4, v1, v2, v3, v4, _⟩ <;> rw [e] at C1 ⊢
    · exact r5Ends_no C1
    · obtain ⟨k1, k2, k3⟩ := good_pl ha hb hc hd h0 h1 hf
      have nx : NB 150 x := (NB.of_fits (fits_84 k2)).up (by omega)
      have ny : NB 150 y := (NB.of_fits (fits_84 k3)).up (by omega)
      have nd : NB 150 d := (NB.of_fits (by unfold fits; rw [decide_eq_true_eq]; omega)).up (show 10 ≤ 150 by omega)
      refine r5Ends_pl C1 (p_r5is ha nx ny nd rfl) (p_r5is hb nx ny nd rfl) (p_r5is hc nx ny nd rfl) (p_r5is hd nx ny nd rfl) ?_
      unfold endB
      simp only [plM, if_true]
      rw [Bool.eq_iff_iff]
      simp only [Bool.and_eq_true, Bool.or_eq_true, decide_eq_true_eq, eqP_iff]
      have inj : ∀ {p q r s : Int}, (x = p * d ∧ y = q * d) → (x = r * d ∧ y = s * d) → p = r ∧ q = s := fun h k =>
        ⟨Int.eq_of_mul_eq_mul_right (by omega) (h.1.symm.trans k.1), Int.eq_of_mul_eq_mul_right (by omega) (h.2.symm.trans k.2)⟩
      have sa := on_self a1 a2 b1 b2
      have sc := on_self c1 c2 d1 d2
      constructor
      · rintro ⟨p | p, q | q⟩
        · exact .inl (.inl (.inl (inj p q)))
        · exact .inl (.inl (.inr (inj p q)))
        · exact .inl (.inr (inj p q))
        · exact .inr (inj p q)
      · rintro (((⟨rfl, rfl⟩ | ⟨rfl, rfl⟩) | ⟨rfl, rfl⟩) | ⟨rfl, rfl⟩)
        · have := hp _ _ sa.1 sc.1; exact ⟨.inl this, .inl this⟩
        · have := hp _ _ sa.1 sc.2; exact ⟨.inl this, .inr this⟩
        · have := hp _ _ sa.2 sc.1; exact ⟨.inr this, .inl this⟩
        · have := hp _ _ sa.2 sc.2; exact ⟨.inr this, .inr this⟩
    · have le : ∀ p q r s : Int, (lo1 p q r s, lo2 p q r s) = if p < r ∨ (p = r ∧ q < s) then (p, q) else (r, s) := by
        intro p q r s
        by_cases h : lx p q r s
        · obtain ⟨h1, h2, _, _⟩ := lx_sorted h
          rw [h1, h2]
          unfold lx at h
          by_cases k : p < r ∨ (p = r ∧ q < s)
          · rw [if_pos k]
          · rw [if_neg k, Prod.mk.injEq]; omega
        · have e1 : lo1 p q r s = r := by unfold lo1; rw [if_neg h]
          have e2 : lo2 p q r s = s := by unfold lo2; rw [if_neg h]
          rw [e1, e2]
          unfold lx at h
          rw [if_neg (by omega)]
      refine r5Ends_al C1 (p_r5least (le a1 a2 b1 b2)) (p_r5least (le c1 c2 d1 d2)) ?_
      unfold endB eqB
      simp only [alM]
      rw [if_neg (by decide), if_pos trivial, Bool.eq_iff_iff]
      simp only [Bool.and_eq_true, Bool.or_eq_true, eqP_iff]
      rcases lh_or a1 a2 b1 b2 with ⟨r1, r2, r3, r4, r5⟩ | ⟨r1, r2, r3, r4, r5⟩ <;> rcases lh_or c1 c2 d1 d2 with ⟨s1, s2, s3, s4, s5⟩ | ⟨s1, s2, s3, s4, s5⟩ <;> rw [r1, r2, s1, s2] at v1 v2 <;> rw [r3, r4, s3, s4] at v3 v4 <;> rw [r1, r2, r3, r4, s1, s2, s3, s4]
      all_goals
        constructor
        · rintro ⟨⟨⟨p, q⟩, r⟩, s⟩
          refine ⟨p, ?_⟩
          have n1 : ¬ (g1 = f1 ∧ g2 = f2) := fun k => hne ⟨k.1.symm, k.2.symm⟩
          omega
        · rintro ⟨⟨p1, p2⟩, q1, q2⟩
          rw [p1, p2] at v1 v2
          rw [q1, q2] at v3 v4
          unfold hi1 at v1
          unfold hi2 at v2
          unfold lo1 at v3
          unfold lo2 at v4
          simp only [ite_self] at v1 v2 v3 v4
          omega
  · have em : mAll a1 a2 b1 b2 c1 c2 d1 d2 = noM := by unfold mAll; rw [if_neg h]
    rw [em] at C1 ⊢
    exact r5Ends_no C1
end Go.Proofs.Ytlhgmlebjnkonaa
