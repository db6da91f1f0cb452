/-
  The reference package of layer 6, by values: its small calls. My own text.
-/
import Derived.Test.YtfcehanpmbeegaaCrossA
import Derived.Test.YtfcehanpmbeegaaAbsV
import Derived.Test.YtfcehanpmbeegaaPixB
namespace Go.Proofs.Ytfcehanpmbeegaa
open Go.RowKit
set_option linter.unusedVariables false
set_option linter.unusedSimpArgs false
theorem nb5 {n : Int} (h0 : -9223372036854775808 ≤ n) (h1 : n < 9223372036854775808) : NB 5 n := by unfold NB; omega
set_option maxRecDepth 100000 in
set_option maxHeartbeats 4000000 in
theorem p_r6num {n : Int} (h0 : -9223372036854775808 ≤ n) (h1 : n < 9223372036854775808) : PCall Try.prog 33 [vI n] (nv n) := by
  have C1 := p_rOf h0 h1
  clear h0 h1
  refine pcall_body (f := 33) Try.func33 rfl rfl rfl rfl ?_
  (repeat (first | ((with_reducible apply al_q); exact rfl) | (refine al_call1 rfl rfl rfl (by (first | exact C1)) rfl ?_) | ((with_reducible apply awp_seq)) | ((with_reducible apply athen_normal)) | ((with_reducible apply awp_region)) | ((with_reducible apply al_nil)) | ((with_reducible apply awp_ret)) | ((with_reducible apply awp_skip)) | ((with_reducible apply athen_ret))))
  (first | (refine apost_ret rfl (resl_agg rfl rfl rfl resl_nil) ?_) | (refine apost_ret rfl (resl_one rfl rfl rfl resl_nil) ?_))
  exact AV.Le.refl _
set_option maxRecDepth 100000 in
set_option maxHeartbeats 4000000 in
theorem p_r6sum {n d m e : Int} (h1 : NB 100 n) (h2 : NB 100 d) (h3 : NB 100 m) (h4 : NB 100 e) : PCall Try.prog 35 [rfv n d, rfv m e] (rfv (n * e + m * d) (d * e)) := by
  have C1 := p_rMul (n := n) (m := e) (h1.up (by omega)) (h4.up (by omega))
  have C2 := p_rMul (n := m) (m := d) (h3.up (by omega)) (h2.up (by omega))
  have C3 := p_rAdd (n := n * e) (m := m * d) ((h1.mul h4).up (by omega)) ((h3.mul h2).up (by omega))
  have C4 := p_rMul (n := d) (m := e) (h2.up (by omega)) (h4.up (by omega))
  clear h1 h2 h3 h4
  refine pcall_body (f := 35) Try.func35 rfl rfl rfl rfl ?_
  (repeat (first | ((with_reducible apply al_q); exact rfl) | (refine al_call2 rfl rfl rfl rfl (by (first | exact C1 | exact C2 | exact C3 | exact C4)) rfl ?_) | ((with_reducible apply al_nilS); kernel_rfl) | ((with_reducible apply awp_region_draw); kernel_rfl; kernel_rfl; exact rfl) | ((with_reducible apply awp_seq)) | ((with_reducible apply athen_normal)) | ((with_reducible apply awp_region)) | ((with_reducible apply al_nil)) | ((with_reducible apply awp_ret)) | ((with_reducible apply awp_skip)) | ((with_reducible apply athen_ret))))
  (first | (refine apost_ret rfl (resl_agg rfl rfl rfl resl_nil) ?_) | (refine apost_ret rfl (resl_one rfl rfl rfl resl_nil) ?_))
  exact AV.Le.refl _
set_option maxRecDepth 100000 in
set_option maxHeartbeats 4000000 in
theorem p_r6on {a b n d : Int} (ha : -134217728 ≤ a ∧ a ≤ 134217728) (hb : -134217728 ≤ b ∧ b ≤ 134217728) (h1 : NB 50 n) (h2 : NB 50 d) : PCall Try.prog 38 [vI a, vI b, rfv n d] (rfv (2 * a * d + n * (2 * (b - a)) * 1) (1 * d)) := by
  have C1 := p_r6num (n := 2 * (b - a)) (by omega) (by omega)
  have C2 := p_r6num (n := 2 * a) (by omega) (by omega)
  have C3 := p_r6num (n := 1) (by omega) (by omega)
  have k1 : NB 5 (2 * (b - a)) := nb5 (by omega) (by omega)
  have k2 : NB 5 (2 * a) := nb5 (by omega) (by omega)
  have k3 : NB 5 (1 : Int) := nb5 (by omega) (by omega)
  have C4 := p_rMul (n := n) (m := 2 * (b - a)) (h1.up (by omega)) (k1.up (by omega))
  have C5 := p_r6sum (n := 2 * a) (d := 1) (m := n * (2 * (b - a))) (e := d) (k2.up (by omega)) (k3.up (by omega)) ((h1.mul k1).up (by omega)) (h2.up (by omega))
  clear h1 h2 k1 k2 k3
  refine pcall_body (f := 38) Try.func38 rfl rfl rfl rfl ?_
  (repeat (first | ((with_reducible apply al_q); exact rfl) | ((with_reducible apply al_sub); (iterate 3 exact rfl); (first | exact i64_wrap (by omega) | assumption | rfl); exact rfl) | ((with_reducible apply al_mul); (iterate 3 exact rfl); (first | exact i64_wrap (by omega) | assumption | rfl); exact rfl) | (refine al_call1 rfl rfl rfl (by (first | exact C1 | exact C2 | exact C3 | exact C4 | exact C5)) rfl ?_) | (refine al_call2 rfl rfl rfl rfl (by (first | exact C1 | exact C2 | exact C3 | exact C4 | exact C5)) rfl ?_) | ((with_reducible apply al_bin); (iterate 5 exact rfl); (intro W; go_simp; try rfl); (intro W; go_simp; try rfl); exact rfl; exact rfl) | ((with_reducible apply al_nilS); kernel_rfl) | ((with_reducible apply awp_region_draw); kernel_rfl; kernel_rfl; exact rfl) | ((with_reducible apply awp_seq)) | ((with_reducible apply athen_normal)) | ((with_reducible apply awp_region)) | ((with_reducible apply al_nil)) | ((with_reducible apply awp_ret)) | ((with_reducible apply awp_skip)) | ((with_reducible apply athen_ret))))
  (first | (refine apost_ret rfl (resl_agg rfl rfl rfl resl_nil) ?_) | (refine apost_ret rfl (resl_one rfl rfl rfl resl_nil) ?_))
  exact AV.Le.refl _
/-- is a number (twice, as a fraction) from low to high? -/
def wiB (x y low high kind : Int) : Bool := (decide (icmp (low * y) (x * 1) < 0) || (decide (icmp (low * y) (x * 1) = 0) && !decide (kind = 2))) && (decide (icmp (x * 1) (high * y) < 0) || (decide (icmp (x * 1) (high * y) = 0) && decide (kind = 1)))
set_option maxRecDepth 100000 in
set_option maxHeartbeats 8000000 in
theorem p_r6within' {x y low high kind c1 c2 : Int} {r : Bool} (C1 : PCall Try.prog 33 [vI low] (nv low)) (C2 : PCall Try.prog 33 [vI high] (nv high)) (C3 : PCall Try.prog 33 [vI 1] (nv 1))
    (D1 : PCall Try.prog 55 [rfv low 1, rfv x y] (vI c1)) (D2 : PCall Try.prog 55 [rfv x y, rfv high 1] (vI c2))
    (cs : ((c1 < 0 ∨ (¬ c1 < 0 ∧ c1 = 0 ∧ ¬ kind = 2)) ∧ ((c2 < 0 ∧ r = true) ∨ (¬ c2 < 0 ∧ c2 = 0 ∧ kind = 1 ∧ r = true) ∨ (¬ c2 < 0 ∧ c2 = 0 ∧ ¬ kind = 1 ∧ r = false) ∨ (¬ c2 < 0 ∧ ¬ c2 = 0 ∧ r = false))) ∨ (¬ c1 < 0 ∧ c1 = 0 ∧ kind = 2 ∧ r = false) ∨ (¬ c1 < 0 ∧ ¬ c1 = 0 ∧ r = false)) : PCall Try.prog 37 [rfv x y, vI low, vI high, vI kind] (vB r) := by
  rcases cs with ⟨q1 | ⟨q1, q2, q3⟩, ⟨g1, rfl⟩ | ⟨g1, g2, g3, rfl⟩ | ⟨g1, g2, g3, rfl⟩ | ⟨g1, g2, rfl⟩⟩ | ⟨q1, q2, q3, rfl⟩ | ⟨q1, q2, rfl⟩
  all_goals
    try (have q4 : (!decide (kind = 2)) = true := by simp [q3])
    try (have q4 : (!decide (kind = 2)) = false := by simp [q3])
    try (have g4 := decide_eq_true g3)
    try (have g4 := decide_eq_false g3)
    refine pcall_body (f := 37) Try.func37 rfl rfl rfl rfl ?_
    (repeat (first | ((with_reducible apply al_q); exact rfl) | ((with_reducible apply al_eqP); (iterate 4 exact rfl)) | ((with_reducible apply al_eqB); (iterate 4 exact rfl)) | ((with_reducible apply al_neqP); (iterate 4 exact rfl)) | (refine al_call1 rfl rfl rfl (by (first | exact C1 | exact C2 | exact C3 | exact D1 | exact D2)) rfl ?_) | (refine al_call2 rfl rfl rfl rfl (by (first | exact C1 | exact C2 | exact C3 | exact D1 | exact D2)) rfl ?_) | ((with_reducible apply al_guard_b (c := true)); exact rfl; exact rfl; (first | assumption | exact decide_eq_true (by omega) | (simp only [Bool.not_eq_true', decide_eq_false_iff_not, decide_eq_true_eq, Bool.not_eq_false']; omega))) | ((with_reducible apply al_guard_b (c := false)); exact rfl; exact rfl; (first | assumption | exact decide_eq_false (by omega) | (simp only [Bool.not_eq_true', decide_eq_false_iff_not, decide_eq_true_eq, Bool.not_eq_false']; omega))) | ((with_reducible apply al_bin); (iterate 5 exact rfl); (intro W; go_simp; try rfl); (intro W; go_simp; try rfl); exact rfl; exact rfl) | ((with_reducible apply al_nilS); kernel_rfl) | ((with_reducible apply awp_region_draw); kernel_rfl; kernel_rfl; exact rfl) | ((with_reducible apply awp_seq)) | ((with_reducible apply athen_normal)) | ((with_reducible apply awp_region)) | ((with_reducible apply al_nil)) | ((with_reducible apply awp_ret)) | ((with_reducible apply awp_skip)) | ((with_reducible apply athen_ret))))
    (first | (refine apost_ret rfl (resl_tmp rfl resl_nil) ?_))
    first | exact AV.Le.refl _ | exact AV.Le.of_eq (by rw [g4]; rfl)
theorem p_r6within {x y low high kind : Int} (hl : -536870912 ≤ low ∧ low ≤ 536870912) (hh : -536870912 ≤ high ∧ high ≤ 536870912) (h1 : NB 150 x) (h2 : NB 150 y) : PCall Try.prog 37 [rfv x y, vI low, vI high, vI kind] (vB (wiB x y low high kind)) := by
  have k1 : NB 5 low := nb5 (by omega) (by omega)
  have k2 : NB 5 high := nb5 (by omega) (by omega)
  have k3 : NB 5 (1 : Int) := nb5 (by omega) (by omega)
  refine p_r6within' (p_r6num (by omega) (by omega)) (p_r6num (by omega) (by omega)) (p_r6num (by omega) (by omega)) (p_r2Cmp (k1.up (by omega)) (k3.up (by omega)) (h1.up (by omega)) (h2.up (by omega))) (p_r2Cmp (h1.up (by omega)) (h2.up (by omega)) (k2.up (by omega)) (k3.up (by omega))) ?_
  unfold wiB
  generalize icmp (low * y) (x * 1) = c1
  generalize icmp (x * 1) (high * y) = c2
  by_cases q1 : c1 < 0 <;> by_cases q2 : c1 = 0 <;> by_cases q3 : kind = 2 <;> by_cases g1 : c2 < 0 <;> by_cases g2 : c2 = 0 <;> by_cases g3 : kind = 1 <;> simp [q1, q2, q3, g1, g2, g3] <;> omega
set_option maxRecDepth 100000 in
set_option maxHeartbeats 4000000 in
theorem p_r6right {x y : Int} {b : Bool} (hb : co6 x y = b) : PCall Try.prog 32 [vP x y] (vB b) := by
  have cs : (x ≤ 536870912 ∧ -536870912 ≤ x ∧ y ≤ 536870912 ∧ -536870912 ≤ y ∧ b = true) ∨ (x ≤ 536870912 ∧ -536870912 ≤ x ∧ y ≤ 536870912 ∧ ¬ -536870912 ≤ y ∧ b = false) ∨ (x ≤ 536870912 ∧ -536870912 ≤ x ∧ ¬ y ≤ 536870912 ∧ b = false) ∨ (x ≤ 536870912 ∧ ¬ -536870912 ≤ x ∧ b = false) ∨ (¬ x ≤ 536870912 ∧ b = false) := by
    rw [← hb]; unfold co6 cb6
    by_cases q1 : x ≤ 536870912 <;> by_cases q2 : y ≤ 536870912 <;> by_cases q3 : -536870912 ≤ x <;> by_cases q4 : -536870912 ≤ y <;> simp [q1, q2, q3, q4]
  clear hb
  rcases cs with ⟨q1, q2, q3, q4, rfl⟩ | ⟨q1, q2, q3, q4, rfl⟩ | ⟨q1, q2, q3, rfl⟩ | ⟨q1, q2, rfl⟩ | ⟨q1, rfl⟩
  all_goals
    refine pcall_body (f := 32) Try.func32 rfl rfl rfl rfl ?_
    (repeat (first | ((with_reducible apply al_q); exact rfl) | ((with_reducible apply al_guard_b (c := true)); exact rfl; exact rfl; (first | assumption | exact decide_eq_true (by omega) | (simp only [Bool.not_eq_true', decide_eq_false_iff_not, decide_eq_true_eq, Bool.not_eq_false']; omega))) | ((with_reducible apply al_guard_b (c := false)); exact rfl; exact rfl; (first | assumption | exact decide_eq_false (by omega) | (simp only [Bool.not_eq_true', decide_eq_false_iff_not, decide_eq_true_eq, Bool.not_eq_false']; omega))) | ((with_reducible apply al_bin); (iterate 5 exact rfl); (intro W; go_simp; try rfl); (intro W; go_simp; try rfl); exact rfl; exact rfl) | ((with_reducible apply al_nilS); kernel_rfl) | ((with_reducible apply awp_region_draw); kernel_rfl; kernel_rfl; exact rfl) | ((with_reducible apply awp_seq)) | ((with_reducible apply athen_normal)) | ((with_reducible apply awp_region)) | ((with_reducible apply al_nil)) | ((with_reducible apply awp_ret)) | ((with_reducible apply awp_skip)) | ((with_reducible apply athen_ret))))
    (first | (refine apost_ret rfl (resl_tmp rfl resl_nil) ?_))
    first | exact AV.Le.refl _ | exact AV.Le.of_eq (by rw [decide_eq_true q4]; rfl) | exact AV.Le.of_eq (by rw [decide_eq_false q4]; rfl)
/-- the cells of fractions. -/
def frC : List (Int × Int) → List AC
  | [] => []
  | (n, d) :: l => .c (.bool (decide (n < 0))) :: .p (NumP n) :: .c (.bool (decide (d < 0))) :: .p (NumP d) :: frC l
theorem frC_length : ∀ (l : List (Int × Int)), (frC l).length = l.length * 4
  | [] => rfl
  | (n, d) :: l => by simp [frC, frC_length l]; omega
theorem frC_append : ∀ (l k : List (Int × Int)), frC l ++ frC k = frC (l ++ k)
  | [], k => rfl
  | (n, d) :: l, k => by simp [frC, frC_append l k]
theorem frC_closed : ∀ (l : List (Int × Int)), (frC l).all AC.closedB = true
  | [] => rfl
  | (n, d) :: l => by simp only [frC, List.all_cons, frC_closed l]; rfl
theorem frC_at : ∀ {l : List (Int × Int)} {i : Nat} {n d : Int}, l[i]? = some (n, d) → ((frC l).drop (i * 4)).take 4 = [.c (.bool (decide (n < 0))), .p (NumP n), .c (.bool (decide (d < 0))), .p (NumP d)]
  | [], i, n, d, h => by simp at h
  | (m, e) :: l, 0, n, d, h => by simp at h; obtain ⟨rfl, rfl⟩ := h; rfl
  | (m, e) :: l, i + 1, n, d, h => by
    have := frC_at (l := l) (i := i) (n := n) (d := d) (by simpa using h)
    rw [← this]
    rw [show (i + 1) * 4 = i * 4 + 4 by omega, ← List.drop_drop]
    simp only [frC]
    congr 1
    rw [List.drop_drop, Nat.add_comm, ← List.drop_drop]
    rfl
abbrev vFs (l : List (Int × Int)) : AV := vS 4 l.length (frC l)
/-- how far on the way a number is as great as a limit. -/
def waV (a b lim : Int) : List (Int × Int) :=
  let n := lim - 2 * a
  let d := 2 * (b - a)
  let n' := if d < 0 then -n else n
  let d' := if d < 0 then -d else d
  if d' = 0 ∨ n' < 0 ∨ d' < n' then [] else [(n', d')]
theorem nil_le (z : Nat) : AV.Le (vC (.slice none 0 0)) (vS z 0 []) := fun U ρ W v ⟨h, _⟩ => by
  subst h
  exact ⟨⟨none, 0, rfl, Nat.le_refl _, by simp, fun h => absurd h (by omega)⟩, fun b ⟨c', a', q, hn, hb⟩ => by cases q⟩
set_option maxRecDepth 100000 in
set_option maxHeartbeats 8000000 in
theorem p_r6ways {a b lim : Int} (ha : -134217728 ≤ a ∧ a ≤ 134217728) (hb : -134217728 ≤ b ∧ b ≤ 134217728) (hl : -536870912 ≤ lim ∧ lim ≤ 536870912) : PCall Try.prog 34 [vI a, vI b, vI lim] (vFs (waV a b lim)) := by
  unfold waV
  obtain ⟨n, hn⟩ : ∃ n, lim - 2 * a = n := ⟨_, rfl⟩
  obtain ⟨d, hd⟩ : ∃ d, 2 * (b - a) = d := ⟨_, rfl⟩
  simp only [hn, hd]
  have bn : -1000000000 ≤ n ∧ n ≤ 1000000000 := by omega
  have bd : -1000000000 ≤ d ∧ d ≤ 1000000000 := by omega
  have w1 : IntKind.i64.wrap (lim - 2 * a) = n := by rw [hn]; exact i64_wrap (by omega)
  have w2 : IntKind.i64.wrap (2 * (b - a)) = d := by rw [hd]; exact i64_wrap (by omega)
  have w3 : IntKind.i64.wrap (2 * a) = 2 * a := i64_wrap (by omega)
  have w4 : IntKind.i64.wrap (b - a) = b - a := i64_wrap (by omega)
  clear ha hb hl hn hd
  by_cases q : d < 0
  · rw [if_pos q, if_pos q]
    have N1 := p_r6num (n := -n) (by omega) (by omega)
    have N2 := p_r6num (n := -d) (by omega) (by omega)
    by_cases q1 : -d = 0
    · omega
    · by_cases q2 : -n < 0
      · rw [if_pos (by omega)]
        refine pcall_body (f := 34) Try.func34 rfl rfl rfl rfl ?_
        (repeat (first | ((with_reducible apply al_q); exact rfl) | ((with_reducible apply al_eqP); (iterate 4 exact rfl)) | ((with_reducible apply al_eqB); (iterate 4 exact rfl)) | ((with_reducible apply al_sub); (iterate 3 exact rfl); (first | exact i64_wrap (by omega) | assumption | rfl); exact rfl) | ((with_reducible apply al_mul); (iterate 3 exact rfl); (first | exact i64_wrap (by omega) | assumption | rfl); exact rfl) | ((with_reducible apply al_neg); exact rfl; exact rfl; (first | exact i64_wrap (by omega) | assumption | rfl); exact rfl) | ((with_reducible apply al_bslice); (iterate 10 exact rfl)) | (refine al_call1 rfl rfl rfl (by (first | exact N1 | exact N2)) rfl ?_) | ((with_reducible apply al_guard_b (c := true)); exact rfl; exact rfl; (first | assumption | exact decide_eq_true (by omega) | (simp only [Bool.not_eq_true', decide_eq_false_iff_not, decide_eq_true_eq, Bool.not_eq_false']; omega))) | ((with_reducible apply al_guard_b (c := false)); exact rfl; exact rfl; (first | assumption | exact decide_eq_false (by omega) | (simp only [Bool.not_eq_true', decide_eq_false_iff_not, decide_eq_true_eq, Bool.not_eq_false']; omega))) | ((with_reducible apply al_bin); (iterate 5 exact rfl); (intro W; go_simp; try rfl); (intro W; go_simp; try rfl); exact rfl; exact rfl) | ((with_reducible apply al_un); exact rfl; exact rfl; (intro W; go_simp; try rfl); exact rfl; exact rfl) | ((with_reducible apply al_nilS); kernel_rfl) | ((with_reducible apply awp_region_draw); kernel_rfl; kernel_rfl; exact rfl) | ((with_reducible apply awp_seq)) | ((with_reducible apply athen_normal)) | ((with_reducible apply awp_region)) | ((with_reducible apply al_nil)) | ((with_reducible apply awp_ret)) | ((with_reducible apply awp_skip)) | ((with_reducible apply athen_ret)) | ((with_reducible apply awp_cond_t); exact rfl) | ((with_reducible apply awp_cond_f); exact rfl) | ((with_reducible apply awp_cond_1); exact rfl; (first | assumption | exact decide_eq_true (by omega) | (simp only [Bool.not_eq_true', decide_eq_false_iff_not, decide_eq_true_eq, Bool.not_eq_false']; omega))) | ((with_reducible apply awp_cond_0); exact rfl; (first | assumption | exact decide_eq_false (by omega) | (simp only [Bool.not_eq_true', decide_eq_false_iff_not, decide_eq_true_eq, Bool.not_eq_false']; omega)))))
        (first | (refine apost_ret rfl (resl_tmp rfl resl_nil) ?_))
        exact nil_le 4
      · by_cases q3 : -d < -n
        · rw [if_pos (by omega)]
          refine pcall_body (f := 34) Try.func34 rfl rfl rfl rfl ?_
          (repeat (first | ((with_reducible apply al_q); exact rfl) | ((with_reducible apply al_eqP); (iterate 4 exact rfl)) | ((with_reducible apply al_eqB); (iterate 4 exact rfl)) | ((with_reducible apply al_sub); (iterate 3 exact rfl); (first | exact i64_wrap (by omega) | assumption | rfl); exact rfl) | ((with_reducible apply al_mul); (iterate 3 exact rfl); (first | exact i64_wrap (by omega) | assumption | rfl); exact rfl) | ((with_reducible apply al_neg); exact rfl; exact rfl; (first | exact i64_wrap (by omega) | assumption | rfl); exact rfl) | ((with_reducible apply al_bslice); (iterate 10 exact rfl)) | (refine al_call1 rfl rfl rfl (by (first | exact N1 | exact N2)) rfl ?_) | ((with_reducible apply al_guard_b (c := true)); exact rfl; exact rfl; (first | assumption | exact decide_eq_true (by omega) | (simp only [Bool.not_eq_true', decide_eq_false_iff_not, decide_eq_true_eq, Bool.not_eq_false']; omega))) | ((with_reducible apply al_guard_b (c := false)); exact rfl; exact rfl; (first | assumption | exact decide_eq_false (by omega) | (simp only [Bool.not_eq_true', decide_eq_false_iff_not, decide_eq_true_eq, Bool.not_eq_false']; omega))) | ((with_reducible apply al_bin); (iterate 5 exact rfl); (intro W; go_simp; try rfl); (intro W; go_simp; try rfl); exact rfl; exact rfl) | ((with_reducible apply al_un); exact rfl; exact rfl; (intro W; go_simp; try rfl); exact rfl; exact rfl) | ((with_reducible apply al_nilS); kernel_rfl) | ((with_reducible apply awp_region_draw); kernel_rfl; kernel_rfl; exact rfl) | ((with_reducible apply awp_seq)) | ((with_reducible apply athen_normal)) | ((with_reducible apply awp_region)) | ((with_reducible apply al_nil)) | ((with_reducible apply awp_ret)) | ((with_reducible apply awp_skip)) | ((with_reducible apply athen_ret)) | ((with_reducible apply awp_cond_t); exact rfl) | ((with_reducible apply awp_cond_f); exact rfl) | ((with_reducible apply awp_cond_1); exact rfl; (first | assumption | exact decide_eq_true (by omega) | (simp only [Bool.not_eq_true', decide_eq_false_iff_not, decide_eq_true_eq, Bool.not_eq_false']; omega))) | ((with_reducible apply awp_cond_0); exact rfl; (first | assumption | exact decide_eq_false (by omega) | (simp only [Bool.not_eq_true', decide_eq_false_iff_not, decide_eq_true_eq, Bool.not_eq_false']; omega)))))
          (first | (refine apost_ret rfl (resl_tmp rfl resl_nil) ?_))
          exact nil_le 4
        · rw [if_neg (by omega)]
          refine pcall_body (f := 34) Try.func34 rfl rfl rfl rfl ?_
          (repeat (first | ((with_reducible apply al_q); exact rfl) | ((with_reducible apply al_eqP); (iterate 4 exact rfl)) | ((with_reducible apply al_eqB); (iterate 4 exact rfl)) | ((with_reducible apply al_sub); (iterate 3 exact rfl); (first | exact i64_wrap (by omega) | assumption | rfl); exact rfl) | ((with_reducible apply al_mul); (iterate 3 exact rfl); (first | exact i64_wrap (by omega) | assumption | rfl); exact rfl) | ((with_reducible apply al_neg); exact rfl; exact rfl; (first | exact i64_wrap (by omega) | assumption | rfl); exact rfl) | ((with_reducible apply al_bslice); (iterate 10 exact rfl)) | (refine al_call1 rfl rfl rfl (by (first | exact N1 | exact N2)) rfl ?_) | ((with_reducible apply al_guard_b (c := true)); exact rfl; exact rfl; (first | assumption | exact decide_eq_true (by omega) | (simp only [Bool.not_eq_true', decide_eq_false_iff_not, decide_eq_true_eq, Bool.not_eq_false']; omega))) | ((with_reducible apply al_guard_b (c := false)); exact rfl; exact rfl; (first | assumption | exact decide_eq_false (by omega) | (simp only [Bool.not_eq_true', decide_eq_false_iff_not, decide_eq_true_eq, Bool.not_eq_false']; omega))) | ((with_reducible apply al_bin); (iterate 5 exact rfl); (intro W; go_simp; try rfl); (intro W; go_simp; try rfl); exact rfl; exact rfl) | ((with_reducible apply al_un); exact rfl; exact rfl; (intro W; go_simp; try rfl); exact rfl; exact rfl) | ((with_reducible apply al_nilS); kernel_rfl) | ((with_reducible apply awp_region_draw); kernel_rfl; kernel_rfl; exact rfl) | ((with_reducible apply awp_seq)) | ((with_reducible apply athen_normal)) | ((with_reducible apply awp_region)) | ((with_reducible apply al_nil)) | ((with_reducible apply awp_ret)) | ((with_reducible apply awp_skip)) | ((with_reducible apply athen_ret)) | ((with_reducible apply awp_cond_t); exact rfl) | ((with_reducible apply awp_cond_f); exact rfl) | ((with_reducible apply awp_cond_1); exact rfl; (first | assumption | exact decide_eq_true (by omega) | (simp only [Bool.not_eq_true', decide_eq_false_iff_not, decide_eq_true_eq, Bool.not_eq_false']; omega))) | ((with_reducible apply awp_cond_0); exact rfl; (first | assumption | exact decide_eq_false (by omega) | (simp only [Bool.not_eq_true', decide_eq_false_iff_not, decide_eq_true_eq, Bool.not_eq_false']; omega)))))
          (first | (refine apost_ret rfl (resl_tmp rfl resl_nil) ?_))
          exact AV.Le.refl _
  · rw [if_neg q, if_neg q]
    have N1 := p_r6num (n := n) (by omega) (by omega)
    have N2 := p_r6num (n := d) (by omega) (by omega)
    by_cases q1 : d = 0
    · rw [if_pos (by omega)]
      refine pcall_body (f := 34) Try.func34 rfl rfl rfl rfl ?_
      (repeat (first | ((with_reducible apply al_q); exact rfl) | ((with_reducible apply al_eqP); (iterate 4 exact rfl)) | ((with_reducible apply al_eqB); (iterate 4 exact rfl)) | ((with_reducible apply al_sub); (iterate 3 exact rfl); (first | exact i64_wrap (by omega) | assumption | rfl); exact rfl) | ((with_reducible apply al_mul); (iterate 3 exact rfl); (first | exact i64_wrap (by omega) | assumption | rfl); exact rfl) | ((with_reducible apply al_neg); exact rfl; exact rfl; (first | exact i64_wrap (by omega) | assumption | rfl); exact rfl) | ((with_reducible apply al_bslice); (iterate 10 exact rfl)) | (refine al_call1 rfl rfl rfl (by (first | exact N1 | exact N2)) rfl ?_) | ((with_reducible apply al_guard_b (c := true)); exact rfl; exact rfl; (first | assumption | exact decide_eq_true (by omega) | (simp only [Bool.not_eq_true', decide_eq_false_iff_not, decide_eq_true_eq, Bool.not_eq_false']; omega))) | ((with_reducible apply al_guard_b (c := false)); exact rfl; exact rfl; (first | assumption | exact decide_eq_false (by omega) | (simp only [Bool.not_eq_true', decide_eq_false_iff_not, decide_eq_true_eq, Bool.not_eq_false']; omega))) | ((with_reducible apply al_bin); (iterate 5 exact rfl); (intro W; go_simp; try rfl); (intro W; go_simp; try rfl); exact rfl; exact rfl) | ((with_reducible apply al_un); exact rfl; exact rfl; (intro W; go_simp; try rfl); exact rfl; exact rfl) | ((with_reducible apply al_nilS); kernel_rfl) | ((with_reducible apply awp_region_draw); kernel_rfl; kernel_rfl; exact rfl) | ((with_reducible apply awp_seq)) | ((with_reducible apply athen_normal)) | ((with_reducible apply awp_region)) | ((with_reducible apply al_nil)) | ((with_reducible apply awp_ret)) | ((with_reducible apply awp_skip)) | ((with_reducible apply athen_ret)) | ((with_reducible apply awp_cond_t); exact rfl) | ((with_reducible apply awp_cond_f); exact rfl) | ((with_reducible apply awp_cond_1); exact rfl; (first | assumption | exact decide_eq_true (by omega) | (simp only [Bool.not_eq_true', decide_eq_false_iff_not, decide_eq_true_eq, Bool.not_eq_false']; omega))) | ((with_reducible apply awp_cond_0); exact rfl; (first | assumption | exact decide_eq_false (by omega) | (simp only [Bool.not_eq_true', decide_eq_false_iff_not, decide_eq_true_eq, Bool.not_eq_false']; omega)))))
      (first | (refine apost_ret rfl (resl_tmp rfl resl_nil) ?_))
      exact nil_le 4
    · by_cases q2 : n < 0
      · rw [if_pos (by omega)]
        refine pcall_body (f := 34) Try.func34 rfl rfl rfl rfl ?_
        (repeat (first | ((with_reducible apply al_q); exact rfl) | ((with_reducible apply al_eqP); (iterate 4 exact rfl)) | ((with_reducible apply al_eqB); (iterate 4 exact rfl)) | ((with_reducible apply al_sub); (iterate 3 exact rfl); (first | exact i64_wrap (by omega) | assumption | rfl); exact rfl) | ((with_reducible apply al_mul); (iterate 3 exact rfl); (first | exact i64_wrap (by omega) | assumption | rfl); exact rfl) | ((with_reducible apply al_neg); exact rfl; exact rfl; (first | exact i64_wrap (by omega) | assumption | rfl); exact rfl) | ((with_reducible apply al_bslice); (iterate 10 exact rfl)) | (refine al_call1 rfl rfl rfl (by (first | exact N1 | exact N2)) rfl ?_) | ((with_reducible apply al_guard_b (c := true)); exact rfl; exact rfl; (first | assumption | exact decide_eq_true (by omega) | (simp only [Bool.not_eq_true', decide_eq_false_iff_not, decide_eq_true_eq, Bool.not_eq_false']; omega))) | ((with_reducible apply al_guard_b (c := false)); exact rfl; exact rfl; (first | assumption | exact decide_eq_false (by omega) | (simp only [Bool.not_eq_true', decide_eq_false_iff_not, decide_eq_true_eq, Bool.not_eq_false']; omega))) | ((with_reducible apply al_bin); (iterate 5 exact rfl); (intro W; go_simp; try rfl); (intro W; go_simp; try rfl); exact rfl; exact rfl) | ((with_reducible apply al_un); exact rfl; exact rfl; (intro W; go_simp; try rfl); exact rfl; exact rfl) | ((with_reducible apply al_nilS); kernel_rfl) | ((with_reducible apply awp_region_draw); kernel_rfl; kernel_rfl; exact rfl) | ((with_reducible apply awp_seq)) | ((with_reducible apply athen_normal)) | ((with_reducible apply awp_region)) | ((with_reducible apply al_nil)) | ((with_reducible apply awp_ret)) | ((with_reducible apply awp_skip)) | ((with_reducible apply athen_ret)) | ((with_reducible apply awp_cond_t); exact rfl) | ((with_reducible apply awp_cond_f); exact rfl) | ((with_reducible apply awp_cond_1); exact rfl; (first | assumption | exact decide_eq_true (by omega) | (simp only [Bool.not_eq_true', decide_eq_false_iff_not, decide_eq_true_eq, Bool.not_eq_false']; omega))) | ((with_reducible apply awp_cond_0); exact rfl; (first | assumption | exact decide_eq_false (by omega) | (simp only [Bool.not_eq_true', decide_eq_false_iff_not, decide_eq_true_eq, Bool.not_eq_false']; omega)))))
        (first | (refine apost_ret rfl (resl_tmp rfl resl_nil) ?_))
        exact nil_le 4
      · by_cases q3 : d < n
        · rw [if_pos (by omega)]
          refine pcall_body (f := 34) Try.func34 rfl rfl rfl rfl ?_
          (repeat (first | ((with_reducible apply al_q); exact rfl) | ((with_reducible apply al_eqP); (iterate 4 exact rfl)) | ((with_reducible apply al_eqB); (iterate 4 exact rfl)) | ((with_reducible apply al_sub); (iterate 3 exact rfl); (first | exact i64_wrap (by omega) | assumption | rfl); exact rfl) | ((with_reducible apply al_mul); (iterate 3 exact rfl); (first | exact i64_wrap (by omega) | assumption | rfl); exact rfl) | ((with_reducible apply al_neg); exact rfl; exact rfl; (first | exact i64_wrap (by omega) | assumption | rfl); exact rfl) | ((with_reducible apply al_bslice); (iterate 10 exact rfl)) | (refine al_call1 rfl rfl rfl (by (first | exact N1 | exact N2)) rfl ?_) | ((with_reducible apply al_guard_b (c := true)); exact rfl; exact rfl; (first | assumption | exact decide_eq_true (by omega) | (simp only [Bool.not_eq_true', decide_eq_false_iff_not, decide_eq_true_eq, Bool.not_eq_false']; omega))) | ((with_reducible apply al_guard_b (c := false)); exact rfl; exact rfl; (first | assumption | exact decide_eq_false (by omega) | (simp only [Bool.not_eq_true', decide_eq_false_iff_not, decide_eq_true_eq, Bool.not_eq_false']; omega))) | ((with_reducible apply al_bin); (iterate 5 exact rfl); (intro W; go_simp; try rfl); (intro W; go_simp; try rfl); exact rfl; exact rfl) | ((with_reducible apply al_un); exact rfl; exact rfl; (intro W; go_simp; try rfl); exact rfl; exact rfl) | ((with_reducible apply al_nilS); kernel_rfl) | ((with_reducible apply awp_region_draw); kernel_rfl; kernel_rfl; exact rfl) | ((with_reducible apply awp_seq)) | ((with_reducible apply athen_normal)) | ((with_reducible apply awp_region)) | ((with_reducible apply al_nil)) | ((with_reducible apply awp_ret)) | ((with_reducible apply awp_skip)) | ((with_reducible apply athen_ret)) | ((with_reducible apply awp_cond_t); exact rfl) | ((with_reducible apply awp_cond_f); exact rfl) | ((with_reducible apply awp_cond_1); exact rfl; (first | assumption | exact decide_eq_true (by omega) | (simp only [Bool.not_eq_true', decide_eq_false_iff_not, decide_eq_true_eq, Bool.not_eq_false']; omega))) | ((with_reducible apply awp_cond_0); exact rfl; (first | assumption | exact decide_eq_false (by omega) | (simp only [Bool.not_eq_true', decide_eq_false_iff_not, decide_eq_true_eq, Bool.not_eq_false']; omega)))))
          (first | (refine apost_ret rfl (resl_tmp rfl resl_nil) ?_))
          exact nil_le 4
        · rw [if_neg (by omega)]
          refine pcall_body (f := 34) Try.func34 rfl rfl rfl rfl ?_
          (repeat (first | ((with_reducible apply al_q); exact rfl) | ((with_reducible apply al_eqP); (iterate 4 exact rfl)) | ((with_reducible apply al_eqB); (iterate 4 exact rfl)) | ((with_reducible apply al_sub); (iterate 3 exact rfl); (first | exact i64_wrap (by omega) | assumption | rfl); exact rfl) | ((with_reducible apply al_mul); (iterate 3 exact rfl); (first | exact i64_wrap (by omega) | assumption | rfl); exact rfl) | ((with_reducible apply al_neg); exact rfl; exact rfl; (first | exact i64_wrap (by omega) | assumption | rfl); exact rfl) | ((with_reducible apply al_bslice); (iterate 10 exact rfl)) | (refine al_call1 rfl rfl rfl (by (first | exact N1 | exact N2)) rfl ?_) | ((with_reducible apply al_guard_b (c := true)); exact rfl; exact rfl; (first | assumption | exact decide_eq_true (by omega) | (simp only [Bool.not_eq_true', decide_eq_false_iff_not, decide_eq_true_eq, Bool.not_eq_false']; omega))) | ((with_reducible apply al_guard_b (c := false)); exact rfl; exact rfl; (first | assumption | exact decide_eq_false (by omega) | (simp only [Bool.not_eq_true', decide_eq_false_iff_not, decide_eq_true_eq, Bool.not_eq_false']; omega))) | ((with_reducible apply al_bin); (iterate 5 exact rfl); (intro W; go_simp; try rfl); (intro W; go_simp; try rfl); exact rfl; exact rfl) | ((with_reducible apply al_un); exact rfl; exact rfl; (intro W; go_simp; try rfl); exact rfl; exact rfl) | ((with_reducible apply al_nilS); kernel_rfl) | ((with_reducible apply awp_region_draw); kernel_rfl; kernel_rfl; exact rfl) | ((with_reducible apply awp_seq)) | ((with_reducible apply athen_normal)) | ((with_reducible apply awp_region)) | ((with_reducible apply al_nil)) | ((with_reducible apply awp_ret)) | ((with_reducible apply awp_skip)) | ((with_reducible apply athen_ret)) | ((with_reducible apply awp_cond_t); exact rfl) | ((with_reducible apply awp_cond_f); exact rfl) | ((with_reducible apply awp_cond_1); exact rfl; (first | assumption | exact decide_eq_true (by omega) | (simp only [Bool.not_eq_true', decide_eq_false_iff_not, decide_eq_true_eq, Bool.not_eq_false']; omega))) | ((with_reducible apply awp_cond_0); exact rfl; (first | assumption | exact decide_eq_false (by omega) | (simp only [Bool.not_eq_true', decide_eq_false_iff_not, decide_eq_true_eq, Bool.not_eq_false']; omega)))))
          (first | (refine apost_ret rfl (resl_tmp rfl resl_nil) ?_))
          exact AV.Le.refl _
end Go.Proofs.Ytfcehanpmbeegaa
