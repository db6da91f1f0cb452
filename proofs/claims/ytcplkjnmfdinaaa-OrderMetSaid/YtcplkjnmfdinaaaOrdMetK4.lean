/-
  My own texts, without what this claim does not need. My own text.
-/
import Derived.WalkKit
import Derived.WalkSpells
import Derived.Lib.Hide
import Derived.BigQuiet
import Derived.BigGuardPart
import Derived.Deep.RegionHeld3
import Derived.Below
import Derived.Still
import Derived.Laws.CopyRow
import Derived.Laws.Cells
import Derived.Tactics
import Derived.IntWalk
import Derived.Test.YtcplkjnmfdinaaaProg
import Derived.ProofKit
import Derived.Laws.StructEq
import Derived.Laws.AppendOwn
import Derived.Laws.MakeOwn
import Derived.Laws.Slices
import Derived.Laws.BytesArg
import Derived.Defers
import Derived.Recover
import Derived.StillTail
import Derived.Deep.QuietTactic
import Derived.OwnWalk
import Derived.Laws.OwnMore
import Derived.Maps.AppendAt
import Derived.Deep.DrawnRows
import Derived.Deep.LoopGhost
import Derived.Shelf.Lay
import Derived.Shelf.LaySoft
import Derived.Lib.ItoaNum
import Derived.Deep.DeepCutAuto
import Derived.Deep.CutBlock
import Derived.RegionTactic
import Derived.OpenShut
import Derived.Deep.DeepHandedRow
import Derived.Lib.LaidTab
import Derived.Lib.SmallJoins
import Derived.Deep.SlicePairs
import Derived.Carry
import Derived.Test.YtcplkjnmfdinaaaRows
import Derived.Test.YtcplkjnmfdinaaaOrdMetK3
namespace Go.Proofs.Ytcplkjnmfdinaaa
open Go.RowKit
set_option linter.unusedVariables false
set_option linter.unusedSimpArgs false
theorem p_Compare {n m : Int} : PCall Try.prog 54 [vI n, vI m] (vI (icmp n m)) :=
  pcall_ev [.int .i64 n, .int .i64 m] (.int .i64 (icmp n m)) rfl rfl rfl rfl rfl fun W => Compare_any n m W
/-- a bound, as a value. -/
abbrev vBd (n d : Int) (o : Bool) : AV := .w (.agg [.c (.int .i64 n), .c (.int .i64 d), .c (.bool o)])
abbrev vBdB (x : Bd) : AV := vBd x.n x.d x.own
/-- numbers small enough for products. -/
def BdOK (x : Bd) : Prop := (-2000000000 ≤ x.n ∧ x.n ≤ 2000000000) ∧ 0 < x.d ∧ x.d ≤ 2000000000
theorem mul_bd2 {x y : Int} (h1 : -2000000000 ≤ x) (h2 : x ≤ 2000000000) (h3 : 0 ≤ y) (h4 : y ≤ 2000000000) : -4000000000000000000 ≤ x * y ∧ x * y ≤ 4000000000000000000 := by
  have a1 : x * y ≤ 2000000000 * y := Int.mul_le_mul_of_nonneg_right h2 h3
  have a2 : -2000000000 * y ≤ x * y := Int.mul_le_mul_of_nonneg_right h1 h3
  omega
theorem bd_wrap {x y : Bd} (hx : BdOK x) (hy : BdOK y) : IntKind.i64.wrap (x.n * y.d) = x.n * y.d := by
  obtain ⟨⟨a1, a2⟩, a3, a4⟩ := hx
  obtain ⟨⟨b1, b2⟩, b3, b4⟩ := hy
  have := mul_bd2 a1 a2 (by omega : (0 : Int) ≤ y.d) b4
  exact i64_wrap (by omega)
set_option maxRecDepth 100000 in
set_option maxHeartbeats 4000000 in
theorem p_xcompare' {n d m e c : Int} {o q : Bool} (C1 : PCall Try.prog 54 [vI (n * e), vI (m * d)] (vI c)) (w1 : IntKind.i64.wrap (n * e) = n * e) (w2 : IntKind.i64.wrap (m * d) = m * d) : PCall Try.prog 51 [vBd n d o, vBd m e q] (vI c) := by
  refine pcall_body (f := 51) Try.func51 rfl rfl rfl rfl ?_
  (repeat (first | ((with_reducible apply al_q); exact rfl) | ((with_reducible apply al_mul); (iterate 3 exact rfl); (first | exact i64_wrap (by omega) | assumption | rfl); exact rfl) | (refine al_call2 rfl rfl rfl rfl (by (first | exact C1)) rfl ?_) | ((with_reducible apply al_bin); (iterate 5 exact rfl); (intro W; go_simp; try rfl); (intro W; go_simp; try rfl); exact rfl; exact rfl) | ((with_reducible apply awp_seq)) | ((with_reducible apply athen_normal)) | ((with_reducible apply awp_region)) | ((with_reducible apply al_nil)) | ((with_reducible apply awp_ret)) | ((with_reducible apply awp_skip)) | ((with_reducible apply athen_ret))))
  (first | (refine apost_ret rfl (resl_tmp rfl resl_nil) ?_))
  exact AV.Le.refl _
theorem p_xcompare {x y : Bd} (hx : BdOK x) (hy : BdOK y) : PCall Try.prog 51 [vBdB x, vBdB y] (vI (cmB x y)) :=
  p_xcompare' p_Compare (bd_wrap hx hy) (bd_wrap hy hx)
set_option maxRecDepth 100000 in
set_option maxHeartbeats 4000000 in
theorem p_later' {n d m e c : Int} {o q : Bool} {r1 r2 : Int} {r3 : Bool} (C1 : PCall Try.prog 51 [vBd n d o, vBd m e q] (vI c)) (cs : (0 < c ∧ r1 = n ∧ r2 = d ∧ r3 = o) ∨ (¬ 0 < c ∧ c = 0 ∧ q = true ∧ r1 = n ∧ r2 = d ∧ r3 = o) ∨ (¬ 0 < c ∧ c = 0 ∧ q = false ∧ r1 = m ∧ r2 = e ∧ r3 = q) ∨ (¬ 0 < c ∧ ¬ c = 0 ∧ r1 = m ∧ r2 = e ∧ r3 = q)) : PCall Try.prog 52 [vBd n d o, vBd m e q] (vBd r1 r2 r3) := by
  rcases cs with ⟨q1, rfl, rfl, rfl⟩ | ⟨q1, q2, rfl, rfl, rfl, rfl⟩ | ⟨q1, q2, rfl, rfl, rfl, rfl⟩ | ⟨q1, q2, rfl, rfl, rfl⟩
  all_goals
    refine pcall_body (f := 52) Try.func52 rfl rfl rfl rfl ?_
    (repeat (first | ((with_reducible apply al_q); exact rfl) | ((with_reducible apply al_eqP); (iterate 4 exact rfl)) | ((with_reducible apply al_eqB); (iterate 4 exact rfl)) | (refine al_call2 rfl rfl rfl rfl (by (first | exact C1)) rfl ?_) | ((with_reducible apply al_guard_b (c := true)); exact rfl; exact rfl; (first | assumption | exact decide_eq_true (by omega) | (simp only [Bool.not_eq_true', decide_eq_false_iff_not, decide_eq_true_eq, Bool.not_eq_false']; omega))) | ((with_reducible apply al_guard_b (c := false)); exact rfl; exact rfl; (first | assumption | exact decide_eq_false (by omega) | (simp only [Bool.not_eq_true', decide_eq_false_iff_not, decide_eq_true_eq, Bool.not_eq_false']; omega))) | ((with_reducible apply al_bin); (iterate 5 exact rfl); (intro W; go_simp; try rfl); (intro W; go_simp; try rfl); exact rfl; exact rfl) | ((with_reducible apply al_nilS); kernel_rfl) | ((with_reducible apply awp_region_draw); kernel_rfl; kernel_rfl; exact rfl) | ((with_reducible apply awp_seq)) | ((with_reducible apply athen_normal)) | ((with_reducible apply awp_region)) | ((with_reducible apply al_nil)) | ((with_reducible apply awp_ret)) | ((with_reducible apply awp_skip)) | ((with_reducible apply athen_ret)) | ((with_reducible apply awp_cond_t); exact rfl) | ((with_reducible apply awp_cond_f); exact rfl) | ((with_reducible apply awp_cond_1); exact rfl; (first | assumption | exact decide_eq_true (by omega) | (simp only [Bool.not_eq_true', decide_eq_false_iff_not, decide_eq_true_eq, Bool.not_eq_false']; omega))) | ((with_reducible apply awp_cond_0); exact rfl; (first | assumption | exact decide_eq_false (by omega) | (simp only [Bool.not_eq_true', decide_eq_false_iff_not, decide_eq_true_eq, Bool.not_eq_false']; omega)))))
    (first | (refine apost_ret rfl (resl_agg rfl rfl rfl resl_nil) ?_) | (refine apost_ret rfl (resl_one rfl rfl rfl resl_nil) ?_))
    exact AV.Le.refl _
theorem p_later {x y : Bd} (hx : BdOK x) (hy : BdOK y) : PCall Try.prog 52 [vBdB x, vBdB y] (vBdB (laB x y)) := by
  refine p_later' (p_xcompare hx hy) ?_
  rcases la_cases x y with ⟨e, h⟩ | ⟨e, h⟩ <;> rw [e]
  · by_cases h1 : 0 < cmB x y
    · exact .inl ⟨h1, rfl, rfl, rfl⟩
    · rcases h with h | ⟨h, k⟩
      · exact absurd h h1
      · exact .inr (.inl ⟨h1, h, k, rfl, rfl, rfl⟩)
  · have h1 : ¬ 0 < cmB x y := fun k => h (.inl k)
    by_cases h2 : cmB x y = 0
    · refine .inr (.inr (.inl ⟨h1, h2, ?_, rfl, rfl, rfl⟩))
      cases hy : y.own with
      | false => rfl
      | true => exact absurd (.inr ⟨h2, hy⟩) h
    · exact .inr (.inr (.inr ⟨h1, h2, rfl, rfl, rfl⟩))
set_option maxRecDepth 100000 in
set_option maxHeartbeats 4000000 in
theorem p_earlier' {n d m e c : Int} {o q : Bool} {r1 r2 : Int} {r3 : Bool} (C1 : PCall Try.prog 51 [vBd n d o, vBd m e q] (vI c)) (cs : (c < 0 ∧ r1 = n ∧ r2 = d ∧ r3 = o) ∨ (¬ c < 0 ∧ c = 0 ∧ q = true ∧ r1 = n ∧ r2 = d ∧ r3 = o) ∨ (¬ c < 0 ∧ c = 0 ∧ q = false ∧ r1 = m ∧ r2 = e ∧ r3 = q) ∨ (¬ c < 0 ∧ ¬ c = 0 ∧ r1 = m ∧ r2 = e ∧ r3 = q)) : PCall Try.prog 53 [vBd n d o, vBd m e q] (vBd r1 r2 r3) := by
  rcases cs with ⟨q1, rfl, rfl, rfl⟩ | ⟨q1, q2, rfl, rfl, rfl, rfl⟩ | ⟨q1, q2, rfl, rfl, rfl, rfl⟩ | ⟨q1, q2, rfl, rfl, rfl⟩
  all_goals
    refine pcall_body (f := 53) Try.func53 rfl rfl rfl rfl ?_
    (repeat (first | ((with_reducible apply al_q); exact rfl) | ((with_reducible apply al_eqP); (iterate 4 exact rfl)) | ((with_reducible apply al_eqB); (iterate 4 exact rfl)) | (refine al_call2 rfl rfl rfl rfl (by (first | exact C1)) rfl ?_) | ((with_reducible apply al_guard_b (c := true)); exact rfl; exact rfl; (first | assumption | exact decide_eq_true (by omega) | (simp only [Bool.not_eq_true', decide_eq_false_iff_not, decide_eq_true_eq, Bool.not_eq_false']; omega))) | ((with_reducible apply al_guard_b (c := false)); exact rfl; exact rfl; (first | assumption | exact decide_eq_false (by omega) | (simp only [Bool.not_eq_true', decide_eq_false_iff_not, decide_eq_true_eq, Bool.not_eq_false']; omega))) | ((with_reducible apply al_bin); (iterate 5 exact rfl); (intro W; go_simp; try rfl); (intro W; go_simp; try rfl); exact rfl; exact rfl) | ((with_reducible apply al_nilS); kernel_rfl) | ((with_reducible apply awp_region_draw); kernel_rfl; kernel_rfl; exact rfl) | ((with_reducible apply awp_seq)) | ((with_reducible apply athen_normal)) | ((with_reducible apply awp_region)) | ((with_reducible apply al_nil)) | ((with_reducible apply awp_ret)) | ((with_reducible apply awp_skip)) | ((with_reducible apply athen_ret)) | ((with_reducible apply awp_cond_t); exact rfl) | ((with_reducible apply awp_cond_f); exact rfl) | ((with_reducible apply awp_cond_1); exact rfl; (first | assumption | exact decide_eq_true (by omega) | (simp only [Bool.not_eq_true', decide_eq_false_iff_not, decide_eq_true_eq, Bool.not_eq_false']; omega))) | ((with_reducible apply awp_cond_0); exact rfl; (first | assumption | exact decide_eq_false (by omega) | (simp only [Bool.not_eq_true', decide_eq_false_iff_not, decide_eq_true_eq, Bool.not_eq_false']; omega)))))
    (first | (refine apost_ret rfl (resl_agg rfl rfl rfl resl_nil) ?_) | (refine apost_ret rfl (resl_one rfl rfl rfl resl_nil) ?_))
    exact AV.Le.refl _
theorem p_earlier {x y : Bd} (hx : BdOK x) (hy : BdOK y) : PCall Try.prog 53 [vBdB x, vBdB y] (vBdB (eaB x y)) := by
  refine p_earlier' (p_xcompare hx hy) ?_
  rcases ea_cases x y with ⟨e, h⟩ | ⟨e, h⟩ <;> rw [e]
  · by_cases h1 : cmB x y < 0
    · exact .inl ⟨h1, rfl, rfl, rfl⟩
    · rcases h with h | ⟨h, k⟩
      · exact absurd h h1
      · exact .inr (.inl ⟨h1, h, k, rfl, rfl, rfl⟩)
  · have h1 : ¬ cmB x y < 0 := fun k => h (.inl k)
    by_cases h2 : cmB x y = 0
    · refine .inr (.inr (.inl ⟨h1, h2, ?_, rfl, rfl, rfl⟩))
      cases hy : y.own with
      | false => rfl
      | true => exact absurd (.inr ⟨h2, hy⟩) h
    · exact .inr (.inr (.inr ⟨h1, h2, rfl, rfl, rfl⟩))
/-- what is left of a segment, as a value. -/
abbrev vPart (a1 a2 b1 b2 n d : Int) (o : Bool) (m e : Int) (q : Bool) : AV := .w (.agg [.c (.int .i64 a1), .c (.int .i64 a2), .c (.int .i64 b1), .c (.int .i64 b2), .c (.int .i64 n), .c (.int .i64 d), .c (.bool o), .c (.int .i64 m), .c (.int .i64 e), .c (.bool q)])
abbrev vPaB (a1 a2 b1 b2 : Int) (p : Pa) : AV := vPart a1 a2 b1 b2 p.f.n p.f.d p.f.own p.t.n p.t.d p.t.own
def PaOK (p : Pa) : Prop := BdOK p.f ∧ BdOK p.t
set_option maxRecDepth 100000 in
set_option maxHeartbeats 4000000 in
theorem p_keep' {a1 a2 b1 b2 n d m e u v : Int} {o q w : Bool} {n' d' m' e' : Int} {o' q' : Bool} (hu : -1100000000 ≤ u ∧ u ≤ 1100000000) (hv : -1100000000 ≤ v ∧ v ≤ 1100000000)
    (cs : (0 < v - u ∧ PCall Try.prog 52 [vBd n d o, vBd (-u) (v - u) w] (vBd n' d' o') ∧ m' = m ∧ e' = e ∧ q' = q) ∨ (¬ 0 < v - u ∧ v - u < 0 ∧ PCall Try.prog 53 [vBd m e q, vBd u (-(v - u)) w] (vBd m' e' q') ∧ n' = n ∧ d' = d ∧ o' = o)
      ∨ (¬ 0 < v - u ∧ ¬ v - u < 0 ∧ u < 0 ∧ n' = 1 ∧ d' = 1 ∧ o' = false ∧ m' = 0 ∧ e' = 1 ∧ q' = false) ∨ (¬ 0 < v - u ∧ ¬ v - u < 0 ∧ ¬ u < 0 ∧ u = 0 ∧ w = false ∧ n' = 1 ∧ d' = 1 ∧ o' = false ∧ m' = 0 ∧ e' = 1 ∧ q' = false)
      ∨ (¬ 0 < v - u ∧ ¬ v - u < 0 ∧ ¬ u < 0 ∧ u = 0 ∧ w = true ∧ n' = n ∧ d' = d ∧ o' = o ∧ m' = m ∧ e' = e ∧ q' = q) ∨ (¬ 0 < v - u ∧ ¬ v - u < 0 ∧ ¬ u < 0 ∧ ¬ u = 0 ∧ n' = n ∧ d' = d ∧ o' = o ∧ m' = m ∧ e' = e ∧ q' = q)) :
    PCall Try.prog 50 [vPart a1 a2 b1 b2 n d o m e q, vI u, vI v, vB w] (vPart a1 a2 b1 b2 n' d' o' m' e' q') := by
  rcases cs with ⟨q1, C1, rfl, rfl, rfl⟩ | ⟨q1, q2, C1, rfl, rfl, rfl⟩ | ⟨q1, q2, q3, rfl, rfl, rfl, rfl, rfl, rfl⟩ | ⟨q1, q2, q3, q4, rfl, rfl, rfl, rfl, rfl, rfl, rfl⟩ | ⟨q1, q2, q3, q4, rfl, rfl, rfl, rfl, rfl, rfl, rfl⟩ | ⟨q1, q2, q3, q4, rfl, rfl, rfl, rfl, rfl, rfl⟩
  · refine pcall_body (f := 50) Try.func50 rfl rfl rfl rfl ?_
    (repeat (first | ((with_reducible apply al_q); exact rfl) | ((with_reducible apply al_eqP); (iterate 4 exact rfl)) | ((with_reducible apply al_eqB); (iterate 4 exact rfl)) | ((with_reducible apply al_sub); (iterate 3 exact rfl); (first | exact i64_wrap (by omega) | assumption | rfl); exact rfl) | ((with_reducible apply al_neg); exact rfl; exact rfl; (first | exact i64_wrap (by omega) | assumption | rfl); exact rfl) | (refine al_call2 rfl rfl rfl rfl (by (first | exact C1)) rfl ?_) | ((with_reducible apply al_guard_b (c := true)); exact rfl; exact rfl; (first | assumption | exact decide_eq_true (by omega) | (simp only [Bool.not_eq_true', decide_eq_false_iff_not, decide_eq_true_eq, Bool.not_eq_false']; omega))) | ((with_reducible apply al_guard_b (c := false)); exact rfl; exact rfl; (first | assumption | exact decide_eq_false (by omega) | (simp only [Bool.not_eq_true', decide_eq_false_iff_not, decide_eq_true_eq, Bool.not_eq_false']; omega))) | ((with_reducible apply al_bin); (iterate 5 exact rfl); (intro W; go_simp; try rfl); (intro W; go_simp; try rfl); exact rfl; exact rfl) | ((with_reducible apply al_un); exact rfl; exact rfl; (intro W; go_simp; try rfl); exact rfl; exact rfl) | ((with_reducible apply al_nilS); kernel_rfl) | ((with_reducible apply awp_region_draw); kernel_rfl; kernel_rfl; exact rfl) | ((with_reducible apply awp_seq)) | ((with_reducible apply athen_normal)) | ((with_reducible apply awp_region)) | ((with_reducible apply al_nil)) | ((with_reducible apply awp_ret)) | ((with_reducible apply awp_skip)) | ((with_reducible apply athen_ret)) | ((with_reducible apply awp_block)) | ((with_reducible apply ablock_normal)) | ((with_reducible apply ablock_ret)) | ((with_reducible apply ablock_same)) | ((with_reducible apply ablock_ne); exact rfl) | ((with_reducible apply awp_cond_t); exact rfl) | ((with_reducible apply awp_cond_f); exact rfl) | ((with_reducible apply awp_cond_1); exact rfl; (first | assumption | exact decide_eq_true (by omega) | (simp only [Bool.not_eq_true', decide_eq_false_iff_not, decide_eq_true_eq, Bool.not_eq_false']; omega))) | ((with_reducible apply awp_cond_0); exact rfl; (first | assumption | exact decide_eq_false (by omega) | (simp only [Bool.not_eq_true', decide_eq_false_iff_not, decide_eq_true_eq, Bool.not_eq_false']; omega)))))
    (first | (refine apost_ret rfl (resl_agg rfl rfl rfl resl_nil) ?_) | (refine apost_ret rfl (resl_one rfl rfl rfl resl_nil) ?_))
    exact AV.Le.refl _
  · refine pcall_body (f := 50) Try.func50 rfl rfl rfl rfl ?_
    (repeat (first | ((with_reducible apply al_q); exact rfl) | ((with_reducible apply al_eqP); (iterate 4 exact rfl)) | ((with_reducible apply al_eqB); (iterate 4 exact rfl)) | ((with_reducible apply al_sub); (iterate 3 exact rfl); (first | exact i64_wrap (by omega) | assumption | rfl); exact rfl) | ((with_reducible apply al_neg); exact rfl; exact rfl; (first | exact i64_wrap (by omega) | assumption | rfl); exact rfl) | (refine al_call2 rfl rfl rfl rfl (by (first | exact C1)) rfl ?_) | ((with_reducible apply al_guard_b (c := true)); exact rfl; exact rfl; (first | assumption | exact decide_eq_true (by omega) | (simp only [Bool.not_eq_true', decide_eq_false_iff_not, decide_eq_true_eq, Bool.not_eq_false']; omega))) | ((with_reducible apply al_guard_b (c := false)); exact rfl; exact rfl; (first | assumption | exact decide_eq_false (by omega) | (simp only [Bool.not_eq_true', decide_eq_false_iff_not, decide_eq_true_eq, Bool.not_eq_false']; omega))) | ((with_reducible apply al_bin); (iterate 5 exact rfl); (intro W; go_simp; try rfl); (intro W; go_simp; try rfl); exact rfl; exact rfl) | ((with_reducible apply al_un); exact rfl; exact rfl; (intro W; go_simp; try rfl); exact rfl; exact rfl) | ((with_reducible apply al_nilS); kernel_rfl) | ((with_reducible apply awp_region_draw); kernel_rfl; kernel_rfl; exact rfl) | ((with_reducible apply awp_seq)) | ((with_reducible apply athen_normal)) | ((with_reducible apply awp_region)) | ((with_reducible apply al_nil)) | ((with_reducible apply awp_ret)) | ((with_reducible apply awp_skip)) | ((with_reducible apply athen_ret)) | ((with_reducible apply awp_block)) | ((with_reducible apply ablock_normal)) | ((with_reducible apply ablock_ret)) | ((with_reducible apply ablock_same)) | ((with_reducible apply ablock_ne); exact rfl) | ((with_reducible apply awp_cond_t); exact rfl) | ((with_reducible apply awp_cond_f); exact rfl) | ((with_reducible apply awp_cond_1); exact rfl; (first | assumption | exact decide_eq_true (by omega) | (simp only [Bool.not_eq_true', decide_eq_false_iff_not, decide_eq_true_eq, Bool.not_eq_false']; omega))) | ((with_reducible apply awp_cond_0); exact rfl; (first | assumption | exact decide_eq_false (by omega) | (simp only [Bool.not_eq_true', decide_eq_false_iff_not, decide_eq_true_eq, Bool.not_eq_false']; omega)))))
    (first | (refine apost_ret rfl (resl_agg rfl rfl rfl resl_nil) ?_) | (refine apost_ret rfl (resl_one rfl rfl rfl resl_nil) ?_))
    exact AV.Le.refl _
  all_goals
    refine pcall_body (f := 50) Try.func50 rfl rfl rfl rfl ?_
    (repeat (first | ((with_reducible apply al_q); exact rfl) | ((with_reducible apply al_eqP); (iterate 4 exact rfl)) | ((with_reducible apply al_eqB); (iterate 4 exact rfl)) | ((with_reducible apply al_sub); (iterate 3 exact rfl); (first | exact i64_wrap (by omega) | assumption | rfl); exact rfl) | ((with_reducible apply al_neg); exact rfl; exact rfl; (first | exact i64_wrap (by omega) | assumption | rfl); exact rfl) | (refine al_call2 rfl rfl rfl rfl (by fail) rfl ?_) | ((with_reducible apply al_guard_b (c := true)); exact rfl; exact rfl; (first | assumption | exact decide_eq_true (by omega) | (simp only [Bool.not_eq_true', decide_eq_false_iff_not, decide_eq_true_eq, Bool.not_eq_false']; omega))) | ((with_reducible apply al_guard_b (c := false)); exact rfl; exact rfl; (first | assumption | exact decide_eq_false (by omega) | (simp only [Bool.not_eq_true', decide_eq_false_iff_not, decide_eq_true_eq, Bool.not_eq_false']; omega))) | ((with_reducible apply al_bin); (iterate 5 exact rfl); (intro W; go_simp; try rfl); (intro W; go_simp; try rfl); exact rfl; exact rfl) | ((with_reducible apply al_un); exact rfl; exact rfl; (intro W; go_simp; try rfl); exact rfl; exact rfl) | ((with_reducible apply al_nilS); kernel_rfl) | ((with_reducible apply awp_region_draw); kernel_rfl; kernel_rfl; exact rfl) | ((with_reducible apply awp_seq)) | ((with_reducible apply athen_normal)) | ((with_reducible apply awp_region)) | ((with_reducible apply al_nil)) | ((with_reducible apply awp_ret)) | ((with_reducible apply awp_skip)) | ((with_reducible apply athen_ret)) | ((with_reducible apply awp_block)) | ((with_reducible apply ablock_normal)) | ((with_reducible apply ablock_ret)) | ((with_reducible apply ablock_same)) | ((with_reducible apply ablock_ne); exact rfl) | ((with_reducible apply awp_cond_t); exact rfl) | ((with_reducible apply awp_cond_f); exact rfl) | ((with_reducible apply awp_cond_1); exact rfl; (first | assumption | exact decide_eq_true (by omega) | (simp only [Bool.not_eq_true', decide_eq_false_iff_not, decide_eq_true_eq, Bool.not_eq_false']; omega))) | ((with_reducible apply awp_cond_0); exact rfl; (first | assumption | exact decide_eq_false (by omega) | (simp only [Bool.not_eq_true', decide_eq_false_iff_not, decide_eq_true_eq, Bool.not_eq_false']; omega)))))
    (first | (refine apost_ret rfl (resl_agg rfl rfl rfl resl_nil) ?_) | (refine apost_ret rfl (resl_one rfl rfl rfl resl_nil) ?_))
    exact AV.Le.refl _
theorem la_ok {x y : Bd} (hx : BdOK x) (hy : BdOK y) : BdOK (laB x y) := by unfold laB; split <;> assumption
theorem ea_ok {x y : Bd} (hx : BdOK x) (hy : BdOK y) : BdOK (eaB x y) := by unfold eaB; split <;> assumption
theorem kp_ok {p : Pa} {u v : Int} {w : Bool} (hp : PaOK p) (hu : -900000000 ≤ u ∧ u ≤ 900000000) (hv : -900000000 ≤ v ∧ v ≤ 900000000) : PaOK (kpB p u v w) := by
  unfold kpB
  by_cases h1 : 0 < v - u
  · rw [if_pos h1]; exact ⟨la_ok hp.1 ⟨by simp only; omega, by simp only; omega⟩, hp.2⟩
  · rw [if_neg h1]
    by_cases h2 : v - u < 0
    · rw [if_pos h2]; exact ⟨hp.1, ea_ok hp.2 ⟨by simp only; omega, by simp only; omega⟩⟩
    · rw [if_neg h2]
      split
      · exact ⟨⟨by decide, by decide⟩, ⟨by decide, by decide⟩⟩
      · exact hp
theorem p_keep {a1 a2 b1 b2 u v : Int} {w : Bool} {p : Pa} (hp : PaOK p) (hu : -900000000 ≤ u ∧ u ≤ 900000000) (hv : -900000000 ≤ v ∧ v ≤ 900000000) : PCall Try.prog 50 [vPaB a1 a2 b1 b2 p, vI u, vI v, vB w] (vPaB a1 a2 b1 b2 (kpB p u v w)) := by
  refine p_keep' (by omega) (by omega) ?_
  unfold kpB
  by_cases h1 : 0 < v - u
  · rw [if_pos h1]
    exact .inl ⟨h1, p_later hp.1 (y := ⟨-u, v - u, w⟩) ⟨by simp only; omega, by simp only; omega⟩, rfl, rfl, rfl⟩
  · rw [if_neg h1]
    by_cases h2 : v - u < 0
    · rw [if_pos h2]
      exact .inr (.inl ⟨h1, h2, p_earlier hp.2 (y := ⟨u, -(v - u), w⟩) ⟨by simp only; omega, by simp only; omega⟩, rfl, rfl, rfl⟩)
    · rw [if_neg h2]
      by_cases h3 : u < 0
      · rw [if_pos (.inl h3)]
        exact .inr (.inr (.inl ⟨h1, h2, h3, rfl, rfl, rfl, rfl, rfl, rfl⟩))
      · by_cases h4 : u = 0
        · cases w with
          | false => rw [if_pos (.inr ⟨h4, rfl⟩)]; exact .inr (.inr (.inr (.inl ⟨h1, h2, h3, h4, rfl, rfl, rfl, rfl, rfl, rfl, rfl⟩)))
          | true => rw [if_neg (by simp [h3])]; exact .inr (.inr (.inr (.inr (.inl ⟨h1, h2, h3, h4, rfl, rfl, rfl, rfl, rfl, rfl, rfl⟩))))
        · rw [if_neg (by simp [h3, h4])]
          exact .inr (.inr (.inr (.inr (.inr ⟨h1, h2, h3, h4, rfl, rfl, rfl, rfl, rfl, rfl⟩))))
end Go.Proofs.Ytcplkjnmfdinaaa

namespace Go.Proofs.Ytcplkjnmfdinaaa
open Go.RowKit
set_option linter.unusedVariables false
set_option linter.unusedSimpArgs false
instance : IPart Try.prog 72 4 false 1 := ⟨by kernel_rfl⟩
abbrev vBox (l1 l2 h1 h2 : Int) (o p : Bool) : AV := .w (.agg [.c (.int .i64 l1), .c (.int .i64 l2), .c (.int .i64 h1), .c (.int .i64 h2), .c (.bool o), .c (.bool p)])
/-- a corner's number may be so great. -/
def cb6 (n : Int) : Bool := decide (-536870912 ≤ n) && decide (n ≤ 536870912)
theorem cb6_iff {n : Int} : cb6 n = true ↔ -536870912 ≤ n ∧ n ≤ 536870912 := by unfold cb6; simp
def co6 (x y : Int) : Bool := cb6 x && cb6 y
theorem co6_iff {x y : Int} : co6 x y = true ↔ (-536870912 ≤ x ∧ x ≤ 536870912) ∧ -536870912 ≤ y ∧ y ≤ 536870912 := by unfold co6; rw [Bool.and_eq_true, cb6_iff, cb6_iff]
def kd6 (k : Int) : Bool := decide (0 ≤ k) && decide (k ≤ 2)
set_option maxRecDepth 100000 in
set_option maxHeartbeats 4000000 in
theorem p_cutLeft {a1 a2 b1 b2 l1 l2 h1 h2 n d m e n' d' m' e' : Int} {o p q r q' r' : Bool} (ha : -134217728 ≤ a1 ∧ a1 ≤ 134217728) (hb : -134217728 ≤ b1 ∧ b1 ≤ 134217728) (hl : -536870912 ≤ l1 ∧ l1 ≤ 536870912)
    (C1 : PCall Try.prog 50 [vPart a1 a2 b1 b2 n d q m e r, vI (2 * a1 - l1), vI (2 * b1 - l1), vB o] (vPart a1 a2 b1 b2 n' d' q' m' e' r')) : PCall Try.prog 41 [vBox l1 l2 h1 h2 o p, vPart a1 a2 b1 b2 n d q m e r] (vPart a1 a2 b1 b2 n' d' q' m' e' r') := by
  refine pcall_body (f := 41) Try.func41 rfl rfl rfl rfl ?_
  (repeat (first | ((with_reducible apply al_q); exact rfl) | ((with_reducible apply al_sub); (iterate 3 exact rfl); (first | exact i64_wrap (by omega) | assumption | rfl); exact rfl) | ((with_reducible apply al_mul); (iterate 3 exact rfl); (first | exact i64_wrap (by omega) | assumption | rfl); exact rfl) | (refine al_call4 rfl rfl rfl rfl rfl rfl (by (first | exact C1)) rfl ?_) | ((with_reducible apply al_bin); (iterate 5 exact rfl); (intro W; go_simp; try rfl); (intro W; go_simp; try rfl); exact rfl; exact rfl) | ((with_reducible apply awp_seq)) | ((with_reducible apply athen_normal)) | ((with_reducible apply awp_region)) | ((with_reducible apply al_nil)) | ((with_reducible apply awp_ret)) | ((with_reducible apply awp_skip)) | ((with_reducible apply athen_ret))))
  (first | (refine apost_ret rfl (resl_agg rfl rfl rfl resl_nil) ?_) | (refine apost_ret rfl (resl_one rfl rfl rfl resl_nil) ?_))
  exact AV.Le.refl _
set_option maxRecDepth 100000 in
set_option maxHeartbeats 4000000 in
theorem p_cutBelow {a1 a2 b1 b2 l1 l2 h1 h2 n d m e n' d' m' e' : Int} {o p q r q' r' : Bool} (ha : -134217728 ≤ a2 ∧ a2 ≤ 134217728) (hb : -134217728 ≤ b2 ∧ b2 ≤ 134217728) (hl : -536870912 ≤ l2 ∧ l2 ≤ 536870912)
    (C1 : PCall Try.prog 50 [vPart a1 a2 b1 b2 n d q m e r, vI (2 * a2 - l2), vI (2 * b2 - l2), vB o] (vPart a1 a2 b1 b2 n' d' q' m' e' r')) : PCall Try.prog 42 [vBox l1 l2 h1 h2 o p, vPart a1 a2 b1 b2 n d q m e r] (vPart a1 a2 b1 b2 n' d' q' m' e' r') := by
  refine pcall_body (f := 42) Try.func42 rfl rfl rfl rfl ?_
  (repeat (first | ((with_reducible apply al_q); exact rfl) | ((with_reducible apply al_sub); (iterate 3 exact rfl); (first | exact i64_wrap (by omega) | assumption | rfl); exact rfl) | ((with_reducible apply al_mul); (iterate 3 exact rfl); (first | exact i64_wrap (by omega) | assumption | rfl); exact rfl) | (refine al_call4 rfl rfl rfl rfl rfl rfl (by (first | exact C1)) rfl ?_) | ((with_reducible apply al_bin); (iterate 5 exact rfl); (intro W; go_simp; try rfl); (intro W; go_simp; try rfl); exact rfl; exact rfl) | ((with_reducible apply awp_seq)) | ((with_reducible apply athen_normal)) | ((with_reducible apply awp_region)) | ((with_reducible apply al_nil)) | ((with_reducible apply awp_ret)) | ((with_reducible apply awp_skip)) | ((with_reducible apply athen_ret))))
  (first | (refine apost_ret rfl (resl_agg rfl rfl rfl resl_nil) ?_) | (refine apost_ret rfl (resl_one rfl rfl rfl resl_nil) ?_))
  exact AV.Le.refl _
set_option maxRecDepth 100000 in
set_option maxHeartbeats 4000000 in
theorem p_cutRight {a1 a2 b1 b2 l1 l2 h1 h2 n d m e n' d' m' e' : Int} {o p q r q' r' : Bool} (ha : -134217728 ≤ a1 ∧ a1 ≤ 134217728) (hb : -134217728 ≤ b1 ∧ b1 ≤ 134217728) (hl : -536870912 ≤ h1 ∧ h1 ≤ 536870912)
    (C1 : PCall Try.prog 50 [vPart a1 a2 b1 b2 n d q m e r, vI (h1 - 2 * a1), vI (h1 - 2 * b1), vB p] (vPart a1 a2 b1 b2 n' d' q' m' e' r')) : PCall Try.prog 43 [vBox l1 l2 h1 h2 o p, vPart a1 a2 b1 b2 n d q m e r] (vPart a1 a2 b1 b2 n' d' q' m' e' r') := by
  refine pcall_body (f := 43) Try.func43 rfl rfl rfl rfl ?_
  (repeat (first | ((with_reducible apply al_q); exact rfl) | ((with_reducible apply al_sub); (iterate 3 exact rfl); (first | exact i64_wrap (by omega) | assumption | rfl); exact rfl) | ((with_reducible apply al_mul); (iterate 3 exact rfl); (first | exact i64_wrap (by omega) | assumption | rfl); exact rfl) | (refine al_call4 rfl rfl rfl rfl rfl rfl (by (first | exact C1)) rfl ?_) | ((with_reducible apply al_bin); (iterate 5 exact rfl); (intro W; go_simp; try rfl); (intro W; go_simp; try rfl); exact rfl; exact rfl) | ((with_reducible apply awp_seq)) | ((with_reducible apply athen_normal)) | ((with_reducible apply awp_region)) | ((with_reducible apply al_nil)) | ((with_reducible apply awp_ret)) | ((with_reducible apply awp_skip)) | ((with_reducible apply athen_ret))))
  (first | (refine apost_ret rfl (resl_agg rfl rfl rfl resl_nil) ?_) | (refine apost_ret rfl (resl_one rfl rfl rfl resl_nil) ?_))
  exact AV.Le.refl _
set_option maxRecDepth 100000 in
set_option maxHeartbeats 4000000 in
theorem p_cutAbove {a1 a2 b1 b2 l1 l2 h1 h2 n d m e n' d' m' e' : Int} {o p q r q' r' : Bool} (ha : -134217728 ≤ a2 ∧ a2 ≤ 134217728) (hb : -134217728 ≤ b2 ∧ b2 ≤ 134217728) (hl : -536870912 ≤ h2 ∧ h2 ≤ 536870912)
    (C1 : PCall Try.prog 50 [vPart a1 a2 b1 b2 n d q m e r, vI (h2 - 2 * a2), vI (h2 - 2 * b2), vB p] (vPart a1 a2 b1 b2 n' d' q' m' e' r')) : PCall Try.prog 44 [vBox l1 l2 h1 h2 o p, vPart a1 a2 b1 b2 n d q m e r] (vPart a1 a2 b1 b2 n' d' q' m' e' r') := by
  refine pcall_body (f := 44) Try.func44 rfl rfl rfl rfl ?_
  (repeat (first | ((with_reducible apply al_q); exact rfl) | ((with_reducible apply al_sub); (iterate 3 exact rfl); (first | exact i64_wrap (by omega) | assumption | rfl); exact rfl) | ((with_reducible apply al_mul); (iterate 3 exact rfl); (first | exact i64_wrap (by omega) | assumption | rfl); exact rfl) | (refine al_call4 rfl rfl rfl rfl rfl rfl (by (first | exact C1)) rfl ?_) | ((with_reducible apply al_bin); (iterate 5 exact rfl); (intro W; go_simp; try rfl); (intro W; go_simp; try rfl); exact rfl; exact rfl) | ((with_reducible apply awp_seq)) | ((with_reducible apply athen_normal)) | ((with_reducible apply awp_region)) | ((with_reducible apply al_nil)) | ((with_reducible apply awp_ret)) | ((with_reducible apply awp_skip)) | ((with_reducible apply athen_ret))))
  (first | (refine apost_ret rfl (resl_agg rfl rfl rfl resl_nil) ?_) | (refine apost_ret rfl (resl_one rfl rfl rfl resl_nil) ?_))
  exact AV.Le.refl _
set_option maxRecDepth 100000 in
set_option maxHeartbeats 4000000 in
theorem p_allOf {a1 a2 b1 b2 : Int} : PCall Try.prog 40 [vP a1 a2, vP b1 b2] (vPaB a1 a2 b1 b2 alB) := by
  refine pcall_body (f := 40) Try.func40 rfl rfl rfl rfl ?_
  (repeat (first | ((with_reducible apply al_q); exact rfl) | ((with_reducible apply al_nilS); kernel_rfl) | ((with_reducible apply awp_region_draw); kernel_rfl; kernel_rfl; exact rfl) | ((with_reducible apply awp_seq)) | ((with_reducible apply athen_normal)) | ((with_reducible apply awp_region)) | ((with_reducible apply al_nil)) | ((with_reducible apply awp_ret)) | ((with_reducible apply awp_skip)) | ((with_reducible apply athen_ret))))
  (first | (refine apost_ret rfl (resl_agg rfl rfl rfl resl_nil) ?_) | (refine apost_ret rfl (resl_one rfl rfl rfl resl_nil) ?_))
  exact AV.Le.refl _
set_option maxRecDepth 100000 in
set_option maxHeartbeats 4000000 in
theorem p_hasAny' {a1 a2 b1 b2 n d m e c : Int} {o q r : Bool} (C1 : PCall Try.prog 51 [vBd n d o, vBd m e q] (vI c)) (cs : (c < 0 ∧ r = true) ∨ (¬ c < 0 ∧ c = 0 ∧ o = true ∧ r = q) ∨ (¬ c < 0 ∧ c = 0 ∧ o = false ∧ r = false) ∨ (¬ c < 0 ∧ ¬ c = 0 ∧ r = false)) : PCall Try.prog 45 [vPart a1 a2 b1 b2 n d o m e q] (vB r) := by
  rcases cs with ⟨q1, rfl⟩ | ⟨q1, q2, rfl, rfl⟩ | ⟨q1, q2, rfl, rfl⟩ | ⟨q1, q2, rfl⟩
  all_goals
    refine pcall_body (f := 45) Try.func45 rfl rfl rfl rfl ?_
    (repeat (first | ((with_reducible apply al_q); exact rfl) | ((with_reducible apply al_eqP); (iterate 4 exact rfl)) | ((with_reducible apply al_eqB); (iterate 4 exact rfl)) | (refine al_call2 rfl rfl rfl rfl (by (first | exact C1)) rfl ?_) | ((with_reducible apply al_guard_b (c := true)); exact rfl; exact rfl; (first | assumption | exact decide_eq_true (by omega) | (simp only [Bool.not_eq_true', decide_eq_false_iff_not, decide_eq_true_eq, Bool.not_eq_false']; omega))) | ((with_reducible apply al_guard_b (c := false)); exact rfl; exact rfl; (first | assumption | exact decide_eq_false (by omega) | (simp only [Bool.not_eq_true', decide_eq_false_iff_not, decide_eq_true_eq, Bool.not_eq_false']; omega))) | ((with_reducible apply al_bin); (iterate 5 exact rfl); (intro W; go_simp; try rfl); (intro W; go_simp; try rfl); exact rfl; exact rfl) | ((with_reducible apply al_nilS); kernel_rfl) | ((with_reducible apply awp_region_draw); kernel_rfl; kernel_rfl; exact rfl) | ((with_reducible apply awp_seq)) | ((with_reducible apply athen_normal)) | ((with_reducible apply awp_region)) | ((with_reducible apply al_nil)) | ((with_reducible apply awp_ret)) | ((with_reducible apply awp_skip)) | ((with_reducible apply athen_ret))))
    (first | (refine apost_ret rfl (resl_tmp rfl resl_nil) ?_))
    exact AV.Le.refl _
theorem p_hasAny {a1 a2 b1 b2 : Int} {p : Pa} (hp : PaOK p) : PCall Try.prog 45 [vPaB a1 a2 b1 b2 p] (vB (anB p)) := by
  refine p_hasAny' (p_xcompare hp.1 hp.2) ?_
  unfold anB
  by_cases h1 : cmB p.f p.t < 0
  · exact .inl ⟨h1, by rw [decide_eq_true h1]; rfl⟩
  · rw [decide_eq_false h1]
    by_cases h2 : cmB p.f p.t = 0
    · rw [decide_eq_true h2]
      cases h3 : p.f.own with
      | true => exact .inr (.inl ⟨h1, h2, rfl, rfl⟩)
      | false => exact .inr (.inr (.inl ⟨h1, h2, rfl, rfl⟩))
    · exact .inr (.inr (.inr ⟨h1, h2, by rw [decide_eq_false h2]; rfl⟩))
set_option maxRecDepth 100000 in
set_option maxHeartbeats 4000000 in
theorem p_far6 {n : Int} {b : Bool} (hb : cb6 n = b) : PCall Try.prog 49 [vI n] (vB b) := by
  have cs : (-536870912 ≤ n ∧ n ≤ 536870912 ∧ b = true) ∨ (-536870912 ≤ n ∧ ¬ n ≤ 536870912 ∧ b = false) ∨ (¬ -536870912 ≤ n ∧ b = false) := by
    rw [← hb]; unfold cb6
    by_cases h1 : -536870912 ≤ n <;> by_cases h2 : n ≤ 536870912 <;> simp [h1, h2]
  clear hb
  rcases cs with ⟨h1, h2, rfl⟩ | ⟨h1, h2, rfl⟩ | ⟨h1, rfl⟩
  all_goals
    refine pcall_body (f := 49) Try.func49 rfl rfl rfl rfl ?_
    (repeat (first | ((with_reducible apply al_q); exact rfl) | ((with_reducible apply al_guard_b (c := true)); exact rfl; exact rfl; (first | assumption | exact decide_eq_true (by omega) | (simp only [Bool.not_eq_true', decide_eq_false_iff_not, decide_eq_true_eq, Bool.not_eq_false']; omega))) | ((with_reducible apply al_guard_b (c := false)); exact rfl; exact rfl; (first | assumption | exact decide_eq_false (by omega) | (simp only [Bool.not_eq_true', decide_eq_false_iff_not, decide_eq_true_eq, Bool.not_eq_false']; omega))) | ((with_reducible apply al_bin); (iterate 5 exact rfl); (intro W; go_simp; try rfl); (intro W; go_simp; try rfl); exact rfl; exact rfl) | ((with_reducible apply al_nilS); kernel_rfl) | ((with_reducible apply awp_region_draw); kernel_rfl; kernel_rfl; exact rfl) | ((with_reducible apply awp_seq)) | ((with_reducible apply athen_normal)) | ((with_reducible apply awp_region)) | ((with_reducible apply al_nil)) | ((with_reducible apply awp_ret)) | ((with_reducible apply awp_skip)) | ((with_reducible apply athen_ret))))
    (first | (refine apost_ret rfl (resl_tmp rfl resl_nil) ?_))
    first | exact AV.Le.refl _ | exact AV.Le.of_eq (by rw [decide_eq_true h2]; rfl) | exact AV.Le.of_eq (by rw [decide_eq_false h2]; rfl)
set_option maxRecDepth 100000 in
set_option maxHeartbeats 4000000 in
theorem p_isCorner {x y : Int} {b : Bool} (hb : co6 x y = b) : PCall Try.prog 38 [vP x y] (vB b) := by
  have C1 := p_far6 (n := x) rfl
  have C2 := p_far6 (n := y) rfl
  unfold co6 at hb
  cases q1 : cb6 x <;> cases q2 : cb6 y <;> rw [q1] at C1 <;> rw [q2] at C2 <;> rw [q1, q2] at hb <;> subst hb <;> clear q1 q2
  all_goals
    refine pcall_body (f := 38) Try.func38 rfl rfl rfl rfl ?_
    (repeat (first | ((with_reducible apply al_q); exact rfl) | (refine al_call1 rfl rfl rfl (by (first | exact C1 | exact C2)) rfl ?_) | ((with_reducible apply al_guard_b (c := true)); exact rfl; exact rfl; (first | assumption | exact decide_eq_true (by omega) | (simp only [Bool.not_eq_true', decide_eq_false_iff_not, decide_eq_true_eq, Bool.not_eq_false']; omega))) | ((with_reducible apply al_guard_b (c := false)); exact rfl; exact rfl; (first | assumption | exact decide_eq_false (by omega) | (simp only [Bool.not_eq_true', decide_eq_false_iff_not, decide_eq_true_eq, Bool.not_eq_false']; omega))) | ((with_reducible apply al_nilS); kernel_rfl) | ((with_reducible apply awp_region_draw); kernel_rfl; kernel_rfl; exact rfl) | ((with_reducible apply awp_seq)) | ((with_reducible apply athen_normal)) | ((with_reducible apply awp_region)) | ((with_reducible apply al_nil)) | ((with_reducible apply awp_ret)) | ((with_reducible apply awp_skip)) | ((with_reducible apply athen_ret))))
    (first | (refine apost_ret rfl (resl_tmp rfl resl_nil) ?_))
    exact AV.Le.refl _
set_option maxRecDepth 100000 in
set_option maxHeartbeats 4000000 in
theorem p_isKind {k : Int} {b : Bool} (hb : kd6 k = b) : PCall Try.prog 39 [vI k] (vB b) := by
  have cs : (k = 0 ∧ b = true) ∨ (¬ k = 0 ∧ k = 1 ∧ b = true) ∨ (¬ k = 0 ∧ ¬ k = 1 ∧ k = 2 ∧ b = true) ∨ (¬ k = 0 ∧ ¬ k = 1 ∧ ¬ k = 2 ∧ b = false) := by
    rw [← hb]; unfold kd6
    by_cases h1 : k = 0
    · exact .inl ⟨h1, by subst h1; rfl⟩
    · by_cases h2 : k = 1
      · exact .inr (.inl ⟨h1, h2, by subst h2; rfl⟩)
      · by_cases h3 : k = 2
        · exact .inr (.inr (.inl ⟨h1, h2, h3, by subst h3; rfl⟩))
        · refine .inr (.inr (.inr ⟨h1, h2, h3, ?_⟩))
          rw [Bool.and_eq_false_iff, decide_eq_false_iff_not, decide_eq_false_iff_not]
          omega
  clear hb
  rcases cs with ⟨h1, rfl⟩ | ⟨h1, h2, rfl⟩ | ⟨h1, h2, h3, rfl⟩ | ⟨h1, h2, h3, rfl⟩
  all_goals
    refine pcall_body (f := 39) Try.func39 rfl rfl rfl rfl ?_
    (repeat (first | ((with_reducible apply al_q); exact rfl) | ((with_reducible apply al_eqP); (iterate 4 exact rfl)) | ((with_reducible apply al_eqB); (iterate 4 exact rfl)) | ((with_reducible apply al_guard_b (c := true)); exact rfl; exact rfl; (first | assumption | exact decide_eq_true (by omega) | (simp only [Bool.not_eq_true', decide_eq_false_iff_not, decide_eq_true_eq, Bool.not_eq_false']; omega))) | ((with_reducible apply al_guard_b (c := false)); exact rfl; exact rfl; (first | assumption | exact decide_eq_false (by omega) | (simp only [Bool.not_eq_true', decide_eq_false_iff_not, decide_eq_true_eq, Bool.not_eq_false']; omega))) | ((with_reducible apply al_bin); (iterate 5 exact rfl); (intro W; go_simp; try rfl); (intro W; go_simp; try rfl); exact rfl; exact rfl) | ((with_reducible apply al_nilS); kernel_rfl) | ((with_reducible apply awp_region_draw); kernel_rfl; kernel_rfl; exact rfl) | ((with_reducible apply awp_seq)) | ((with_reducible apply athen_normal)) | ((with_reducible apply awp_region)) | ((with_reducible apply al_nil)) | ((with_reducible apply awp_ret)) | ((with_reducible apply awp_skip)) | ((with_reducible apply athen_ret))))
    (first | (refine apost_ret rfl (resl_tmp rfl resl_nil) ?_))
    first | exact AV.Le.refl _ | exact AV.Le.of_eq (by rw [decide_eq_true h3]; rfl) | exact AV.Le.of_eq (by rw [decide_eq_false h3]; rfl)
set_option maxRecDepth 100000 in
set_option maxHeartbeats 8000000 in
theorem p_Meets' {a1 a2 b1 b2 l1 l2 h1 h2 k : Int} {o p r : Bool} {n1 d1 m1 e1 n2 d2 m2 e2 n3 d3 m3 e3 n4 d4 m4 e4 : Int} {q1 r1 q2 r2 q3 r3 q4 r4 : Bool} (R1 : PCall Try.prog 37 [vP a1 a2] (vB true)) (R2 : PCall Try.prog 37 [vP b1 b2] (vB true)) (K1 : PCall Try.prog 38 [vP l1 l2] (vB true)) (K2 : PCall Try.prog 38 [vP h1 h2] (vB true)) (K3 : PCall Try.prog 39 [vI k] (vB true))
    (eo : (!decide (k = 2)) = o) (ep : decide (k = 1) = p) (A0 : PCall Try.prog 40 [vP a1 a2, vP b1 b2] (vPart a1 a2 b1 b2 0 1 true 1 1 true))
    (C1 : PCall Try.prog 41 [vBox l1 l2 h1 h2 o p, vPart a1 a2 b1 b2 0 1 true 1 1 true] (vPart a1 a2 b1 b2 n1 d1 q1 m1 e1 r1))
    (C2 : PCall Try.prog 42 [vBox l1 l2 h1 h2 o p, vPart a1 a2 b1 b2 n1 d1 q1 m1 e1 r1] (vPart a1 a2 b1 b2 n2 d2 q2 m2 e2 r2))
    (C3 : PCall Try.prog 43 [vBox l1 l2 h1 h2 o p, vPart a1 a2 b1 b2 n2 d2 q2 m2 e2 r2] (vPart a1 a2 b1 b2 n3 d3 q3 m3 e3 r3))
    (C4 : PCall Try.prog 44 [vBox l1 l2 h1 h2 o p, vPart a1 a2 b1 b2 n3 d3 q3 m3 e3 r3] (vPart a1 a2 b1 b2 n4 d4 q4 m4 e4 r4))
    (H1 : PCall Try.prog 45 [vPart a1 a2 b1 b2 n4 d4 q4 m4 e4 r4] (vB r)) :
    PCall Try.prog 32 [vP a1 a2, vP b1 b2, vP l1 l2, vP h1 h2, vI k] (vB r) := by
  subst eo
  subst ep
  refine pcall_body (f := 32) Try.func32 rfl rfl rfl rfl ?_
  (repeat (first | ((with_reducible apply al_q); exact rfl) | ((with_reducible apply al_loadP1); (iterate 5 exact rfl)) | ((with_reducible apply al_loadPN); (iterate 5 exact rfl)) | ((with_reducible apply al_eqP); (iterate 4 exact rfl)) | ((with_reducible apply al_eqB); (iterate 4 exact rfl)) | ((with_reducible apply al_neqP); (iterate 4 exact rfl)) | ((with_reducible apply al_add); (iterate 3 exact rfl); (first | exact i64_wrap (by omega) | assumption | rfl); exact rfl) | ((with_reducible apply al_mkfn); exact rfl; exact (fun W => rfl); exact rfl) | ((with_reducible apply al_mkfnb); (iterate 4 exact rfl)) | ((with_reducible apply al_indexVN); (iterate 3 exact rfl); (first | decide | omega); (first | decide | omega); (first | assumption | rfl); exact rfl) | ((with_reducible apply al_indexV1); (iterate 3 exact rfl); (first | decide | omega); (first | decide | omega); (first | assumption | rfl); exact rfl) | ((with_reducible apply al_eqT); (iterate 4 exact rfl); kernel_rfl) | ((with_reducible apply al_neT); (iterate 4 exact rfl); kernel_rfl) | (refine al_call1 rfl rfl rfl (by (first | exact R1 | exact R2 | exact K1 | exact K2 | exact K3 | exact A0)) rfl ?_) | (refine al_call2 rfl rfl rfl rfl (by (first | exact R1 | exact R2 | exact K1 | exact K2 | exact K3 | exact A0)) rfl ?_) | (refine al_callb (bs := [_]) (args := [_]) rfl rfl rfl rfl (by (first | exact R1 | exact R2 | exact K1 | exact K2 | exact K3 | exact A0)) rfl ?_) | (refine al_callF (args := [_]) rfl rfl rfl (by (first | exact R1 | exact R2 | exact K1 | exact K2 | exact K3 | exact A0)) rfl ?_) | ((with_reducible apply al_guard_b (c := true)); exact rfl; exact rfl; (first | assumption | exact decide_eq_true (by omega) | (simp only [Bool.not_eq_true', decide_eq_false_iff_not, decide_eq_true_eq, Bool.not_eq_false']; omega))) | ((with_reducible apply al_guard_b (c := false)); exact rfl; exact rfl; (first | assumption | exact decide_eq_false (by omega) | (simp only [Bool.not_eq_true', decide_eq_false_iff_not, decide_eq_true_eq, Bool.not_eq_false']; omega))) | ((with_reducible apply al_bin); (iterate 5 exact rfl); (intro W; go_simp; try rfl); (intro W; go_simp; try rfl); exact rfl; exact rfl) | ((with_reducible apply al_un); exact rfl; exact rfl; (intro W; go_simp; try rfl); exact rfl; exact rfl) | ((with_reducible apply al_nilS); kernel_rfl) | ((with_reducible apply awp_region_draw); kernel_rfl; kernel_rfl; exact rfl) | ((with_reducible apply awp_seq)) | ((with_reducible apply athen_normal)) | ((with_reducible apply awp_region)) | ((with_reducible apply al_nil)) | ((with_reducible apply awp_ret)) | ((with_reducible apply awp_skip)) | ((with_reducible apply athen_ret)) | ((with_reducible apply awp_block)) | ((with_reducible apply ablock_normal)) | ((with_reducible apply ablock_ret)) | ((with_reducible apply ablock_same)) | ((with_reducible apply awp_exit)) | ((with_reducible apply athen_exit)) | ((with_reducible apply roll_succ)) | ((with_reducible apply ablock_ne); exact rfl) | ((with_reducible apply awp_cond_t); exact rfl) | ((with_reducible apply awp_cond_f); exact rfl) | ((with_reducible apply awp_cond_1); exact rfl; (first | assumption | exact decide_eq_true (by omega) | (simp only [Bool.not_eq_true', decide_eq_false_iff_not, decide_eq_true_eq, Bool.not_eq_false']; omega))) | ((with_reducible apply awp_cond_0); exact rfl; (first | assumption | exact decide_eq_false (by omega) | (simp only [Bool.not_eq_true', decide_eq_false_iff_not, decide_eq_true_eq, Bool.not_eq_false']; omega)))))
  refine awp_roll 5 ?_
  (repeat (first | ((with_reducible apply al_q); exact rfl) | ((with_reducible apply al_loadP1); (iterate 5 exact rfl)) | ((with_reducible apply al_loadPN); (iterate 5 exact rfl)) | ((with_reducible apply al_eqP); (iterate 4 exact rfl)) | ((with_reducible apply al_eqB); (iterate 4 exact rfl)) | ((with_reducible apply al_neqP); (iterate 4 exact rfl)) | ((with_reducible apply al_add); (iterate 3 exact rfl); (first | exact i64_wrap (by omega) | assumption | rfl); exact rfl) | ((with_reducible apply al_mkfn); exact rfl; exact (fun W => rfl); exact rfl) | ((with_reducible apply al_mkfnb); (iterate 4 exact rfl)) | ((with_reducible apply al_indexVN); (iterate 3 exact rfl); (first | decide | omega); (first | decide | omega); (first | assumption | rfl); exact rfl) | ((with_reducible apply al_indexV1); (iterate 3 exact rfl); (first | decide | omega); (first | decide | omega); (first | assumption | rfl); exact rfl) | ((with_reducible apply al_eqT); (iterate 4 exact rfl); kernel_rfl) | ((with_reducible apply al_neT); (iterate 4 exact rfl); kernel_rfl) | (refine al_call1 rfl rfl rfl (by (first | exact C1 | exact C2 | exact C3 | exact C4 | exact H1)) rfl ?_) | (refine al_call2 rfl rfl rfl rfl (by (first | exact C1 | exact C2 | exact C3 | exact C4 | exact H1)) rfl ?_) | (refine al_callb (bs := [_]) (args := [_]) rfl rfl rfl rfl (by (first | exact C1 | exact C2 | exact C3 | exact C4 | exact H1)) rfl ?_) | (refine al_callF (args := [_]) rfl rfl rfl (by (first | exact C1 | exact C2 | exact C3 | exact C4 | exact H1)) rfl ?_) | ((with_reducible apply al_guard_b (c := true)); exact rfl; exact rfl; (first | assumption | exact decide_eq_true (by omega) | (simp only [Bool.not_eq_true', decide_eq_false_iff_not, decide_eq_true_eq, Bool.not_eq_false']; omega))) | ((with_reducible apply al_guard_b (c := false)); exact rfl; exact rfl; (first | assumption | exact decide_eq_false (by omega) | (simp only [Bool.not_eq_true', decide_eq_false_iff_not, decide_eq_true_eq, Bool.not_eq_false']; omega))) | ((with_reducible apply al_bin); (iterate 5 exact rfl); (intro W; go_simp; try rfl); (intro W; go_simp; try rfl); exact rfl; exact rfl) | ((with_reducible apply al_un); exact rfl; exact rfl; (intro W; go_simp; try rfl); exact rfl; exact rfl) | ((with_reducible apply al_nilS); kernel_rfl) | ((with_reducible apply awp_region_draw); kernel_rfl; kernel_rfl; exact rfl) | ((with_reducible apply awp_seq)) | ((with_reducible apply athen_normal)) | ((with_reducible apply awp_region)) | ((with_reducible apply al_nil)) | ((with_reducible apply awp_ret)) | ((with_reducible apply awp_skip)) | ((with_reducible apply athen_ret)) | ((with_reducible apply awp_block)) | ((with_reducible apply ablock_normal)) | ((with_reducible apply ablock_ret)) | ((with_reducible apply ablock_same)) | ((with_reducible apply awp_exit)) | ((with_reducible apply athen_exit)) | ((with_reducible apply roll_succ)) | ((with_reducible apply ablock_ne); exact rfl) | ((with_reducible apply awp_cond_t); exact rfl) | ((with_reducible apply awp_cond_f); exact rfl) | ((with_reducible apply awp_cond_1); exact rfl; (first | assumption | exact decide_eq_true (by omega) | (simp only [Bool.not_eq_true', decide_eq_false_iff_not, decide_eq_true_eq, Bool.not_eq_false']; omega))) | ((with_reducible apply awp_cond_0); exact rfl; (first | assumption | exact decide_eq_false (by omega) | (simp only [Bool.not_eq_true', decide_eq_false_iff_not, decide_eq_true_eq, Bool.not_eq_false']; omega)))))
  (first | (refine apost_ret rfl (resl_tmp rfl resl_nil) ?_))
  exact AV.Le.refl _
end Go.Proofs.Ytcplkjnmfdinaaa

namespace Go.Proofs.Ytcplkjnmfdinaaa
open Go.RowKit
set_option linter.unusedVariables false
set_option linter.unusedSimpArgs false
/-- what Meets answers. -/
def cutV (a1 a2 b1 b2 l1 l2 h1 h2 k : Int) : Pa := cut4 (2 * a1 - l1) (2 * b1 - l1) (2 * a2 - l2) (2 * b2 - l2) (h1 - 2 * a1) (h1 - 2 * b1) (h2 - 2 * a2) (h2 - 2 * b2) (!decide (k = 2)) (decide (k = 1))
def meR (a1 a2 b1 b2 l1 l2 h1 h2 k : Int) : Bool := rB5 a1 a2 && rB5 b1 b2 && co6 l1 l2 && co6 h1 h2 && kd6 k
def meB (a1 a2 b1 b2 l1 l2 h1 h2 k : Int) : Bool := meR a1 a2 b1 b2 l1 l2 h1 h2 k && anB (cutV a1 a2 b1 b2 l1 l2 h1 h2 k)
set_option maxRecDepth 100000 in
set_option maxHeartbeats 8000000 in
theorem p_Meets_no {a1 a2 b1 b2 l1 l2 h1 h2 k : Int} {r1 r2 r3 r4 r5 : Bool} (R1 : PCall Try.prog 37 [vP a1 a2] (vB r1)) (R2 : PCall Try.prog 37 [vP b1 b2] (vB r2)) (K1 : PCall Try.prog 38 [vP l1 l2] (vB r3)) (K2 : PCall Try.prog 38 [vP h1 h2] (vB r4)) (K3 : PCall Try.prog 39 [vI k] (vB r5)) (h : (r1 && r2 && r3 && r4 && r5) = false) :
    PCall Try.prog 32 [vP a1 a2, vP b1 b2, vP l1 l2, vP h1 h2, vI k] (vB false) := by
  have cs : r1 = false ∨ (r1 = true ∧ r2 = false) ∨ (r1 = true ∧ r2 = true ∧ r3 = false) ∨ (r1 = true ∧ r2 = true ∧ r3 = true ∧ r4 = false) ∨ (r1 = true ∧ r2 = true ∧ r3 = true ∧ r4 = true ∧ r5 = false) := by
    cases r1 <;> cases r2 <;> cases r3 <;> cases r4 <;> cases r5 <;> simp_all
  clear h
  rcases cs with rfl | ⟨rfl, rfl⟩ | ⟨rfl, rfl, rfl⟩ | ⟨rfl, rfl, rfl, rfl⟩ | ⟨rfl, rfl, rfl, rfl, rfl⟩
  all_goals
    refine pcall_body (f := 32) Try.func32 rfl rfl rfl rfl ?_
    (repeat (first | ((with_reducible apply al_q); exact rfl) | ((with_reducible apply al_loadP1); (iterate 5 exact rfl)) | ((with_reducible apply al_loadPN); (iterate 5 exact rfl)) | ((with_reducible apply al_eqP); (iterate 4 exact rfl)) | ((with_reducible apply al_eqB); (iterate 4 exact rfl)) | ((with_reducible apply al_neqP); (iterate 4 exact rfl)) | ((with_reducible apply al_add); (iterate 3 exact rfl); (first | exact i64_wrap (by omega) | assumption | rfl); exact rfl) | ((with_reducible apply al_mkfn); exact rfl; exact (fun W => rfl); exact rfl) | ((with_reducible apply al_mkfnb); (iterate 4 exact rfl)) | (refine al_call1 rfl rfl rfl (by (first | exact R1 | exact R2 | exact K1 | exact K2 | exact K3)) rfl ?_) | (refine al_call2 rfl rfl rfl rfl (by (first | exact R1 | exact R2 | exact K1 | exact K2 | exact K3)) rfl ?_) | (refine al_callb (bs := [_]) (args := [_]) rfl rfl rfl rfl (by (first | exact R1 | exact R2 | exact K1 | exact K2 | exact K3)) rfl ?_) | (refine al_callF (args := [_]) rfl rfl rfl (by (first | exact R1 | exact R2 | exact K1 | exact K2 | exact K3)) rfl ?_) | ((with_reducible apply al_guard_b (c := true)); exact rfl; exact rfl; (first | assumption | exact decide_eq_true (by omega) | (simp only [Bool.not_eq_true', decide_eq_false_iff_not, decide_eq_true_eq, Bool.not_eq_false']; omega))) | ((with_reducible apply al_guard_b (c := false)); exact rfl; exact rfl; (first | assumption | exact decide_eq_false (by omega) | (simp only [Bool.not_eq_true', decide_eq_false_iff_not, decide_eq_true_eq, Bool.not_eq_false']; omega))) | ((with_reducible apply al_bin); (iterate 5 exact rfl); (intro W; go_simp; try rfl); (intro W; go_simp; try rfl); exact rfl; exact rfl) | ((with_reducible apply al_un); exact rfl; exact rfl; (intro W; go_simp; try rfl); exact rfl; exact rfl) | ((with_reducible apply al_nilS); kernel_rfl) | ((with_reducible apply awp_region_draw); kernel_rfl; kernel_rfl; exact rfl) | ((with_reducible apply awp_seq)) | ((with_reducible apply athen_normal)) | ((with_reducible apply awp_region)) | ((with_reducible apply al_nil)) | ((with_reducible apply awp_ret)) | ((with_reducible apply awp_skip)) | ((with_reducible apply athen_ret)) | ((with_reducible apply awp_block)) | ((with_reducible apply ablock_normal)) | ((with_reducible apply ablock_ret)) | ((with_reducible apply ablock_same)) | ((with_reducible apply awp_exit)) | ((with_reducible apply athen_exit)) | ((with_reducible apply roll_succ)) | ((with_reducible apply ablock_ne); exact rfl) | ((with_reducible apply awp_cond_t); exact rfl) | ((with_reducible apply awp_cond_f); exact rfl) | ((with_reducible apply awp_cond_1); exact rfl; (first | assumption | exact decide_eq_true (by omega) | (simp only [Bool.not_eq_true', decide_eq_false_iff_not, decide_eq_true_eq, Bool.not_eq_false']; omega))) | ((with_reducible apply awp_cond_0); exact rfl; (first | assumption | exact decide_eq_false (by omega) | (simp only [Bool.not_eq_true', decide_eq_false_iff_not, decide_eq_true_eq, Bool.not_eq_false']; omega)))))
    (first | (refine apost_ret rfl (resl_tmp rfl resl_nil) ?_))
    exact AV.Le.refl _
theorem alB_ok : PaOK alB := ⟨⟨by decide, by decide⟩, ⟨by decide, by decide⟩⟩
theorem p_Meets {a1 a2 b1 b2 l1 l2 h1 h2 k : Int} : PCall Try.prog 32 [vP a1 a2, vP b1 b2, vP l1 l2, vP h1 h2, vI k] (vB (meB a1 a2 b1 b2 l1 l2 h1 h2 k)) := by
  unfold meB
  cases hr : meR a1 a2 b1 b2 l1 l2 h1 h2 k with
  | false => exact p_Meets_no (p_cRight rfl) (p_cRight rfl) (p_isCorner rfl) (p_isCorner rfl) (p_isKind rfl) hr
  | true =>
    rw [Bool.true_and]
    unfold meR at hr
    simp only [Bool.and_eq_true] at hr
    obtain ⟨⟨⟨⟨ra, rb⟩, rl⟩, rh⟩, rk⟩ := hr
    have ia := rB5_iff.1 ra
    have ib := rB5_iff.1 rb
    have il := co6_iff.1 rl
    have ih := co6_iff.1 rh
    unfold cutV cut4
    have o1 := kp_ok (u := 2 * a1 - l1) (v := 2 * b1 - l1) (w := !decide (k = 2)) alB_ok (by omega) (by omega)
    have o2 := kp_ok (u := 2 * a2 - l2) (v := 2 * b2 - l2) (w := !decide (k = 2)) o1 (by omega) (by omega)
    have o3 := kp_ok (u := h1 - 2 * a1) (v := h1 - 2 * b1) (w := decide (k = 1)) o2 (by omega) (by omega)
    have o4 := kp_ok (u := h2 - 2 * a2) (v := h2 - 2 * b2) (w := decide (k = 1)) o3 (by omega) (by omega)
    exact p_Meets' (p_cRight ra) (p_cRight rb) (p_isCorner rl) (p_isCorner rh) (p_isKind rk) rfl rfl p_allOf (p_cutLeft ia.1 ib.1 il.1 (p_keep alB_ok (by omega) (by omega))) (p_cutBelow ia.2 ib.2 il.2 (p_keep o1 (by omega) (by omega))) (p_cutRight ia.1 ib.1 ih.1 (p_keep o2 (by omega) (by omega))) (p_cutAbove ia.2 ib.2 ih.2 (p_keep o3 (by omega) (by omega))) (p_hasAny o4)
set_option maxRecDepth 100000 in
set_option maxHeartbeats 8000000 in
theorem p_Hits_no {a1 a2 b1 b2 x y k : Int} {r1 r2 : Bool} (G1 : PCall Try.prog 29 [vI k] (vB r1)) (G2 : PCall Try.prog 30 [vP x y, vI k] (vB r2)) (h : (r1 && r2) = false) : PCall Try.prog 22 [vP a1 a2, vP b1 b2, vP x y, vI k] (vB false) := by
  have cs : r1 = false ∨ (r1 = true ∧ r2 = false) := by cases r1 <;> cases r2 <;> simp_all
  clear h
  rcases cs with rfl | ⟨rfl, rfl⟩
  all_goals
    refine pcall_body (f := 22) Try.func22 rfl rfl rfl rfl ?_
    (repeat (first | ((with_reducible apply al_q); exact rfl) | (refine al_call1 rfl rfl rfl (by (first | exact G1 | exact G2)) rfl ?_) | (refine al_call2 rfl rfl rfl rfl (by (first | exact G1 | exact G2)) rfl ?_) | (refine al_call5 rfl rfl rfl rfl rfl rfl rfl (by (first | exact G1 | exact G2)) rfl ?_) | ((with_reducible apply al_guard_b (c := true)); exact rfl; exact rfl; (first | assumption | exact decide_eq_true (by omega) | (simp only [Bool.not_eq_true', decide_eq_false_iff_not, decide_eq_true_eq, Bool.not_eq_false']; omega))) | ((with_reducible apply al_guard_b (c := false)); exact rfl; exact rfl; (first | assumption | exact decide_eq_false (by omega) | (simp only [Bool.not_eq_true', decide_eq_false_iff_not, decide_eq_true_eq, Bool.not_eq_false']; omega))) | ((with_reducible apply al_un); exact rfl; exact rfl; (intro W; go_simp; try rfl); exact rfl; exact rfl) | ((with_reducible apply al_nilS); kernel_rfl) | ((with_reducible apply awp_region_draw); kernel_rfl; kernel_rfl; exact rfl) | ((with_reducible apply awp_seq)) | ((with_reducible apply athen_normal)) | ((with_reducible apply awp_region)) | ((with_reducible apply al_nil)) | ((with_reducible apply awp_ret)) | ((with_reducible apply awp_skip)) | ((with_reducible apply athen_ret)) | ((with_reducible apply awp_cond_t); exact rfl) | ((with_reducible apply awp_cond_f); exact rfl) | ((with_reducible apply awp_cond_1); exact rfl; (first | assumption | exact decide_eq_true (by omega) | (simp only [Bool.not_eq_true', decide_eq_false_iff_not, decide_eq_true_eq, Bool.not_eq_false']; omega))) | ((with_reducible apply awp_cond_0); exact rfl; (first | assumption | exact decide_eq_false (by omega) | (simp only [Bool.not_eq_true', decide_eq_false_iff_not, decide_eq_true_eq, Bool.not_eq_false']; omega)))))
    (first | (refine apost_ret rfl (resl_tmp rfl resl_nil) ?_))
    exact AV.Le.refl _
set_option maxRecDepth 100000 in
set_option maxHeartbeats 8000000 in
theorem p_Hits_yes {a1 a2 b1 b2 x y k l1 l2 h1 h2 : Int} {r : Bool} (G1 : PCall Try.prog 29 [vI k] (vB true)) (G2 : PCall Try.prog 30 [vP x y, vI k] (vB true)) (G3 : PCall Try.prog 31 [vP x y, vI k] (.tup [.agg [.c (.int .i64 l1), .c (.int .i64 l2)], .agg [.c (.int .i64 h1), .c (.int .i64 h2)]])) (M : PCall Try.prog 32 [vP a1 a2, vP b1 b2, vP l1 l2, vP h1 h2, vI 0] (vB r)) : PCall Try.prog 22 [vP a1 a2, vP b1 b2, vP x y, vI k] (vB r) := by
  refine pcall_body (f := 22) Try.func22 rfl rfl rfl rfl ?_
  (repeat (first | ((with_reducible apply al_q); exact rfl) | (refine al_call1 rfl rfl rfl (by (first | exact G1 | exact G2 | exact G3 | exact M)) rfl ?_) | (refine al_call2 rfl rfl rfl rfl (by (first | exact G1 | exact G2 | exact G3 | exact M)) rfl ?_) | (refine al_call5 rfl rfl rfl rfl rfl rfl rfl (by (first | exact G1 | exact G2 | exact G3 | exact M)) rfl ?_) | ((with_reducible apply al_guard_b (c := true)); exact rfl; exact rfl; (first | assumption | exact decide_eq_true (by omega) | (simp only [Bool.not_eq_true', decide_eq_false_iff_not, decide_eq_true_eq, Bool.not_eq_false']; omega))) | ((with_reducible apply al_guard_b (c := false)); exact rfl; exact rfl; (first | assumption | exact decide_eq_false (by omega) | (simp only [Bool.not_eq_true', decide_eq_false_iff_not, decide_eq_true_eq, Bool.not_eq_false']; omega))) | ((with_reducible apply al_un); exact rfl; exact rfl; (intro W; go_simp; try rfl); exact rfl; exact rfl) | ((with_reducible apply al_nilS); kernel_rfl) | ((with_reducible apply awp_region_draw); kernel_rfl; kernel_rfl; exact rfl) | ((with_reducible apply awp_seq)) | ((with_reducible apply athen_normal)) | ((with_reducible apply awp_region)) | ((with_reducible apply al_nil)) | ((with_reducible apply awp_ret)) | ((with_reducible apply awp_skip)) | ((with_reducible apply athen_ret)) | ((with_reducible apply awp_cond_t); exact rfl) | ((with_reducible apply awp_cond_f); exact rfl) | ((with_reducible apply awp_cond_1); exact rfl; (first | assumption | exact decide_eq_true (by omega) | (simp only [Bool.not_eq_true', decide_eq_false_iff_not, decide_eq_true_eq, Bool.not_eq_false']; omega))) | ((with_reducible apply awp_cond_0); exact rfl; (first | assumption | exact decide_eq_false (by omega) | (simp only [Bool.not_eq_true', decide_eq_false_iff_not, decide_eq_true_eq, Bool.not_eq_false']; omega)))))
  (first | (refine apost_ret rfl (resl_tmp rfl resl_nil) ?_))
  exact AV.Le.refl _
/-- what Hits answers. -/
def hiB (a1 a2 b1 b2 x y k : Int) : Bool := decide (0 ≤ k) && decide (k ≤ 28) && inB k.toNat x y && meB a1 a2 b1 b2 (2 * (2 ^ k.toNat * x) - 2 ^ k.toNat) (2 * (2 ^ k.toNat * y) - 2 ^ k.toNat) (2 * (2 ^ k.toNat * x) + 2 ^ k.toNat) (2 * (2 ^ k.toNat * y) + 2 ^ k.toNat) 0
theorem isR_toNat {k : Int} (h : (decide (0 ≤ k) && decide (k ≤ 28)) = true) : IsR k k.toNat := by
  simp only [Bool.and_eq_true, decide_eq_true_eq] at h
  unfold IsR
  omega
theorem p_Hits {a1 a2 b1 b2 x y k : Int} : PCall Try.prog 22 [vP a1 a2, vP b1 b2, vP x y, vI k] (vB (hiB a1 a2 b1 b2 x y k)) := by
  unfold hiB
  have G1 := p_gRight (k := k)
  cases hk : (decide (0 ≤ k) && decide (k ≤ 28)) with
  | false =>
    rw [hk] at G1
    obtain ⟨r, hr⟩ := isR_ex k
    exact p_Hits_no G1 (p_In hr rfl) rfl
  | true =>
    rw [hk] at G1
    have hr := isR_toNat hk
    cases hi : inB k.toNat x y with
    | false => exact p_Hits_no G1 (p_In hr hi) rfl
    | true => exact p_Hits_yes G1 (p_In hr hi) (p_Sides hr hi) p_Meets
/-- what Near answers. -/
def neB (a1 a2 b1 b2 p1 p2 f : Int) : Bool := rB5 p1 p2 && !decide (f < 0) && !decide (268435456 < f) && meB a1 a2 b1 b2 (2 * p1 - f) (2 * p2 - f) (2 * p1 + f) (2 * p2 + f) 1
end Go.Proofs.Ytcplkjnmfdinaaa

namespace Go.Proofs.Ytcplkjnmfdinaaa
set_option linter.unusedVariables false
def MetB (a1 a2 b1 b2 l1 l2 h1 h2 k : Int) : Prop := Met (2 * a1 - l1) (2 * b1 - l1) (2 * a2 - l2) (2 * b2 - l2) (h1 - 2 * a1) (h1 - 2 * b1) (h2 - 2 * a2) (h2 - 2 * b2) (!decide (k = 2)) (decide (k = 1))
theorem meB_iff {a1 a2 b1 b2 l1 l2 h1 h2 k : Int} : meB a1 a2 b1 b2 l1 l2 h1 h2 k = true ↔ meR a1 a2 b1 b2 l1 l2 h1 h2 k = true ∧ MetB a1 a2 b1 b2 l1 l2 h1 h2 k := by
  unfold meB cutV MetB
  rw [Bool.and_eq_true, cut4_any]
end Go.Proofs.Ytcplkjnmfdinaaa

namespace Go.Proofs.Ytcplkjnmfdinaaa
open Go.ChangeShapes Go.WideShapes Go.ChangeAt Go.RowKit Go.Joins
set_option linter.unusedVariables false
set_option linter.unusedSimpArgs false
theorem own3 : ownKnob Try.prog.godebug = none := by kernel_rfl
/-- a type of plain values. -/
def flatB (P : Program) : Nat → TypeId → Bool
  | 0, _ => false
  | d + 1, t => match P.underlying t with
    | some .bool | some (.int _) | some .string => true
    | some (.struct fs) => fs.toList.all fun f => flatB P d f.type
    | some (.array _ e) => flatB P d e
    | _ => false
theorem mapM_flat {α β : Type} {f g : α → Option (β × List MemPlace)} : ∀ (l : List α) (xs : List (β × List MemPlace)), l.mapM f = some xs → (∀ a ∈ l, ∀ x, f a = some x → x.2 = [] ∧ g a = some (x.1, [])) → xs.flatMap (·.2) = [] ∧ l.mapM g = some xs
  | [], xs, h, _ => by cases h; exact ⟨rfl, rfl⟩
  | a :: l, xs, h, hk => by
    rw [List.mapM_cons] at h
    cases ha : f a with
    | none => rw [ha] at h; cases h
    | some b =>
      rw [ha] at h
      cases hl : l.mapM f with
      | none => rw [hl] at h; cases h
      | some bs =>
        rw [hl] at h
        cases h
        obtain ⟨h1, h2⟩ := hk a (by simp) b ha
        obtain ⟨h3, h4⟩ := mapM_flat l bs hl fun a' ha' => hk a' (by simp [ha'])
        refine ⟨by simp [h1]; intro a' b' hab; have := List.flatMap_eq_nil_iff.1 h3 _ hab; exact this, ?_⟩
        rw [List.mapM_cons, h2, h4]
        obtain ⟨b1, b2⟩ := b
        simp only at h1
        subst h1
        rfl
section
variable {H : Type} {enc : TypeId × Value → H} {P : Program}
theorem flat_trod : ∀ (d : Nat) (t : TypeId), flatB P d t = true → ∀ (fuel : Nat) (w : World) (base : Nat) (sp : Nat → Bool) (held : Bool) (cs : List Value) (x : DataW H × List MemPlace), DataW.trod enc P w base sp held fuel t cs = some x →
    x.2 = [] ∧ ∀ (w' : World) (base' : Nat) (sp' : Nat → Bool) (held' : Bool), DataW.trod enc P w' base' sp' held' fuel t cs = some (x.1, [])
  | 0, _, h, _, _, _, _, _, _, _, _ => by cases h
  | d + 1, t, hf, 0, _, _, _, _, _, _, h => by simp [DataW.trod] at h
  | d + 1, t, hf, fuel + 1, w, base, sp, held, cs, x, h => by
    have ih := fun t' (ht' : flatB P d t' = true) => flat_trod d t' ht' fuel
    rw [DataW.trod_step] at h
    simp only [DataW.trod_step]
    unfold flatB at hf
    unfold DataW.trodStep at h ⊢
    cases hu : P.underlying t with
    | none => rw [hu] at hf; cases hf
    | some D =>
      rw [hu] at hf h
      cases D with
      | bool =>
        match cs, h with
        | [.bool b], h => cases h; exact ⟨rfl, fun _ _ _ _ => rfl⟩
      | int k =>
        match cs, h with
        | [.int k' n], h =>
          simp only at h ⊢
          split at h
          · rename_i hc; cases h; exact ⟨rfl, fun _ _ _ _ => by rw [if_pos hc]⟩
          · cases h
      | string =>
        match cs, h with
        | [.string s], h =>
          simp only at h ⊢
          split at h
          · rename_i hc; cases h; exact ⟨rfl, fun _ _ _ _ => by rw [if_pos hc]⟩
          · cases h
      | struct fs =>
        simp only at h ⊢ hf
        split at h
        · rename_i hc
          simp only [Option.map_eq_some_iff] at h
          obtain ⟨xs, hx, rfl⟩ := h
          have hall := List.all_eq_true.1 hf
          refine ⟨?_, fun w' base' sp' held' => ?_⟩
          · exact (mapM_flat (g := fun f => DataW.trod enc P w base sp held fuel f.type ((cs.drop f.offset).take (P.cellsOf f.type))) _ _ hx fun f hf' y hy => ⟨(ih f.type (hall f hf') w base sp held _ y hy).1, (ih f.type (hall f hf') w base sp held _ y hy).2 w base sp held⟩).1
          · have := mapM_flat (g := fun f => DataW.trod enc P w' base' sp' held' fuel f.type ((cs.drop f.offset).take (P.cellsOf f.type))) _ _ hx fun f hf' y hy => ⟨(ih f.type (hall f hf') w base sp held _ y hy).1, (ih f.type (hall f hf') w base sp held _ y hy).2 w' base' sp' held'⟩
            rw [if_pos hc, this.2]
            simp only [Option.map_some, this.1]
        · cases h
      | array n e =>
        simp only at h ⊢ hf
        split at h
        · rename_i hc
          simp only [Option.map_eq_some_iff] at h
          obtain ⟨xs, hx, rfl⟩ := h
          refine ⟨?_, fun w' base' sp' held' => ?_⟩
          · exact (mapM_flat (g := fun i => DataW.trod enc P w base sp held fuel e ((cs.drop (i * P.cellsOf e)).take (P.cellsOf e))) _ _ hx fun f _ y hy => ⟨(ih e hf w base sp held _ y hy).1, (ih e hf w base sp held _ y hy).2 w base sp held⟩).1
          · have := mapM_flat (g := fun i => DataW.trod enc P w' base' sp' held' fuel e ((cs.drop (i * P.cellsOf e)).take (P.cellsOf e))) _ _ hx fun f _ y hy => ⟨(ih e hf w base sp held _ y hy).1, (ih e hf w base sp held _ y hy).2 w' base' sp' held'⟩
            rw [if_pos hc, this.2]
            simp only [Option.map_some, this.1]
        · cases h
      | _ => cases hf
theorem flat_arg {d : Nat} {t : TypeId} (hf : flatB P d t = true) {w : World} {base : Nat} {sp : Nat → Bool} {held : Bool} {v : Value} {D : DataW H} {p : List MemPlace} (h : DataW.Trod enc P w base sp held t v D p) :
    p = [] ∧ ∀ (w' : World) (base' : Nat) (sp' : Nat → Bool) (held' : Bool), DataW.Trod enc P w' base' sp' held' t v D [] := by
  obtain ⟨fuel, h⟩ := h
  obtain ⟨h1, h2⟩ := flat_trod d t hf fuel w base sp held _ _ h
  exact ⟨h1, fun w' base' sp' held' => ⟨fuel, h2 w' base' sp' held'⟩⟩
end
section
variable {P : Program} {W : World} {r : Reach} {b : Nat} {t : TypeId} {v : Value}
theorem okw_int {k : IntKind} (hu : P.underlying t = some (.int k)) (h : Cell.okWide P W r b t v) : ∃ n, v = .int k n ∧ k.min ≤ n ∧ n ≤ k.max := by
  unfold Cell.okWide Cell.ok at h
  rw [hu] at h
  cases v <;> simp only at h
  rename_i k' n
  obtain ⟨rfl, h⟩ := h
  exact ⟨n, rfl, by simpa [IntKind.has] using h⟩
theorem okw_one {D : TypeDesc} (hu : P.underlying t = some D) (hs : ∀ fs, D ≠ .struct fs) (ha : ∀ n e, D ≠ .array n e) (h : Value.okWide P W r b t v) : Cell.okWide P W r b t v := by
  unfold Value.okWide at h
  rw [hu] at h
  cases D <;> first | exact h | exact absurd rfl (hs _) | exact absurd rfl (ha _ _)
def aggB (P : Program) (t : TypeId) (n : Nat) (ts : List TypeId) : Bool :=
  (match P.underlying t with | some (.struct _) | some (.array _ _) => true | _ => false) && (P.cellsOf t == n) && (P.cellTypes P.depth t == some ts) && (ts.length == n) && (0 < n)
theorem okw_agg {n : Nat} {ts : List TypeId} (hB : aggB P t n ts = true) (h : Value.okWide P W r b t v) : ∃ cs : List Value, v = .agg cs.toArray ∧ cs.length = n ∧ ∀ (i : Nat) (u : TypeId) (c : Value), ts[i]? = some u → cs[i]? = some c → Cell.okWide P W r b u c := by
  unfold aggB at hB
  simp only [Bool.and_eq_true, beq_iff_eq, decide_eq_true_eq] at hB
  obtain ⟨⟨⟨⟨h1, h2⟩, h3⟩, h4⟩, h5⟩ := hB
  have key : ∃ cs : Array Value, v = .agg cs ∧ cs.size = P.cellsOf t ∧ Row.okWide P W r b t cs := by
    unfold Value.okWide at h
    split at h
    · exact h
    · exact h
    · exfalso
      split at h1
      · rename_i hu; rename_i h6 _ _ ; exact absurd hu (by simp_all)
      · simp_all
      · cases h1
  obtain ⟨cs, rfl, hs, ts', e1, _, hc⟩ := key
  rw [h3] at e1
  cases e1
  refine ⟨cs.toList, by simp, by simp [hs, h2], fun i u c hu hc' => ?_⟩
  have hlt : i < ts.length := (List.getElem?_eq_some_iff.1 hu).1
  obtain ⟨u', q1, q2⟩ := hc i c (by simpa using hc')
  rw [Nat.mod_eq_of_lt hlt, hu] at q1
  cases q1
  exact q2
end
theorem list4 {α : Type} {cs : List α} (h : cs.length = 4) : ∃ a b c d, cs = [a, b, c, d] := by match cs, h with | [a, b, c, d], _ => exact ⟨a, b, c, d, rfl⟩
end Go.Proofs.Ytcplkjnmfdinaaa

namespace Go.Proofs.Ytcplkjnmfdinaaa
open Go.RowKit
set_option linter.unusedVariables false
set_option linter.unusedSimpArgs false
/-- two points; a box. -/
abbrev v2 (a1 a2 b1 b2 : Int) : AV := .w (.agg [.c (.int .i64 a1), .c (.int .i64 a2), .c (.int .i64 b1), .c (.int .i64 b2)])
end Go.Proofs.Ytcplkjnmfdinaaa

namespace Go.Proofs.Ytcplkjnmfdinaaa
open Go.RowKit
set_option linter.unusedVariables false
set_option linter.unusedSimpArgs false
/-- what holds ahead of each round of Size's loop. -/
def SzI (k : Int) (r : Nat) (m : Nat) (ts : List (Nat × AV)) (ms : List (Nat × List AC)) : Prop :=
  ∃ (i : Nat) (v j : Int), i ≤ r ∧ m = r - i ∧ v = 2 ^ i ∧ j = i ∧ ms = [] ∧ ts = [(0, vI k), (3, vI v), (4, vI j)]
end Go.Proofs.Ytcplkjnmfdinaaa

namespace Go.Proofs.Ytcplkjnmfdinaaa
open Go.RowKit
set_option linter.unusedVariables false
set_option linter.unusedSimpArgs false
set_option maxRecDepth 100000 in
set_option maxHeartbeats 4000000 in
theorem p_r5Right {x y : Int} {b : Bool} (hb : rB5 x y = b) : PCall Try.prog 21 [vP x y] (vB b) := by
  have cs : (x ≤ 134217728 ∧ y ≤ 134217728 ∧ -134217728 ≤ x ∧ -134217728 ≤ y ∧ b = true) ∨ (x ≤ 134217728 ∧ y ≤ 134217728 ∧ -134217728 ≤ x ∧ ¬ -134217728 ≤ y ∧ b = false) ∨ (x ≤ 134217728 ∧ y ≤ 134217728 ∧ ¬ -134217728 ≤ x ∧ b = false) ∨ (x ≤ 134217728 ∧ ¬ y ≤ 134217728 ∧ b = false) ∨ (¬ x ≤ 134217728 ∧ b = false) := by
    rw [← hb]; unfold rB5
    by_cases q1 : x ≤ 134217728 <;> by_cases q2 : y ≤ 134217728 <;> by_cases q3 : -134217728 ≤ x <;> by_cases q4 : -134217728 ≤ y <;> simp [q1, q2, q3, q4]
  clear hb
  rcases cs with ⟨q1, q2, q3, q4, rfl⟩ | ⟨q1, q2, q3, q4, rfl⟩ | ⟨q1, q2, q3, rfl⟩ | ⟨q1, q2, rfl⟩ | ⟨q1, rfl⟩
  all_goals
    refine pcall_body (f := 21) Try.func21 rfl rfl rfl rfl ?_
    (repeat (first | ((with_reducible apply al_q); exact rfl) | ((with_reducible apply al_guard_b (c := true)); exact rfl; exact rfl; (first | assumption | exact decide_eq_true (by omega) | (simp only [Bool.not_eq_true', decide_eq_false_iff_not, decide_eq_true_eq, Bool.not_eq_false']; omega))) | ((with_reducible apply al_guard_b (c := false)); exact rfl; exact rfl; (first | assumption | exact decide_eq_false (by omega) | (simp only [Bool.not_eq_true', decide_eq_false_iff_not, decide_eq_true_eq, Bool.not_eq_false']; omega))) | ((with_reducible apply al_bin); (iterate 5 exact rfl); (intro W; go_simp; try rfl); (intro W; go_simp; try rfl); exact rfl; exact rfl) | ((with_reducible apply al_nilS); kernel_rfl) | ((with_reducible apply awp_region_draw); kernel_rfl; kernel_rfl; exact rfl) | ((with_reducible apply awp_seq)) | ((with_reducible apply athen_normal)) | ((with_reducible apply awp_region)) | ((with_reducible apply al_nil)) | ((with_reducible apply awp_ret)) | ((with_reducible apply awp_skip)) | ((with_reducible apply athen_ret))))
    (first | (refine apost_ret rfl (resl_tmp rfl resl_nil) ?_))
    first | exact AV.Le.refl _ | exact AV.Le.of_eq (by rw [decide_eq_true q4]; rfl) | exact AV.Le.of_eq (by rw [decide_eq_false q4]; rfl)
theorem NB.i64 {n : Int} (h0 : -9223372036854775808 ≤ n) (h1 : n < 9223372036854775808) : NB 5 n := by unfold NB; omega
end Go.Proofs.Ytcplkjnmfdinaaa

namespace Go.Proofs.Ytcplkjnmfdinaaa
open Go.RowKit
set_option linter.unusedVariables false
set_option linter.unusedSimpArgs false
abbrev v3 (k x y : Int) : AV := .w (.agg [.c (.int .i64 k), .c (.int .i64 x), .c (.int .i64 y)])
end Go.Proofs.Ytcplkjnmfdinaaa

namespace Go.Proofs.Ytcplkjnmfdinaaa
open Go.RowKit
set_option linter.unusedVariables false
set_option linter.unusedSimpArgs false
instance : IPart Try.prog 45 2 true 2 := ⟨by kernel_rfl⟩
def MvI (a1 a2 b1 b2 q1 q2 k x y S X Y : Int) (r1 r2 r3 r4 : Bool) (m : Nat) (ts : List (Nat × AV)) (ms : List (Nat × List AC)) : Prop :=
  ∃ (i : Int) (t1 t2 t3 t4 : Int), ((m = 2 ∧ i = 0 ∧ t1 = 0 ∧ t2 = 0 ∧ t3 = 0 ∧ t4 = 0) ∨ (m = 1 ∧ i = 1 ∧ t1 = a1 + X ∧ t2 = a2 + Y ∧ t3 = 0 ∧ t4 = 0 ∧ r1 = true ∧ r2 = true) ∨ (m = 0 ∧ i = 2 ∧ t1 = a1 + X ∧ t2 = a2 + Y ∧ t3 = b1 + X ∧ t4 = b2 + Y ∧ r1 = true ∧ r2 = true ∧ r3 = true ∧ r4 = true))
    ∧ ts = [(3, vO 3 0), (4, vO 4 0), (7, vI k), (8, vI x), (9, vI y), (10, vI S), (11, vO 11 0), (50, v2 a1 a2 b1 b2), (51, vI i)]
    ∧ ms = [(3, [.c (.int .i64 a1), .c (.int .i64 a2), .c (.int .i64 b1), .c (.int .i64 b2)]), (4, [.c (.int .i64 q1), .c (.int .i64 q2)]), (11, [.c (.int .i64 t1), .c (.int .i64 t2), .c (.int .i64 t3), .c (.int .i64 t4)])]
end Go.Proofs.Ytcplkjnmfdinaaa

namespace Go.Proofs.Ytcplkjnmfdinaaa
open Go.RowKit
set_option linter.unusedVariables false
set_option linter.unusedSimpArgs false
theorem hiB_iff {a1 a2 b1 b2 q1 q2 : Int} {r : Nat} (hr : r ≤ 28) : hiB a1 a2 b1 b2 q1 q2 r = true ↔ inB r q1 q2 = true ∧ meB a1 a2 b1 b2 (2 * (2 ^ r * q1) - 2 ^ r) (2 * (2 ^ r * q2) - 2 ^ r) (2 * (2 ^ r * q1) + 2 ^ r) (2 * (2 ^ r * q2) + 2 ^ r) 0 = true := by
  unfold hiB
  have g1 : decide ((0 : Int) ≤ (r : Int)) = true := decide_eq_true (by omega)
  have g2 : decide ((r : Int) ≤ 28) = true := decide_eq_true (by omega)
  rw [g1, g2, Int.toNat_natCast, Bool.and_self, Bool.true_and, Bool.and_eq_true]
end Go.Proofs.Ytcplkjnmfdinaaa

namespace Go.Proofs.Ytcplkjnmfdinaaa
open Go.RowKit
set_option linter.unusedVariables false
set_option linter.unusedSimpArgs false
theorem hiB_at {a1 a2 b1 b2 q1 q2 : Int} {r : Nat} (hr : r ≤ 28) (h : hiB a1 a2 b1 b2 q1 q2 r = true) : ∃ n d, 0 < d ∧ At (2 ^ r) a1 b1 q1 n d ∧ At (2 ^ r) a2 b2 q2 n d := by
  obtain ⟨n, d, hd, _, g1, g2, g3, g4⟩ := (meB_iff.1 ((hiB_iff hr).1 h).2).2
  refine ⟨n, d, hd, ⟨?_, ?_⟩, ⟨?_, ?_⟩⟩
  · have e : (2 * a1 - (2 * (2 ^ r * q1) - 2 ^ r)) * (d - n) + (2 * b1 - (2 * (2 ^ r * q1) - 2 ^ r)) * n = 2 * (a1 * (d - n) + b1 * n) - (2 * (2 ^ r * q1) - 2 ^ r) * d := by grind
    unfold Hol at g1
    rw [e] at g1
    rcases g1 with h | h <;> omega
  · have e : (2 * (2 ^ r * q1) + 2 ^ r - 2 * a1) * (d - n) + (2 * (2 ^ r * q1) + 2 ^ r - 2 * b1) * n = (2 * (2 ^ r * q1) + 2 ^ r) * d - 2 * (a1 * (d - n) + b1 * n) := by grind
    unfold Hol at g3
    rw [e] at g3
    rcases g3 with h | ⟨h, _⟩
    · omega
    · simp at h
  · have e : (2 * a2 - (2 * (2 ^ r * q2) - 2 ^ r)) * (d - n) + (2 * b2 - (2 * (2 ^ r * q2) - 2 ^ r)) * n = 2 * (a2 * (d - n) + b2 * n) - (2 * (2 ^ r * q2) - 2 ^ r) * d := by grind
    unfold Hol at g2
    rw [e] at g2
    rcases g2 with h | h <;> omega
  · have e : (2 * (2 ^ r * q2) + 2 ^ r - 2 * a2) * (d - n) + (2 * (2 ^ r * q2) + 2 ^ r - 2 * b2) * n = (2 * (2 ^ r * q2) + 2 ^ r) * d - 2 * (a2 * (d - n) + b2 * n) := by grind
    unfold Hol at g4
    rw [e] at g4
    rcases g4 with h | ⟨h, _⟩
    · omega
    · simp at h
theorem met_ahead {a1 a2 b1 b2 x y z w : Int} {r : Nat} (hr : r ≤ 28) (h1 : hiB a1 a2 b1 b2 x y r = true) (h2 : hiB a1 a2 b1 b2 z w r = true) (ha : ahdN x y z w (decide (b1 < a1)) (decide (b2 < a2)) = true) : (b1 < a1 → z ≤ x) ∧ (¬ b1 < a1 → x ≤ z) ∧ (b2 < a2 → w ≤ y) ∧ (¬ b2 < a2 → y ≤ w) := by
  obtain ⟨n1, d1, p1, A1, A2⟩ := hiB_at hr h1
  obtain ⟨n2, d2, p2, B1, B2⟩ := hiB_at hr h2
  have hP : (0 : Int) < 2 ^ r := by have := pow28 hr; omega
  unfold ahdN at ha
  by_cases c1 : x < z
  · rw [if_pos c1] at ha
    have f1 : ¬ b1 < a1 := by simpa using ha
    have := way_two hP p1 p2 A1 A2 B1 B2 (.inl ⟨c1, by omega⟩)
    exact ⟨fun h => absurd h f1, fun _ => by omega, fun h => this.2 h, fun h => this.1 (by omega)⟩
  · rw [if_neg c1] at ha
    by_cases c2 : z < x
    · rw [if_pos c2] at ha
      have f1 : b1 < a1 := by simpa using ha
      have := way_two hP p1 p2 A1 A2 B1 B2 (.inr ⟨c2, f1⟩)
      exact ⟨fun _ => by omega, fun h => absurd f1 h, fun h => this.2 h, fun h => this.1 (by omega)⟩
    · rw [if_neg c2] at ha
      by_cases c3 : y < w
      · rw [if_pos c3] at ha
        have f2 : ¬ b2 < a2 := by simpa using ha
        exact ⟨fun _ => by omega, fun _ => by omega, fun h => absurd h f2, fun _ => by omega⟩
      · rw [if_neg c3] at ha
        have f2 : w < y ∧ b2 < a2 := by simpa using ha
        exact ⟨fun _ => by omega, fun _ => by omega, fun _ => by omega, fun h => absurd f2.2 h⟩
set_option maxRecDepth 100000 in
set_option maxHeartbeats 8000000 in
theorem met_no {a1 a2 b1 b2 x y z w k r : Int} {r1 r2 r3 r4 : Bool} (hal : PCall Try.prog 9 [] (vB true)) (G1 : PCall Try.prog 20 [vI k] (vI r)) (R1 : PCall Try.prog 21 [vP a1 a2] (vB r1)) (R2 : PCall Try.prog 21 [vP b1 b2] (vB r2))
    (H1 : PCall Try.prog 22 [vP a1 a2, vP b1 b2, vP x y, vI k] (vB r3)) (H2 : PCall Try.prog 22 [vP a1 a2, vP b1 b2, vP z w, vI k] (vB r4))
    (cs : ¬ k = r ∨ (k = r ∧ r1 = false) ∨ (k = r ∧ r1 = true ∧ r2 = false) ∨ (k = r ∧ r1 = true ∧ r2 = true ∧ r3 = false) ∨ (k = r ∧ r1 = true ∧ r2 = true ∧ r3 = true ∧ r4 = false)) :
    PCall Try.prog 7 [.w (.agg [.c (.int .i64 a1), .c (.int .i64 a2), .c (.int .i64 b1), .c (.int .i64 b2)]), .w (.agg [.c (.int .i64 x), .c (.int .i64 y), .c (.int .i64 z), .c (.int .i64 w)]), vI k] (vB true) := by
  rcases cs with h | ⟨h, rfl⟩ | ⟨h, rfl, rfl⟩ | ⟨h, rfl, rfl, rfl⟩ | ⟨h, rfl, rfl, rfl, rfl⟩
  all_goals
    refine pcall_body (f := 7) Try.func7 rfl rfl rfl rfl ?_
    (repeat (first | ((with_reducible apply al_q); exact rfl) | ((with_reducible apply al_loadP1); (iterate 5 exact rfl)) | ((with_reducible apply al_loadPN); (iterate 5 exact rfl)) | ((with_reducible apply al_fldP); (iterate 3 exact rfl)) | ((with_reducible apply al_idxS); (iterate 3 exact rfl); (first | decide | omega); (first | decide | omega); (first | assumption | rfl); exact rfl) | ((with_reducible apply al_idx); (iterate 3 exact rfl); omega; omega; exact rfl) | ((with_reducible apply al_eqP); (iterate 4 exact rfl)) | ((with_reducible apply al_eqB); (iterate 4 exact rfl)) | ((with_reducible apply al_neqP); (iterate 4 exact rfl)) | ((with_reducible apply al_sub); (iterate 3 exact rfl); (first | exact i64_wrap (by omega) | assumption | rfl); exact rfl) | ((with_reducible apply al_neg); exact rfl; exact rfl; (first | exact i64_wrap (by omega) | assumption | rfl); exact rfl) | ((with_reducible apply al_eqT); (iterate 4 exact rfl); kernel_rfl) | ((with_reducible apply al_neT); (iterate 4 exact rfl); kernel_rfl) | (refine al_call0 rfl rfl (by (first | exact hal | exact G1 | exact R1 | exact R2 | exact H1 | exact H2)) rfl ?_) | (refine al_call1 rfl rfl rfl (by (first | exact hal | exact G1 | exact R1 | exact R2 | exact H1 | exact H2)) rfl ?_) | (refine al_call2 rfl rfl rfl rfl (by (first | exact hal | exact G1 | exact R1 | exact R2 | exact H1 | exact H2)) rfl ?_) | (refine al_call4 rfl rfl rfl rfl rfl rfl (by (first | exact hal | exact G1 | exact R1 | exact R2 | exact H1 | exact H2)) rfl ?_) | (refine al_callb (bs := [_]) (args := [_, _]) rfl rfl rfl rfl (by (first | exact hal | exact G1 | exact R1 | exact R2 | exact H1 | exact H2)) rfl ?_) | (refine al_callF (args := [_, _]) rfl rfl rfl (by (first | exact hal | exact G1 | exact R1 | exact R2 | exact H1 | exact H2)) rfl ?_) | ((with_reducible apply al_eqnil); (iterate 4 exact rfl)) | ((with_reducible apply al_guard_b (c := true)); exact rfl; exact rfl; (first | assumption | exact decide_eq_true (by omega) | (simp only [Bool.not_eq_true', decide_eq_false_iff_not, decide_eq_true_eq, Bool.not_eq_false']; omega))) | ((with_reducible apply al_guard_b (c := false)); exact rfl; exact rfl; (first | assumption | exact decide_eq_false (by omega) | (simp only [Bool.not_eq_true', decide_eq_false_iff_not, decide_eq_true_eq, Bool.not_eq_false']; omega))) | ((with_reducible apply al_bin); (iterate 5 exact rfl); (intro W; go_simp; try rfl); (intro W; go_simp; try rfl); exact rfl; exact rfl) | ((with_reducible apply al_un); exact rfl; exact rfl; (intro W; go_simp; try rfl); exact rfl; exact rfl) | ((with_reducible apply al_nilS); kernel_rfl) | ((with_reducible apply awp_region_draw); kernel_rfl; kernel_rfl; exact rfl) | ((with_reducible apply awp_seq)) | ((with_reducible apply athen_normal)) | ((with_reducible apply awp_region)) | ((with_reducible apply al_nil)) | ((with_reducible apply awp_ret)) | ((with_reducible apply awp_skip)) | ((with_reducible apply athen_ret)) | ((with_reducible apply awp_cond_t); exact rfl) | ((with_reducible apply awp_cond_f); exact rfl) | ((with_reducible apply awp_cond_1); exact rfl; (first | assumption | exact decide_eq_true (by omega) | (simp only [Bool.not_eq_true', decide_eq_false_iff_not, decide_eq_true_eq, Bool.not_eq_false']; omega))) | ((with_reducible apply awp_cond_0); exact rfl; (first | assumption | exact decide_eq_false (by omega) | (simp only [Bool.not_eq_true', decide_eq_false_iff_not, decide_eq_true_eq, Bool.not_eq_false']; omega)))))
    (first | (refine apost_ret rfl (resl_tmp rfl resl_nil) ?_))
    exact AV.Le.refl _
set_option maxRecDepth 100000 in
set_option maxHeartbeats 16000000 in
theorem met_yes {a1 a2 b1 b2 x y z w k r : Int} {t : Bool} (hal : PCall Try.prog 9 [] (vB true)) (h : k = r) (G1 : PCall Try.prog 20 [vI k] (vI r)) (R1 : PCall Try.prog 21 [vP a1 a2] (vB true)) (R2 : PCall Try.prog 21 [vP b1 b2] (vB true))
    (H1 : PCall Try.prog 22 [vP a1 a2, vP b1 b2, vP x y, vI k] (vB true)) (H2 : PCall Try.prog 22 [vP a1 a2, vP b1 b2, vP z w, vI k] (vB true))
    (C1 : PCall Try.prog 28 [vP x y, vP z w, .w (.one (cB (decide (b1 < a1)))), .w (.one (cB (decide (b2 < a2))))] (vB t))
    (bx : -1000000000 ≤ x ∧ x ≤ 1000000000) (by' : -1000000000 ≤ y ∧ y ≤ 1000000000) (bz : -1000000000 ≤ z ∧ z ≤ 1000000000) (bw : -1000000000 ≤ w ∧ w ≤ 1000000000)
    (o1 : t = true → (b1 < a1 → z ≤ x) ∧ (¬ b1 < a1 → x ≤ z) ∧ (b2 < a2 → w ≤ y) ∧ (¬ b2 < a2 → y ≤ w)) (o2 : t = false → (b1 < a1 → x ≤ z) ∧ (¬ b1 < a1 → z ≤ x) ∧ (b2 < a2 → y ≤ w) ∧ (¬ b2 < a2 → w ≤ y)) :
    PCall Try.prog 7 [.w (.agg [.c (.int .i64 a1), .c (.int .i64 a2), .c (.int .i64 b1), .c (.int .i64 b2)]), .w (.agg [.c (.int .i64 x), .c (.int .i64 y), .c (.int .i64 z), .c (.int .i64 w)]), vI k] (vB true) := by
  have A1 := p_Along (a1 := a1) (a2 := a2) (b1 := b1) (b2 := b2)
  by_cases c1 : b1 < a1 <;> by_cases c2 : b2 < a2 <;> cases t
  all_goals
    first
    | (obtain ⟨m1, m2, m3, m4⟩ := o1 rfl)
    | (obtain ⟨m1, m2, m3, m4⟩ := o2 rfl)
    clear o1 o2
    simp only [c1, c2, not_true, not_false_iff, true_implies, false_implies] at m1 m2 m3 m4
    refine pcall_body (f := 7) Try.func7 rfl rfl rfl rfl ?_
    (repeat (first | ((with_reducible apply al_q); exact rfl) | ((with_reducible apply al_loadP1); (iterate 5 exact rfl)) | ((with_reducible apply al_loadPN); (iterate 5 exact rfl)) | ((with_reducible apply al_fldP); (iterate 3 exact rfl)) | ((with_reducible apply al_idxS); (iterate 3 exact rfl); (first | decide | omega); (first | decide | omega); (first | assumption | rfl); exact rfl) | ((with_reducible apply al_idx); (iterate 3 exact rfl); omega; omega; exact rfl) | ((with_reducible apply al_eqP); (iterate 4 exact rfl)) | ((with_reducible apply al_eqB); (iterate 4 exact rfl)) | ((with_reducible apply al_neqP); (iterate 4 exact rfl)) | ((with_reducible apply al_sub); (iterate 3 exact rfl); (first | exact i64_wrap (by omega) | assumption | rfl); exact rfl) | ((with_reducible apply al_neg); exact rfl; exact rfl; (first | exact i64_wrap (by omega) | assumption | rfl); exact rfl) | ((with_reducible apply al_eqT); (iterate 4 exact rfl); kernel_rfl) | ((with_reducible apply al_neT); (iterate 4 exact rfl); kernel_rfl) | (refine al_call0 rfl rfl (by (first | exact hal | exact G1 | exact R1 | exact R2 | exact H1 | exact H2 | exact A1 | exact C1)) rfl ?_) | (refine al_call1 rfl rfl rfl (by (first | exact hal | exact G1 | exact R1 | exact R2 | exact H1 | exact H2 | exact A1 | exact C1)) rfl ?_) | (refine al_call2 rfl rfl rfl rfl (by (first | exact hal | exact G1 | exact R1 | exact R2 | exact H1 | exact H2 | exact A1 | exact C1)) rfl ?_) | (refine al_call4 rfl rfl rfl rfl rfl rfl (by (first | exact hal | exact G1 | exact R1 | exact R2 | exact H1 | exact H2 | exact A1 | exact C1)) rfl ?_) | (refine al_callb (bs := [_]) (args := [_, _]) rfl rfl rfl rfl (by (first | exact hal | exact G1 | exact R1 | exact R2 | exact H1 | exact H2 | exact A1 | exact C1)) rfl ?_) | (refine al_callF (args := [_, _]) rfl rfl rfl (by (first | exact hal | exact G1 | exact R1 | exact R2 | exact H1 | exact H2 | exact A1 | exact C1)) rfl ?_) | ((with_reducible apply al_eqnil); (iterate 4 exact rfl)) | ((with_reducible apply al_guard_b (c := true)); exact rfl; exact rfl; (first | assumption | exact decide_eq_true (by omega) | (simp only [Bool.not_eq_true', decide_eq_false_iff_not, decide_eq_true_eq, Bool.not_eq_false']; omega))) | ((with_reducible apply al_guard_b (c := false)); exact rfl; exact rfl; (first | assumption | exact decide_eq_false (by omega) | (simp only [Bool.not_eq_true', decide_eq_false_iff_not, decide_eq_true_eq, Bool.not_eq_false']; omega))) | ((with_reducible apply al_bin); (iterate 5 exact rfl); (intro W; go_simp; try rfl); (intro W; go_simp; try rfl); exact rfl; exact rfl) | ((with_reducible apply al_un); exact rfl; exact rfl; (intro W; go_simp; try rfl); exact rfl; exact rfl) | ((with_reducible apply al_nilS); kernel_rfl) | ((with_reducible apply awp_region_draw); kernel_rfl; kernel_rfl; exact rfl) | ((with_reducible apply awp_seq)) | ((with_reducible apply athen_normal)) | ((with_reducible apply awp_region)) | ((with_reducible apply al_nil)) | ((with_reducible apply awp_ret)) | ((with_reducible apply awp_skip)) | ((with_reducible apply athen_ret)) | ((with_reducible apply awp_cond_t); exact rfl) | ((with_reducible apply awp_cond_f); exact rfl) | ((with_reducible apply awp_cond_1); exact rfl; (first | assumption | exact decide_eq_true (by omega) | (simp only [Bool.not_eq_true', decide_eq_false_iff_not, decide_eq_true_eq, Bool.not_eq_false']; omega))) | ((with_reducible apply awp_cond_0); exact rfl; (first | assumption | exact decide_eq_false (by omega) | (simp only [Bool.not_eq_true', decide_eq_false_iff_not, decide_eq_true_eq, Bool.not_eq_false']; omega)))))
    (first | (refine apost_ret rfl (resl_tmp rfl resl_nil) ?_))
    exact AV.Le.of_eq (by first | rfl | (rw [decide_eq_true (by omega)]; rfl))
end Go.Proofs.Ytcplkjnmfdinaaa

namespace Go.Proofs.Ytcplkjnmfdinaaa
open Go.RowKit
set_option linter.unusedVariables false
theorem small_of {P x B : Int} (hP : 1 ≤ P) (h1 : -B ≤ P * x) (h2 : P * x ≤ B) : -B ≤ x ∧ x ≤ B := by
  rcases Int.le_total 0 x with h | h
  · have := Int.mul_le_mul_of_nonneg_right hP h
    omega
  · have := Int.mul_le_mul_of_nonpos_right hP h
    omega
theorem hiB_small {a1 a2 b1 b2 x y : Int} {r : Nat} (hr : r ≤ 28) (h : hiB a1 a2 b1 b2 x y r = true) : (-1000000000 ≤ x ∧ x ≤ 1000000000) ∧ (-1000000000 ≤ y ∧ y ≤ 1000000000) := by
  have hi := ((hiB_iff hr).1 h).1
  obtain ⟨⟨i1, i2⟩, i3, i4⟩ := (inB_mul r x y).1 hi
  have hP := (pow28 hr).1
  have g1 := small_of hP i1 i2
  have g2 := small_of hP i3 i4
  omega
theorem law_Met {a1 a2 b1 b2 x y z w k : Int} (hal : PCall Try.prog 9 [] (vB true)) :
    PCall Try.prog 7 [.w (.agg [.c (.int .i64 a1), .c (.int .i64 a2), .c (.int .i64 b1), .c (.int .i64 b2)]), .w (.agg [.c (.int .i64 x), .c (.int .i64 y), .c (.int .i64 z), .c (.int .i64 w)]), vI k] (vB true) := by
  obtain ⟨r, hr⟩ := isR_ex k
  have G1 := p_Rung hr
  have R1 := p_r5Right (x := a1) (y := a2) rfl
  have R2 := p_r5Right (x := b1) (y := b2) rfl
  have H1 := p_Hits (a1 := a1) (a2 := a2) (b1 := b1) (b2 := b2) (x := x) (y := y) (k := k)
  have H2 := p_Hits (a1 := a1) (a2 := a2) (b1 := b1) (b2 := b2) (x := z) (y := w) (k := k)
  by_cases c1 : k = r
  · cases r1 : rB5 a1 a2 with
    | false => rw [r1] at R1; exact met_no hal G1 R1 R2 H1 H2 (.inr (.inl ⟨c1, rfl⟩))
    | true =>
      rw [r1] at R1
      cases r2 : rB5 b1 b2 with
      | false => rw [r2] at R2; exact met_no hal G1 R1 R2 H1 H2 (.inr (.inr (.inl ⟨c1, rfl, rfl⟩)))
      | true =>
        rw [r2] at R2
        cases r3 : hiB a1 a2 b1 b2 x y k with
        | false => rw [r3] at H1; exact met_no hal G1 R1 R2 H1 H2 (.inr (.inr (.inr (.inl ⟨c1, rfl, rfl, rfl⟩))))
        | true =>
          rw [r3] at H1
          cases r4 : hiB a1 a2 b1 b2 z w k with
          | false => rw [r4] at H2; exact met_no hal G1 R1 R2 H1 H2 (.inr (.inr (.inr (.inr ⟨c1, rfl, rfl, rfl, rfl⟩))))
          | true =>
            rw [r4] at H2
            have hr28 : r ≤ 28 := hr.1
            rw [c1] at r3 r4
            obtain ⟨bx, by'⟩ := hiB_small hr28 r3
            obtain ⟨bz, bw⟩ := hiB_small hr28 r4
            refine met_yes hal c1 G1 R1 R2 H1 H2 (p_along1 rfl) bx by' bz bw (fun ht => met_ahead hr28 r3 r4 ht) (fun ht => ?_)
            rcases ahdN_cases x y z w (decide (b1 < a1)) (decide (b2 < a2)) with ⟨h1, _, _⟩ | ⟨_, h2, _⟩ | ⟨_, _, h3⟩
            · rw [h1] at ht; cases ht
            · exact met_ahead hr28 r4 r3 h2
            · obtain ⟨e1, e2⟩ := eqP_iff.1 h3
              exact ⟨fun _ => by omega, fun _ => by omega, fun _ => by omega, fun _ => by omega⟩
  · exact met_no hal G1 R1 R2 H1 H2 (.inl c1)
end Go.Proofs.Ytcplkjnmfdinaaa

namespace Go.Proofs.Ytcplkjnmfdinaaa
open Go.RowKit
set_option linter.unusedVariables false
theorem met_walk (a1 a2 b1 b2 x y z w k : Int) (_ : -9223372036854775808 ≤ a1 ∧ a1 ≤ 9223372036854775807) (_ : -9223372036854775808 ≤ a2 ∧ a2 ≤ 9223372036854775807) (_ : -9223372036854775808 ≤ b1 ∧ b1 ≤ 9223372036854775807) (_ : -9223372036854775808 ≤ b2 ∧ b2 ≤ 9223372036854775807) (_ : -9223372036854775808 ≤ x ∧ x ≤ 9223372036854775807) (_ : -9223372036854775808 ≤ y ∧ y ≤ 9223372036854775807) (_ : -9223372036854775808 ≤ z ∧ z ≤ 9223372036854775807) (_ : -9223372036854775808 ≤ w ∧ w ≤ 9223372036854775807) (_ : -9223372036854775808 ≤ k ∧ k ≤ 9223372036854775807) :
    PCall Try.prog 7 [.w (.agg [.c (.int .i64 a1), .c (.int .i64 a2), .c (.int .i64 b1), .c (.int .i64 b2)]), .w (.agg [.c (.int .i64 x), .c (.int .i64 y), .c (.int .i64 z), .c (.int .i64 w)]), vI k] (vB true) := law_Met p_alive7
end Go.Proofs.Ytcplkjnmfdinaaa

namespace Go.Proofs.Ytcplkjnmfdinaaa
open Go.ChangeShapes Go.WideShapes Go.ChangeAt Go.RowKit Go.Joins
set_option linter.unusedVariables false
set_option linter.unusedSimpArgs false
/-- a call that returns true, at values that are told. -/
theorem pcall_true' {P : Program} {f : FuncId} {args : List AV} (h : PCall P f args (vB true)) (vals : List Value) (W : World) (hl : args.length = vals.length) (hr : ∀ (i : Nat) (x : AV) (v : Value), args[i]? = some x → vals[i]? = some v → RpV (fun _ => True) id W x v) :
    Calls P f vals.toArray W fun e W' => e = .returned (.bool true) ∧ Below W.heap.size W W' :=
  (h.call (fun _ => True) W vals ⟨hl, hr⟩).mono fun e W' ⟨v, he, ⟨hv, _⟩, hb⟩ => by subst hv; exact ⟨he, hb⟩
end Go.Proofs.Ytcplkjnmfdinaaa

