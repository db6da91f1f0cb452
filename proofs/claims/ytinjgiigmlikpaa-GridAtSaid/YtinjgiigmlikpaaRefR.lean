/-
  Contracts of the reference package: Fits; of the statements: num, same. My own text.
-/
import Derived.Test.YtinjgiigmlikpaaRefQ
import Derived.Deep.DrawnRows
namespace Go.Proofs.Ytinjgiigmlikpaa
open Go.RowKit
set_option linter.unusedVariables false
attribute [local go_sem ↓] Go.wp_at_zero Go.wp_at_succ

/-- one block that holds a number of the reference package, the number itself, and what is below. -/
structure OneN (w : World) (g : Nat) (x : Bool) (A : Option Addr) (l c : Nat) (n : Int) (W : World) : Prop where
  b : Box W g (.bool x) (.slice A l c)
  n : IsN W x A l c n
  below : Below w.heap.size w W
section
variable {w W w1 : World} {g : Nat} {x : Bool} {A : Option Addr} {l c : Nat} {n : Int}
theorem OneN.call (h : OneN w g x A l c n W) (hb : Below W.heap.size W w1) : OneN w g x A l c n w1 := ⟨h.b.call hb, h.n.call hb, below_call h.below hb⟩
theorem OneN.s (h : OneN w g x A l c n W) : W.cell? ⟨g, 0, none⟩ = some (.bool x) ∧ W.cell? ⟨g, 1, none⟩ = some (.slice A l c) := h.b.1
end
theorem fits_yes {n : Int} (h0 : -170141183460469231731687303715884105728 ≤ n) (h1 : n < 170141183460469231731687303715884105728) : fits n = true := by unfold fits; rw [decide_eq_true_eq]; exact ⟨h0, h1⟩
theorem fits_no {n : Int} (h : n < -170141183460469231731687303715884105728 ∨ 170141183460469231731687303715884105728 ≤ n) : fits n = false := by unfold fits; rw [decide_eq_false_iff_not]; omega
theorem len127 {w : World} {neg : Bool} {A : Option Addr} {l c : Nat} (h : IsN w neg A l c 170141183460469231731687303715884105728) : l ≤ 10 := h.len10 (by omega) (by omega)
theorem len127n {w : World} {neg : Bool} {A : Option Addr} {l c : Nat} (h : IsN w neg A l c (-170141183460469231731687303715884105728)) : l ≤ 10 := h.len10 (by omega) (by omega)
theorem pow127_any (w : World) : Calls Try.prog 49 #[.int .i64 127] w (RN 170141183460469231731687303715884105728 w) := by
  have := rPower_any 127 w (by omega)
  rw [pow127] at this
  exact this
set_option maxHeartbeats 2000000 in
set_option maxRecDepth 100000 in
theorem Fits_in (x : Bool) (A : Option Addr) (l c : Nat) (n : Int) (w : World) (h : IsN w x A l c n) (hl : l ≤ 400) (h0 : 0 ≤ icmp n (-170141183460469231731687303715884105728)) (h1 : decide (icmp n 170141183460469231731687303715884105728 < 0) = fits n) :
    Calls Try.prog 18 #[.agg #[.bool x, .slice A l c]] w (RV (.bool (fits n)) w) := by
  have C1 := Lib.hid pow127_any
  have hl' : l ≤ 1000 := by omega
  generalize hu : icmp n (-170141183460469231731687303715884105728) = u at h0
  generalize hv : icmp n 170141183460469231731687303715884105728 = v at h1
  have HU := Lib.hid hu
  have HV := Lib.hid hv
  have H1 := Lib.hid h1
  have i0 : decide (0 ≤ u) = true := decide_eq_true h0
  clear hu hv h1
  go_enter Try.func18, Try.ntmps18
  go_wp2_with fail
  have A0 : OneN w w.heap.size x A l c n (w.alloc (.cells #[.bool x, .slice A l c] 31)).drew := ⟨(Box.new rfl).drew, (h.alloc _).drew, by (repeat (first | (with_reducible exact Below.refl _ _) | with_reducible assumption | (with_reducible refine below_alloc ?_ _) | (focus ((with_reducible refine below_set ?_ _ _ _ ?_); rotate_left; omega)) | (with_reducible refine Below.drew ?_)))⟩
  go_region_held3 (fun w' => w'.cell? ⟨w.heap.size, 0, none⟩ = some (.bool x) ∧ w'.cell? ⟨w.heap.size, 1, none⟩ = some (.slice A l c))
    (first | with_reducible exact A5.s | with_reducible exact A4.s | with_reducible exact A3.s | with_reducible exact A2.s | with_reducible exact A1.s | with_reducible exact A0.s)
    (first
      | (go_at_call 17; ((with_reducible refine (rNeg_any _ _ _ _ _ _ k1 (Nat.le_trans (len127 k1) (by omega))).mono ?_); rintro e w2 ⟨x2, A2', l2, c2, rfl, k2, hb2⟩; have A2 := A1.call hb2; clear hb2))
      | (go_at_call 15; ((with_reducible refine (rCmp_any _ _ _ _ _ _ _ _ _ _ _ A4.n k4 hl' (Nat.le_trans (len127 k4) (by omega))).mono ?_); rintro e w5 ⟨rfl, hb5⟩; have A5 := A4.call hb5; clear hb5; rw [HV.out]))
      | (go_at_call 15; ((with_reducible refine (rCmp_any _ _ _ _ _ _ _ _ _ _ _ A2.n k2 hl' (Nat.le_trans (len127n k2) (by omega))).mono ?_); rintro e w3 ⟨rfl, hb3⟩; have A3 := A2.call hb3; clear hb3; rw [HU.out]))
      | (go_at_call 49; have _t := A3; ((with_reducible refine (C1.out _).mono ?_); rintro e w4 ⟨x4, A4', l4, c4, rfl, k4, hb4⟩; have A4 := A3.call hb4; clear hb4))
      | (go_at_call 49; ((with_reducible refine (C1.out _).mono ?_); rintro e w1 ⟨x1, A1', l1, c1, rfl, k1, hb1⟩; have A1 := A0.call hb1; clear hb1)))
  go_wp2_with fail
  go_ret
  exact ⟨ret_bool H1.out, A5.below⟩
set_option maxHeartbeats 2000000 in
set_option maxRecDepth 100000 in
theorem Fits_low (x : Bool) (A : Option Addr) (l c : Nat) (n : Int) (w : World) (h : IsN w x A l c n) (hl : l ≤ 400) (h0 : icmp n (-170141183460469231731687303715884105728) = -1) (h1 : fits n = false) :
    Calls Try.prog 18 #[.agg #[.bool x, .slice A l c]] w (RV (.bool (fits n)) w) := by
  have C1 := Lib.hid pow127_any
  have hl' : l ≤ 1000 := by omega
  have HU := Lib.hid h0
  have H1 := Lib.hid h1
  clear h0 h1
  go_enter Try.func18, Try.ntmps18
  go_wp2_with fail
  have A0 : OneN w w.heap.size x A l c n (w.alloc (.cells #[.bool x, .slice A l c] 31)).drew := ⟨(Box.new rfl).drew, (h.alloc _).drew, by (repeat (first | (with_reducible exact Below.refl _ _) | with_reducible assumption | (with_reducible refine below_alloc ?_ _) | (focus ((with_reducible refine below_set ?_ _ _ _ ?_); rotate_left; omega)) | (with_reducible refine Below.drew ?_)))⟩
  obtain ⟨z1, z2⟩ := A0.s
  go_region_with
    (first
      | (go_at_call 49; ((with_reducible refine (C1.out _).mono ?_); rintro e w1 ⟨x1, A1', l1, c1, rfl, k1, hb1⟩; have A1 := A0.call hb1; clear hb1; obtain ⟨z3, z4⟩ := A1.s))
      | (go_at_call 17; ((with_reducible refine (rNeg_any _ _ _ _ _ _ k1 (Nat.le_trans (len127 k1) (by omega))).mono ?_); rintro e w2 ⟨x2, A2', l2, c2, rfl, k2, hb2⟩; have A2 := A1.call hb2; clear hb2; obtain ⟨z5, z6⟩ := A2.s))
      | (go_at_call 15; ((with_reducible refine (rCmp_any _ _ _ _ _ _ _ _ _ _ _ A2.n k2 hl' (Nat.le_trans (len127n k2) (by omega))).mono ?_); rintro e w3 ⟨rfl, hb3⟩; have A3 := A2.call hb3; clear hb3; rw [HU.out])))
  all_goals
    go_wp2_with fail
    go_ret
    exact ⟨ret_bool H1.out.symm, A3.below⟩
theorem Fits_any (x : Bool) (A : Option Addr) (l c : Nat) (n : Int) (w : World) (h : IsN w x A l c n) (hl : l ≤ 400) :
    Calls Try.prog 18 #[.agg #[.bool x, .slice A l c]] w (RV (.bool (fits n)) w) := by
  rcases Int.lt_or_le n (-170141183460469231731687303715884105728) with q | q
  · exact Fits_low x A l c n w h hl (icmp_lt q) (fits_no (.inl q))
  · refine Fits_in x A l c n w h hl (icmp_ge.2 q) ?_
    rcases Int.lt_or_le n 170141183460469231731687303715884105728 with r | r
    · rw [fits_yes q r, icmp_lt r]; rfl
    · rw [fits_no (.inr r)]
      exact decide_eq_false (by have := icmp_ge.2 r; omega)
end Go.Proofs.Ytinjgiigmlikpaa
