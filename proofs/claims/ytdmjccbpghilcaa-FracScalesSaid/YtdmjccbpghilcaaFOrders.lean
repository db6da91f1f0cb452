/-
  cobweblaw02.FracOrders returns true, for every two fractions. My own text.
-/
import Derived.Test.YtdmjccbpghilcaaFracH
namespace Go.Proofs.Ytdmjccbpghilcaa
open Go.RowKit
set_option linter.unusedVariables false
set_option linter.unusedSimpArgs false
attribute [local go_sem ↓] Go.wp_at_zero Go.wp_at_succ

/-- two fractions that the walk holds on to. -/
structure TwoF (w : World) (a b c d a' b' c' d' : Int) (W : World) : Prop where
  f : Box4 W w.heap.size (.int .i64 a) (.int .u64 b) (.int .i64 c) (.int .u64 d)
  g : Box4 W (w.heap.size + 1) (.int .i64 a') (.int .u64 b') (.int .i64 c') (.int .u64 d')
  below : Below w.heap.size w W
section
variable {w W w1 : World} {a b c d a' b' c' d' : Int}
theorem TwoF.call (h : TwoF w a b c d a' b' c' d' W) (hb : Below W.heap.size W w1) : TwoF w a b c d a' b' c' d' w1 := ⟨h.f.call hb, h.g.call hb, below_call h.below hb⟩
theorem TwoF.k (h : TwoF w a b c d a' b' c' d' W) : (W.cell? ⟨w.heap.size, 0, none⟩ = some (.int .i64 a) ∧ W.cell? ⟨w.heap.size, 1, none⟩ = some (.int .u64 b) ∧ W.cell? ⟨w.heap.size, 2, none⟩ = some (.int .i64 c) ∧ W.cell? ⟨w.heap.size, 3, none⟩ = some (.int .u64 d)) ∧ (W.cell? ⟨w.heap.size + 1, 0, none⟩ = some (.int .i64 a') ∧ W.cell? ⟨w.heap.size + 1, 1, none⟩ = some (.int .u64 b') ∧ W.cell? ⟨w.heap.size + 1, 2, none⟩ = some (.int .i64 c') ∧ W.cell? ⟨w.heap.size + 1, 3, none⟩ = some (.int .u64 d')) := ⟨h.f.1, h.g.1⟩
end
theorem icmp_le {d : Int} (h : ¬ 0 < d) : icmp d 0 ≤ 0 := by unfold icmp; repeat' split; all_goals omega
theorem icmp_up {d : Int} (h : 0 < d) : 0 < icmp d 0 := by unfold icmp; repeat' split; all_goals omega
set_option maxHeartbeats 4000000 in
set_option maxRecDepth 100000 in
theorem orders_no (a b n c d m a' b' n' c' d' m' : Int) (w : World) (H : IsW a b n) (G : IsW c d m) (H' : IsW a' b' n') (G' : IsW c' d' m') (hno : ¬ (0 < m ∧ 0 < m')) :
    Calls Try.prog 4 #[.agg #[.int .i64 a, .int .u64 b, .int .i64 c, .int .u64 d], .agg #[.int .i64 a', .int .u64 b', .int .i64 c', .int .u64 d']] w (RV (.bool true) w) := by
  have C0 : Hid (∀ w, Calls Try.prog 20 #[.agg #[.int .i64 a, .int .u64 b, .int .i64 c, .int .u64 d], .agg #[.int .i64 a', .int .u64 b', .int .i64 c', .int .u64 d']] w (RV (.int .i64 0) w)) := fun w => by have := fCmp_any a b n c d m a' b' n' c' d' m' w H G H' G'; unfold cmpv at this; rw [if_neg hno] at this; exact this
  have S0 := Lib.hid (fun w => Sign_any c d m w G)
  have S1 := Lib.hid (fun w => Sign_any c' d' m' w G')
  by_cases hm : 0 < m
  · have i0 := icmp_up hm
    have i1 := icmp_le (d := m') (fun h => hno ⟨hm, h⟩)
    generalize icmp m 0 = s at *
    generalize icmp m' 0 = t at *
    have dk : decide (s ≤ 0) = false := decide_eq_false (by omega)
    clear hno hm
    go_enter Try.func4, Try.ntmps4
    go_wp2_with fail
    refine (C0.out _).mono ?_
    rintro e w1 ⟨rfl, hb1⟩
    have Z0 : TwoF w a b c d a' b' c' d' w1 := ⟨(by (repeat (first | with_reducible assumption | (focus ((with_reducible refine Box.new ?_); simp; done)) | (focus ((with_reducible refine Box4.new ?_); simp; done)) | (with_reducible refine Box.alloc ?_ _) | (with_reducible refine Box4.alloc ?_ _) | (with_reducible refine Box.drew ?_) | (with_reducible refine Box4.drew ?_) | (with_reducible refine Box.put ?_) | (focus ((with_reducible refine Box.set ?_ _ ?_); rotate_left; omega)) | (focus ((with_reducible refine Box4.set ?_ _ ?_); rotate_left; omega)) | (focus ((with_reducible apply HasBox.of); with_reducible assumption)) | (focus ((with_reducible refine HasBox.new ?_); simp; done)) | (with_reducible refine HasBox.set ?_ _ _) | (with_reducible refine HasBox.drew ?_) | (with_reducible refine HasBox.alloc ?_ _) | (with_reducible refine Box.call ?_ hb1) | (with_reducible refine Box4.call ?_ hb1) | (with_reducible refine HasBox.call ?_ hb1)))), (by (repeat (first | with_reducible assumption | (focus ((with_reducible refine Box.new ?_); simp; done)) | (focus ((with_reducible refine Box4.new ?_); simp; done)) | (with_reducible refine Box.alloc ?_ _) | (with_reducible refine Box4.alloc ?_ _) | (with_reducible refine Box.drew ?_) | (with_reducible refine Box4.drew ?_) | (with_reducible refine Box.put ?_) | (focus ((with_reducible refine Box.set ?_ _ ?_); rotate_left; omega)) | (focus ((with_reducible refine Box4.set ?_ _ ?_); rotate_left; omega)) | (focus ((with_reducible apply HasBox.of); with_reducible assumption)) | (focus ((with_reducible refine HasBox.new ?_); simp; done)) | (with_reducible refine HasBox.set ?_ _ _) | (with_reducible refine HasBox.drew ?_) | (with_reducible refine HasBox.alloc ?_ _) | (with_reducible refine Box.call ?_ hb1) | (with_reducible refine Box4.call ?_ hb1) | (with_reducible refine HasBox.call ?_ hb1)))), (by (repeat (first | (with_reducible exact Below.refl _ _) | with_reducible assumption | (with_reducible refine below_alloc ?_ _) | (focus ((with_reducible refine below_set ?_ _ _ _ ?_); rotate_left; omega)) | (with_reducible refine Below.drew ?_) | (with_reducible refine below_call ?_ hb1))))⟩
    clear hb1
    obtain ⟨⟨x0, x1, x2, x3⟩, x4, x5, x6, x7⟩ := Z0.k
    go_wp2_with fail
    refine (S0.out _).mono ?_
    rintro e w2 ⟨rfl, hb2⟩
    replace Z0 := Z0.call hb2
    clear hb2 x0 x1 x2 x3 x4 x5 x6 x7
    obtain ⟨⟨x0, x1, x2, x3⟩, x4, x5, x6, x7⟩ := Z0.k
    go_wp2_with fail
    refine (S1.out _).mono ?_
    rintro e w3 ⟨rfl, hb3⟩
    replace Z0 := Z0.call hb3
    clear hb3 x0 x1 x2 x3 x4 x5 x6 x7
    go_wp2_with fail
    refine (alive_any _).mono ?_
    rintro e w4 ⟨rfl, hb4⟩
    replace Z0 := Z0.call hb4
    go_wp2_with fail
    go_ret
    exact ⟨rfl, Z0.below⟩
  · have i0 := icmp_le hm
    generalize icmp m 0 = s at *
    have dk : decide (s ≤ 0) = true := decide_eq_true i0
    clear hno hm
    go_enter Try.func4, Try.ntmps4
    go_wp2_with fail
    refine (C0.out _).mono ?_
    rintro e w1 ⟨rfl, hb1⟩
    have Z0 : TwoF w a b c d a' b' c' d' w1 := ⟨(by (repeat (first | with_reducible assumption | (focus ((with_reducible refine Box.new ?_); simp; done)) | (focus ((with_reducible refine Box4.new ?_); simp; done)) | (with_reducible refine Box.alloc ?_ _) | (with_reducible refine Box4.alloc ?_ _) | (with_reducible refine Box.drew ?_) | (with_reducible refine Box4.drew ?_) | (with_reducible refine Box.put ?_) | (focus ((with_reducible refine Box.set ?_ _ ?_); rotate_left; omega)) | (focus ((with_reducible refine Box4.set ?_ _ ?_); rotate_left; omega)) | (focus ((with_reducible apply HasBox.of); with_reducible assumption)) | (focus ((with_reducible refine HasBox.new ?_); simp; done)) | (with_reducible refine HasBox.set ?_ _ _) | (with_reducible refine HasBox.drew ?_) | (with_reducible refine HasBox.alloc ?_ _) | (with_reducible refine Box.call ?_ hb1) | (with_reducible refine Box4.call ?_ hb1) | (with_reducible refine HasBox.call ?_ hb1)))), (by (repeat (first | with_reducible assumption | (focus ((with_reducible refine Box.new ?_); simp; done)) | (focus ((with_reducible refine Box4.new ?_); simp; done)) | (with_reducible refine Box.alloc ?_ _) | (with_reducible refine Box4.alloc ?_ _) | (with_reducible refine Box.drew ?_) | (with_reducible refine Box4.drew ?_) | (with_reducible refine Box.put ?_) | (focus ((with_reducible refine Box.set ?_ _ ?_); rotate_left; omega)) | (focus ((with_reducible refine Box4.set ?_ _ ?_); rotate_left; omega)) | (focus ((with_reducible apply HasBox.of); with_reducible assumption)) | (focus ((with_reducible refine HasBox.new ?_); simp; done)) | (with_reducible refine HasBox.set ?_ _ _) | (with_reducible refine HasBox.drew ?_) | (with_reducible refine HasBox.alloc ?_ _) | (with_reducible refine Box.call ?_ hb1) | (with_reducible refine Box4.call ?_ hb1) | (with_reducible refine HasBox.call ?_ hb1)))), (by (repeat (first | (with_reducible exact Below.refl _ _) | with_reducible assumption | (with_reducible refine below_alloc ?_ _) | (focus ((with_reducible refine below_set ?_ _ _ _ ?_); rotate_left; omega)) | (with_reducible refine Below.drew ?_) | (with_reducible refine below_call ?_ hb1))))⟩
    clear hb1
    obtain ⟨⟨x0, x1, x2, x3⟩, x4, x5, x6, x7⟩ := Z0.k
    go_wp2_with fail
    refine (S0.out _).mono ?_
    rintro e w2 ⟨rfl, hb2⟩
    replace Z0 := Z0.call hb2
    clear hb2 x0 x1 x2 x3 x4 x5 x6 x7
    go_wp2_with fail
    refine (alive_any _).mono ?_
    rintro e w4 ⟨rfl, hb4⟩
    replace Z0 := Z0.call hb4
    go_wp2_with fail
    go_ret
    exact ⟨rfl, Z0.below⟩
set_option maxHeartbeats 4000000 in
set_option maxRecDepth 100000 in
theorem orders_yes (a b n c d m a' b' n' c' d' m' : Int) (w : World) (H : IsW a b n) (G : IsW c d m) (H' : IsW a' b' n') (G' : IsW c' d' m') (p : 0 < m) (p' : 0 < m') :
    Calls Try.prog 4 #[.agg #[.int .i64 a, .int .u64 b, .int .i64 c, .int .u64 d], .agg #[.int .i64 a', .int .u64 b', .int .i64 c', .int .u64 d']] w (RV (.bool true) w) := by
  have C0 := Lib.hid (fun w => fCmp_yes a b n c d m a' b' n' c' d' m' w H G H' G' p p')
  have C1 : Hid (∀ w, Calls Try.prog 20 #[.agg #[.int .i64 a', .int .u64 b', .int .i64 c', .int .u64 d'], .agg #[.int .i64 a, .int .u64 b, .int .i64 c, .int .u64 d]] w (RV (.int .i64 (-icmp (n * m') (n' * m))) w)) := fun w => by have := fCmp_yes a' b' n' c' d' m' a b n c d m w H' G' H G p' p; rw [icmp_swap] at this; exact this
  have C2 : Hid (∀ w, Calls Try.prog 20 #[.agg #[.int .i64 a, .int .u64 b, .int .i64 c, .int .u64 d], .agg #[.int .i64 a, .int .u64 b, .int .i64 c, .int .u64 d]] w (RV (.int .i64 0) w)) := fun w => by have := fCmp_yes a b n c d m a b n c d m w H G H G p p; rw [icmp_self] at this; exact this
  have F0 := Lib.hid H.fits; have F1 := Lib.hid G.fits; have F2 := Lib.hid H'.fits; have F3 := Lib.hid G'.fits
  have S0 := Lib.hid (fun w => Sign_any c d m w G)
  have S1 := Lib.hid (fun w => Sign_any c' d' m' w G')
  have i0 := icmp_up p
  have i1 := icmp_up p'
  generalize icmp m 0 = s at *
  generalize icmp m' 0 = t at *
  have bd := icmp_bd (n * m') (n' * m)
  generalize hx : icmp (n * m') (n' * m) = cx at C0 C1 bd
  have HX := Lib.hid hx
  clear hx
  have s1 : IntKind.i64.wrap (-cx) = -cx := IntWalk.i64_in _ (by omega)
  have dk : decide (s ≤ 0) = false := decide_eq_false (by omega)
  go_enter Try.func4, Try.ntmps4
  go_wp2_with fail
  refine (C0.out _).mono ?_
  rintro e w1 ⟨rfl, hb1⟩
  have Z0 : TwoF w a b c d a' b' c' d' w1 := ⟨(by (repeat (first | with_reducible assumption | (focus ((with_reducible refine Box.new ?_); simp; done)) | (focus ((with_reducible refine Box4.new ?_); simp; done)) | (with_reducible refine Box.alloc ?_ _) | (with_reducible refine Box4.alloc ?_ _) | (with_reducible refine Box.drew ?_) | (with_reducible refine Box4.drew ?_) | (with_reducible refine Box.put ?_) | (focus ((with_reducible refine Box.set ?_ _ ?_); rotate_left; omega)) | (focus ((with_reducible refine Box4.set ?_ _ ?_); rotate_left; omega)) | (focus ((with_reducible apply HasBox.of); with_reducible assumption)) | (focus ((with_reducible refine HasBox.new ?_); simp; done)) | (with_reducible refine HasBox.set ?_ _ _) | (with_reducible refine HasBox.drew ?_) | (with_reducible refine HasBox.alloc ?_ _) | (with_reducible refine Box.call ?_ hb1) | (with_reducible refine Box4.call ?_ hb1) | (with_reducible refine HasBox.call ?_ hb1)))), (by (repeat (first | with_reducible assumption | (focus ((with_reducible refine Box.new ?_); simp; done)) | (focus ((with_reducible refine Box4.new ?_); simp; done)) | (with_reducible refine Box.alloc ?_ _) | (with_reducible refine Box4.alloc ?_ _) | (with_reducible refine Box.drew ?_) | (with_reducible refine Box4.drew ?_) | (with_reducible refine Box.put ?_) | (focus ((with_reducible refine Box.set ?_ _ ?_); rotate_left; omega)) | (focus ((with_reducible refine Box4.set ?_ _ ?_); rotate_left; omega)) | (focus ((with_reducible apply HasBox.of); with_reducible assumption)) | (focus ((with_reducible refine HasBox.new ?_); simp; done)) | (with_reducible refine HasBox.set ?_ _ _) | (with_reducible refine HasBox.drew ?_) | (with_reducible refine HasBox.alloc ?_ _) | (with_reducible refine Box.call ?_ hb1) | (with_reducible refine Box4.call ?_ hb1) | (with_reducible refine HasBox.call ?_ hb1)))), (by (repeat (first | (with_reducible exact Below.refl _ _) | with_reducible assumption | (with_reducible refine below_alloc ?_ _) | (focus ((with_reducible refine below_set ?_ _ _ _ ?_); rotate_left; omega)) | (with_reducible refine Below.drew ?_) | (with_reducible refine below_call ?_ hb1))))⟩
  clear hb1
  obtain ⟨⟨x0, x1, x2, x3⟩, x4, x5, x6, x7⟩ := Z0.k
  go_wp2_with fail
  refine (S0.out _).mono ?_
  rintro e w2 ⟨rfl, hb2⟩
  replace Z0 := Z0.call hb2
  clear hb2 x0 x1 x2 x3 x4 x5 x6 x7
  obtain ⟨⟨x0, x1, x2, x3⟩, x4, x5, x6, x7⟩ := Z0.k
  go_wp2_with fail
  refine (S1.out _).mono ?_
  rintro e w3 ⟨rfl, hb3⟩
  have A0 := Z0.call hb3 |>.call ((Below.refl _ _).drew)
  clear hb3 x0 x1 x2 x3 x4 x5 x6 x7 Z0
  go_wp2_with fail
  go_region_held3 (fun w' => (w'.cell? ⟨w.heap.size, 0, none⟩ = some (.int .i64 a) ∧ w'.cell? ⟨w.heap.size, 1, none⟩ = some (.int .u64 b) ∧ w'.cell? ⟨w.heap.size, 2, none⟩ = some (.int .i64 c) ∧ w'.cell? ⟨w.heap.size, 3, none⟩ = some (.int .u64 d)) ∧ (w'.cell? ⟨w.heap.size + 1, 0, none⟩ = some (.int .i64 a') ∧ w'.cell? ⟨w.heap.size + 1, 1, none⟩ = some (.int .u64 b') ∧ w'.cell? ⟨w.heap.size + 1, 2, none⟩ = some (.int .i64 c') ∧ w'.cell? ⟨w.heap.size + 1, 3, none⟩ = some (.int .u64 d')))
    (first | with_reducible exact A6.k | with_reducible exact A5.k | with_reducible exact A4.k | with_reducible exact A3.k | with_reducible exact A2.k | with_reducible exact A1.k | with_reducible exact A0.k)
    (first
      | (go_at_call 17; ((with_reducible refine (alive_any _).mono ?_); rintro e v1 ⟨rfl, hb⟩; have A1 := A0.call hb; clear hb))
      | (go_at_call 23; ((with_reducible refine (Old_any _ _ _ _ _ _ _ H G).mono ?_); rintro e v2 ⟨x, X, l, k, y, Y, l', k', rfl, j1, j2, hb⟩; have A2 := A1.call hb; clear hb))
      | (go_at_call 23; ((with_reducible refine (Old_any _ _ _ _ _ _ _ H' G').mono ?_); rintro e v3 ⟨z, Z, l2, k2, u, U, l3, k3, rfl, j3, j4, hb⟩; have A3 := A2.call hb; replace j1 := j1.call hb; replace j2 := j2.call hb; clear hb))
      | (go_at_call 22; ((with_reducible refine (r2Cmp_any _ _ _ _ _ _ _ _ _ _ _ _ _ _ _ _ _ _ _ _ _ j1 j2 j3 j4 F0.out F1.out F2.out F3.out).mono ?_); rintro e v4 ⟨rfl, hb⟩; rw [HX.out]; have A4 := A3.call hb; clear hb))
      | (go_at_call 20; ((with_reducible refine (C1.out _).mono ?_); rintro e v5 ⟨rfl, hb⟩; have A5 := A4.call hb; clear hb))
      | (go_at_call 20; ((with_reducible refine (C2.out _).mono ?_); rintro e v6 ⟨rfl, hb⟩; have A6 := A5.call hb; clear hb)))
  all_goals
    go_wp2_with fail
    go_ret
    exact ⟨rfl, A6.below⟩
theorem forders_walk (a b n c d m a' b' n' c' d' m' : Int) (w : World) (H : IsW a b n) (G : IsW c d m) (H' : IsW a' b' n') (G' : IsW c' d' m') :
    Calls Try.prog 4 #[.agg #[.int .i64 a, .int .u64 b, .int .i64 c, .int .u64 d], .agg #[.int .i64 a', .int .u64 b', .int .i64 c', .int .u64 d']] w (RV (.bool true) w) := by
  by_cases h : 0 < m ∧ 0 < m'
  · exact orders_yes a b n c d m a' b' n' c' d' m' w H G H' G' h.1 h.2
  · exact orders_no a b n c d m a' b' n' c' d' m' w H G H' G' h
end Go.Proofs.Ytdmjccbpghilcaa
