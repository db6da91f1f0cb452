/-
  cobweblaw02.FracScales returns true, for all its arguments. My own text.
-/
import Derived.Test.YtdmjccbpghilcaaFTurned
namespace Go.Proofs.Ytdmjccbpghilcaa
open Go.RowKit
set_option linter.unusedVariables false
set_option linter.unusedSimpArgs false
attribute [local go_sem ↓] Go.wp_at_zero Go.wp_at_succ

theorem scale_div {n d y : Int} (hy : 0 < y) : n * y / (d * y) = n / d ∧ n * y % (d * y) = (n % d) * y := by
  rw [Int.mul_comm n y, Int.mul_comm d y, Int.mul_comm (n % d) y]
  exact ⟨Int.mul_ediv_mul_of_pos n d hy, Int.mul_emod_mul_of_pos n d hy⟩
theorem scale_nea {n d y : Int} (hy : 0 < y) : nea (n * y) (d * y) = nea n d := by
  unfold nea
  rw [(scale_div hy).1, (scale_div hy).2, ← Int.sub_mul]
  by_cases h : n % d < d - n % d
  · rw [if_pos h, if_pos (Int.mul_lt_mul_of_pos_right h hy)]
  · rw [if_neg h, if_neg (Int.not_lt.2 (Int.mul_le_mul_of_nonneg_right (Int.not_lt.1 h) (Int.le_of_lt hy)))]
theorem scale_sna {n d y : Int} (k : Nat) (hy : 0 < y) : sna (n * y) (d * y) k = sna n d k := by
  unfold sna
  rw [scale_nea hy, (scale_div hy).1]
theorem scale_cmp (n d y : Int) : icmp (n * (d * y)) (n * y * d) = 0 := icmp_eq (by rw [Int.mul_assoc, Int.mul_comm y d])
set_option maxHeartbeats 2000000 in
set_option maxRecDepth 100000 in
theorem scales_bad (n d y k : Int) (w : World) (hbad : d ≤ 0 ∨ y ≤ 0 ∨ k < 0 ∨ 100 < k) :
    Calls Try.prog 8 #[.agg #[.int .i32 n, .int .i32 d], .int .i32 y, .int .i64 k] w (RV (.bool true) w) := by
  have hcs : decide (d ≤ 0) = true ∨ (decide (d ≤ 0) = false ∧ decide (y ≤ 0) = true) ∨ (decide (d ≤ 0) = false ∧ decide (y ≤ 0) = false ∧ decide (k < 0) = true) ∨ (decide (d ≤ 0) = false ∧ decide (y ≤ 0) = false ∧ decide (k < 0) = false ∧ decide (100 < k) = true) := by
    simp only [decide_eq_true_eq, decide_eq_false_iff_not]
    omega
  clear hbad
  rcases hcs with q1 | ⟨q1, q2⟩ | ⟨q1, q2, q3⟩ | ⟨q1, q2, q3, q4⟩
  all_goals
    go_enter Try.func8, Try.ntmps8
    go_wp2_with fail
    have Z0 : Box (w.alloc (.cells #[.int .i32 n, .int .i32 d] 60)).drew w.heap.size (.int .i32 n) (.int .i32 d) := (by (repeat (first | with_reducible assumption | (focus ((with_reducible refine Box.new ?_); simp; done)) | (focus ((with_reducible refine Box4.new ?_); simp; done)) | (with_reducible refine Box.alloc ?_ _) | (with_reducible refine Box4.alloc ?_ _) | (with_reducible refine Box.drew ?_) | (with_reducible refine Box4.drew ?_) | (with_reducible refine Box.put ?_) | (focus ((with_reducible refine Box.set ?_ _ ?_); rotate_left; omega)) | (focus ((with_reducible refine Box4.set ?_ _ ?_); rotate_left; omega)) | (focus ((with_reducible apply HasBox.of); with_reducible assumption)) | (focus ((with_reducible refine HasBox.new ?_); simp; done)) | (with_reducible refine HasBox.set ?_ _ _) | (with_reducible refine HasBox.drew ?_) | (with_reducible refine HasBox.alloc ?_ _))))
    have bl : Below w.heap.size w (w.alloc (.cells #[.int .i32 n, .int .i32 d] 60)).drew := (by (repeat (first | (with_reducible exact Below.refl _ _) | with_reducible assumption | (with_reducible refine below_alloc ?_ _) | (focus ((with_reducible refine below_set ?_ _ _ _ ?_); rotate_left; omega)) | (with_reducible refine Below.drew ?_))))
    go_region_held3 (fun w' => w'.cell? ⟨w.heap.size, 0, none⟩ = some (.int .i32 n) ∧ w'.cell? ⟨w.heap.size, 1, none⟩ = some (.int .i32 d)) (first | ((refine Box.both ?_); ((repeat (first | with_reducible assumption | (focus ((with_reducible refine Box.new ?_); simp; done)) | (focus ((with_reducible refine Box4.new ?_); simp; done)) | (with_reducible refine Box.alloc ?_ _) | (with_reducible refine Box4.alloc ?_ _) | (with_reducible refine Box.drew ?_) | (with_reducible refine Box4.drew ?_) | (with_reducible refine Box.put ?_) | (focus ((with_reducible refine Box.set ?_ _ ?_); rotate_left; omega)) | (focus ((with_reducible refine Box4.set ?_ _ ?_); rotate_left; omega)) | (focus ((with_reducible apply HasBox.of); with_reducible assumption)) | (focus ((with_reducible refine HasBox.new ?_); simp; done)) | (with_reducible refine HasBox.set ?_ _ _) | (with_reducible refine HasBox.drew ?_) | (with_reducible refine HasBox.alloc ?_ _))); done)) | go_keep) (fail)
    all_goals
      go_wp2_with fail
      refine (alive_any _).mono ?_
      rintro e wz ⟨rfl, hbz⟩
      go_wp2_with fail
      go_ret
      exact ⟨rfl, by (repeat (first | (with_reducible exact Below.refl _ _) | with_reducible assumption | (with_reducible refine below_alloc ?_ _) | (focus ((with_reducible refine below_set ?_ _ _ _ ?_); rotate_left; omega)) | (with_reducible refine Below.drew ?_) | (with_reducible refine below_call ?_ hbz)))⟩
set_option maxHeartbeats 4000000 in
set_option maxRecDepth 100000 in
theorem scales_good (n d y : Int) (k : Nat) (w : World) (n0 : -2147483648 ≤ n) (n1 : n < 2147483648) (d0 : 0 < d) (d1 : d < 2147483648) (y0 : 0 < y) (y1 : y < 2147483648) (hk : k ≤ 100) :
    Calls Try.prog 8 #[.agg #[.int .i32 n, .int .i32 d], .int .i32 y, .int .i64 k] w (RV (.bool true) w) := by
  have O1 := Lib.hid (fun w => Of_any n w (by omega) (by omega))
  have O2 := Lib.hid (fun w => Of_any d w (by omega) (by omega))
  have T1 := Lib.hid (fun w => Times_any n y w (by omega) (by omega) (by omega) (by omega))
  have T2 := Lib.hid (fun w => Times_any d y w (by omega) (by omega) (by omega) (by omega))
  have DY := Int.mul_pos d0 y0
  have S1 : Hid (∀ a b a' b' w, IsW a b n → IsW a' b' d → Calls Try.prog 27 #[.agg #[.int .i64 a, .int .u64 b, .int .i64 a', .int .u64 b'], .int .i64 k] w (RWT (sna n d k) w)) := fun a b a' b' w p q => Snap_yes a b n a' b' d k w p q d0 hk
  have S2 : Hid (∀ a b a' b' w, IsW a b (n * y) → IsW a' b' (d * y) → Calls Try.prog 27 #[.agg #[.int .i64 a, .int .u64 b, .int .i64 a', .int .u64 b'], .int .i64 k] w (RWT (sna n d k) w)) := fun a b a' b' w p q => by have := Snap_yes a b (n * y) a' b' (d * y) k w p q DY hk; rw [scale_sna k y0] at this; exact this
  have C1 : Hid (∀ a b a' b' x z x' z' w, IsW a b n → IsW a' b' d → IsW x z (n * y) → IsW x' z' (d * y) → Calls Try.prog 20 #[.agg #[.int .i64 a, .int .u64 b, .int .i64 a', .int .u64 b'], .agg #[.int .i64 x, .int .u64 z, .int .i64 x', .int .u64 z']] w (RV (.int .i64 0) w)) := fun a b a' b' x z x' z' w p q r s => by have := fCmp_yes a b n a' b' d x z (n * y) x' z' (d * y) w p q r s d0 DY; rw [scale_cmp] at this; exact this
  have L1 : Hid (∀ a b a' b' w, IsW a b n → IsW a' b' d → Calls Try.prog 24 #[.agg #[.int .i64 a, .int .u64 b, .int .i64 a', .int .u64 b']] w (RW (n / d) w)) := fun a b a' b' w p q => Floor_yes a b n a' b' d w p q d0
  have L2 : Hid (∀ a b a' b' w, IsW a b (n * y) → IsW a' b' (d * y) → Calls Try.prog 24 #[.agg #[.int .i64 a, .int .u64 b, .int .i64 a', .int .u64 b']] w (RW (n / d) w)) := fun a b a' b' w p q => by have := Floor_yes a b (n * y) a' b' (d * y) w p q DY; rw [(scale_div y0).1] at this; exact this
  generalize sna n d k = SN at S1 S2
  generalize n / d = FL at L1 L2
  generalize n * y = NY at *
  generalize d * y = DD at *
  have q1 : decide (d ≤ 0) = false := decide_eq_false (by omega)
  have q2 : decide (y ≤ 0) = false := decide_eq_false (by omega)
  have q3 : decide ((k : Int) < 0) = false := decide_eq_false (by omega)
  have q4 : decide (100 < (k : Int)) = false := decide_eq_false (by omega)
  go_enter Try.func8, Try.ntmps8
  go_wp2_with fail
  have Z0 : Box (w.alloc (.cells #[.int .i32 n, .int .i32 d] 60)).drew w.heap.size (.int .i32 n) (.int .i32 d) := (by (repeat (first | with_reducible assumption | (focus ((with_reducible refine Box.new ?_); simp; done)) | (focus ((with_reducible refine Box4.new ?_); simp; done)) | (with_reducible refine Box.alloc ?_ _) | (with_reducible refine Box4.alloc ?_ _) | (with_reducible refine Box.drew ?_) | (with_reducible refine Box4.drew ?_) | (with_reducible refine Box.put ?_) | (focus ((with_reducible refine Box.set ?_ _ ?_); rotate_left; omega)) | (focus ((with_reducible refine Box4.set ?_ _ ?_); rotate_left; omega)) | (focus ((with_reducible apply HasBox.of); with_reducible assumption)) | (focus ((with_reducible refine HasBox.new ?_); simp; done)) | (with_reducible refine HasBox.set ?_ _ _) | (with_reducible refine HasBox.drew ?_) | (with_reducible refine HasBox.alloc ?_ _))))
  go_region_held3 (fun w' => w'.cell? ⟨w.heap.size, 0, none⟩ = some (.int .i32 n) ∧ w'.cell? ⟨w.heap.size, 1, none⟩ = some (.int .i32 d)) (first | ((refine Box.both ?_); ((repeat (first | with_reducible assumption | (focus ((with_reducible refine Box.new ?_); simp; done)) | (focus ((with_reducible refine Box4.new ?_); simp; done)) | (with_reducible refine Box.alloc ?_ _) | (with_reducible refine Box4.alloc ?_ _) | (with_reducible refine Box.drew ?_) | (with_reducible refine Box4.drew ?_) | (with_reducible refine Box.put ?_) | (focus ((with_reducible refine Box.set ?_ _ ?_); rotate_left; omega)) | (focus ((with_reducible refine Box4.set ?_ _ ?_); rotate_left; omega)) | (focus ((with_reducible apply HasBox.of); with_reducible assumption)) | (focus ((with_reducible refine HasBox.new ?_); simp; done)) | (with_reducible refine HasBox.set ?_ _ _) | (with_reducible refine HasBox.drew ?_) | (with_reducible refine HasBox.alloc ?_ _))); done)) | go_keep) (fail)
  clear Z0
  go_wp2_with fail
  refine (O1.out _).mono ?_
  rintro e w1 ⟨na, nb, rfl, hn, hb1⟩
  go_wp2_with fail
  refine (O2.out _).mono ?_
  rintro e w2 ⟨da, db, rfl, hd, hb2⟩
  go_wp2_with fail
  refine (T1.out _).mono ?_
  rintro e w3 ⟨ma, mb, rfl, hm, hb3⟩
  go_wp2_with fail
  refine (T2.out _).mono ?_
  rintro e w4 ⟨ea, eb, rfl, he, hb4⟩
  have A4 : HeldF w [(w2.heap.size, .int .i64 na, .int .u64 nb, .int .i64 da, .int .u64 db)] [] w4 := (⟨fun p hp => (by cases hp), fun p hp => (by cases hp), (by (repeat (first | (with_reducible exact Below.refl _ _) | with_reducible assumption | (with_reducible refine below_alloc ?_ _) | (focus ((with_reducible refine below_set ?_ _ _ _ ?_); rotate_left; omega)) | (with_reducible refine Below.drew ?_) | (with_reducible refine below_call ?_ hb4) | (with_reducible refine below_call ?_ hb3) | (with_reducible refine below_call ?_ hb2) | (with_reducible refine below_call ?_ hb1))))⟩ : HeldF w [] [] _).add4 (by (repeat (first | with_reducible assumption | (focus ((with_reducible refine Box.new ?_); simp; done)) | (focus ((with_reducible refine Box4.new ?_); simp; done)) | (with_reducible refine Box.alloc ?_ _) | (with_reducible refine Box4.alloc ?_ _) | (with_reducible refine Box.drew ?_) | (with_reducible refine Box4.drew ?_) | (with_reducible refine Box.put ?_) | (focus ((with_reducible refine Box.set ?_ _ ?_); rotate_left; omega)) | (focus ((with_reducible refine Box4.set ?_ _ ?_); rotate_left; omega)) | (focus ((with_reducible apply HasBox.of); with_reducible assumption)) | (focus ((with_reducible refine HasBox.new ?_); simp; done)) | (with_reducible refine HasBox.set ?_ _ _) | (with_reducible refine HasBox.drew ?_) | (with_reducible refine HasBox.alloc ?_ _) | (with_reducible refine Box.call ?_ hb4) | (with_reducible refine Box4.call ?_ hb4) | (with_reducible refine HasBox.call ?_ hb4) | (with_reducible refine Box.call ?_ hb3) | (with_reducible refine Box4.call ?_ hb3) | (with_reducible refine HasBox.call ?_ hb3))))
  clear hb1 hb2 hb3 hb4
  have l1 := A4.x4.lt; have l2 := Nat.ne_of_lt A4.x4.lt; have l3 := Nat.ne_of_gt A4.x4.lt
  obtain ⟨⟨x0, x1, x2, x3⟩, x4⟩ := id A4.x4
  have A5 := (A4.alloc (.cells #[.int .i64 ma, .int .u64 mb, .int .i64 ea, .int .u64 eb] 26)).add4 (Box4.new (u := .int .i64 ma) (v := .int .u64 mb) (x := .int .i64 ea) (y := .int .u64 eb) (t := 26) rfl)
  clear A4
  go_wp2_with fail
  refine (S1.out _ _ _ _ _ hn hd).mono ?_
  rintro e w5 ⟨sa, sb, rfl, hs, hb5⟩
  have A6 := A5.call hb5
  clear hb5 x0 x1 x2 x3 x4 l1 l2 l3 A5
  have l1 := A6.x4.lt; have l2 := Nat.ne_of_lt A6.x4.lt; have l3 := Nat.ne_of_gt A6.x4.lt
  obtain ⟨⟨x0, x1, x2, x3⟩, x4⟩ := id A6.x4
  have A7 := (A6.alloc (.cells #[.int .i64 sa, .int .u64 sb] 24)).add2 (Box.new (u := .int .i64 sa) (v := .int .u64 sb) (t := 24) rfl)
  clear A6
  go_wp2_with fail
  refine (S2.out _ _ _ _ _ hm he).mono ?_
  rintro e w6 ⟨ta, tb, rfl, ht, hb6⟩
  have A8 := A7.call hb6
  clear hb6 x0 x1 x2 x3 x4 l1 l2 l3 A7
  have A0 := ((A8.alloc (.cells #[.int .i64 ta, .int .u64 tb] 24)).add2 (Box.new (u := .int .i64 ta) (v := .int .u64 tb) (t := 24) rfl)).drew
  clear A8
  have ES := eq_of hs ht
  go_wp2_with fail
  go_region_held3 (fun w' => (w'.cell? ⟨w4.heap.size, 0, none⟩ = some (.int .i64 ma) ∧ w'.cell? ⟨w4.heap.size, 1, none⟩ = some (.int .u64 mb) ∧ w'.cell? ⟨w4.heap.size, 2, none⟩ = some (.int .i64 ea) ∧ w'.cell? ⟨w4.heap.size, 3, none⟩ = some (.int .u64 eb)) ∧ (w'.cell? ⟨w2.heap.size, 0, none⟩ = some (.int .i64 na) ∧ w'.cell? ⟨w2.heap.size, 1, none⟩ = some (.int .u64 nb) ∧ w'.cell? ⟨w2.heap.size, 2, none⟩ = some (.int .i64 da) ∧ w'.cell? ⟨w2.heap.size, 3, none⟩ = some (.int .u64 db)) ∧ (w'.cell? ⟨w6.heap.size, 0, none⟩ = some (.int .i64 ta) ∧ w'.cell? ⟨w6.heap.size, 1, none⟩ = some (.int .u64 tb)) ∧ (w'.cell? ⟨w5.heap.size, 0, none⟩ = some (.int .i64 sa) ∧ w'.cell? ⟨w5.heap.size, 1, none⟩ = some (.int .u64 sb)))
    (first | with_reducible exact ⟨A4.x4.cs, A4.t4.x4.cs, A4.x2.both, A4.t2.x2.both⟩ | with_reducible exact ⟨A3.x4.cs, A3.t4.x4.cs, A3.x2.both, A3.t2.x2.both⟩ | with_reducible exact ⟨A2.x4.cs, A2.t4.x4.cs, A2.x2.both, A2.t2.x2.both⟩ | with_reducible exact ⟨A1.x4.cs, A1.t4.x4.cs, A1.x2.both, A1.t2.x2.both⟩ | with_reducible exact ⟨A0.x4.cs, A0.t4.x4.cs, A0.x2.both, A0.t2.x2.both⟩)
    (first
      | (go_at_call 17; ((with_reducible refine (alive_any _).mono ?_); rintro e r1 ⟨rfl, hb⟩; have A1 := A0.call hb; clear hb))
      | (go_at_call 20; ((with_reducible refine (C1.out _ _ _ _ _ _ _ _ _ hn hd hm he).mono ?_); rintro e r2 ⟨rfl, hb⟩; have A2 := A1.call hb; clear hb))
      | (go_at_call 24; ((with_reducible refine (L1.out _ _ _ _ _ hn hd).mono ?_); rintro e r3 ⟨fa, fb, rfl, hf, hb⟩; have A3 := A2.call hb; clear hb))
      | (go_at_call 24; ((with_reducible refine (L2.out _ _ _ _ _ hm he).mono ?_); rintro e r4 ⟨ga, gb, rfl, hg, hb⟩; have A4 := A3.call hb; clear hb; have EF := eq_of hf hg)))
  all_goals
    go_wp2_with fail
    go_ret
    exact ⟨rfl, A4.below⟩
theorem fscales_walk (n d y k : Int) (w : World) (n0 : -2147483648 ≤ n) (n1 : n < 2147483648) (d0 : -2147483648 ≤ d) (d1 : d < 2147483648) (y0 : -2147483648 ≤ y) (y1 : y < 2147483648) (k0 : -9223372036854775808 ≤ k) (k1 : k < 9223372036854775808) :
    Calls Try.prog 8 #[.agg #[.int .i32 n, .int .i32 d], .int .i32 y, .int .i64 k] w (RV (.bool true) w) := by
  by_cases h : d ≤ 0 ∨ y ≤ 0 ∨ k < 0 ∨ 100 < k
  · exact scales_bad n d y k w h
  · obtain ⟨j, rfl⟩ := Int.eq_ofNat_of_zero_le (show 0 ≤ k by omega)
    exact scales_good n d y j w n0 n1 (by omega) d1 (by omega) y1 (by omega)
end Go.Proofs.Ytdmjccbpghilcaa
