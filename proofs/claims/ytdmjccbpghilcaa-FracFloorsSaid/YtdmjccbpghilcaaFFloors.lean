/-
  cobweblaw02.FracFloors returns true, for every fraction. My own text.
-/
import Derived.Test.YtdmjccbpghilcaaFOrders
import Derived.Deep.DeepCutAuto
namespace Go.Proofs.Ytdmjccbpghilcaa
open Go.RowKit
set_option linter.unusedVariables false
set_option linter.unusedSimpArgs false
attribute [local go_sem ↓] Go.wp_at_zero Go.wp_at_succ

set_option maxHeartbeats 1000000 in
set_option maxRecDepth 100000 in
theorem r2Floor_any (x y : Bool) (A B : Option Addr) (l c m f : Nat) (n d : Int) (w : World) (h0 : IsN w x A l c n) (g0 : IsN w y B m f d) (hd : 0 < d) (hl : l ≤ 400) (hm : m ≤ 400) :
    Calls Try.prog 25 #[.agg #[.bool x, .slice A l c, .bool y, .slice B m f]] w (RN (n / d) w) := by
  have X0 := (h0.alloc (.cells #[.bool x, .slice A l c, .bool y, .slice B m f] 46)).alloc (.cells #[.bool false, .slice none 0 0] 31)
  have X1 := (g0.alloc (.cells #[.bool x, .slice A l c, .bool y, .slice B m f] 46)).alloc (.cells #[.bool false, .slice none 0 0] 31)
  go_enter Try.func25, Try.ntmps25
  go_wp2_with (go_at_call 41; ((with_reducible refine (rDiv_any _ _ _ _ _ _ _ _ _ _ _ X0 X1 hd hl hm).mono ?_); rintro e w1 ⟨x1, A1, l1, c1, x2, A2, l2, c2, rfl, k1, k2, hb⟩; have B_w1_0 : Box w1 (w.heap.size + 1) (.bool false) (.slice none 0 0) := (by (repeat (first | with_reducible assumption | (focus ((with_reducible refine Box.new ?_); simp; done)) | (with_reducible refine Box.alloc ?_ _) | (with_reducible refine Box.drew ?_) | (with_reducible refine Box.put ?_) | (focus ((with_reducible refine Box.set ?_ _ ?_); rotate_left; omega)) | (focus ((with_reducible apply HasBox.of); with_reducible assumption)) | (focus ((with_reducible refine HasBox.new ?_); simp; done)) | (with_reducible refine HasBox.set ?_ _ _) | (with_reducible refine HasBox.drew ?_) | (with_reducible refine HasBox.alloc ?_ _) | (with_reducible refine Box.call ?_ hb) | (with_reducible refine HasBox.call ?_ hb)))); obtain ⟨⟨c_w1_0, d_w1_0⟩, f_w1_0, g_w1_0⟩ := id B_w1_0; have hz_hb := Below.size hb; (try simp at hz_hb); have ne_hb_0 : ¬ w1.heap.size = w.heap.size := (by omega); have ne_hb_1 : ¬ w1.heap.size = w.heap.size + 1 := (by omega); have en_hb_0 : ¬ w.heap.size = w1.heap.size := (by omega); have en_hb_1 : ¬ w.heap.size + 1 = w1.heap.size := (by omega); have lt_hb_0 : w.heap.size < w1.heap.size := (by omega); have lt_hb_1 : w.heap.size + 1 < w1.heap.size := (by omega)))
  refine bodyPost_ret (v := .agg #[.bool x1, .slice A1 l1 c1]) (by simp only [results, Try.results25]; go_simp) rfl ⟨_, _, _, _, rfl, ?_, ?_⟩
  · (repeat (first | with_reducible assumption | (with_reducible refine IsN.alloc ?_ _) | (with_reducible refine IsN.drew ?_) | (with_reducible refine IsN.put ?_ ?_) | (with_reducible refine HasBB.put ?_) | (focus ((with_reducible apply HasBB.of); with_reducible assumption)) | (focus ((with_reducible refine HasBB.new ?_); simp; done)) | (with_reducible refine HasBB.drew ?_) | (with_reducible refine HasBB.alloc ?_ _) | (focus ((with_reducible refine HasBB.set ?_ _ ?_); rotate_left; omega)) | (with_reducible refine IsN.call ?_ hb) | (with_reducible refine HasBB.call ?_ hb)))
  · (repeat (first | (with_reducible exact Below.refl _ _) | with_reducible assumption | (with_reducible refine below_alloc ?_ _) | (focus ((with_reducible refine below_set ?_ _ _ _ ?_); rotate_left; omega)) | (with_reducible refine Below.drew ?_) | (with_reducible refine below_call ?_ hb)))
/-- what the walk holds on to: the fraction, and its whole part. -/
structure FlW (w : World) (g : Nat) (a b c d s t : Int) (W : World) : Prop where
  f : Box4 W w.heap.size (.int .i64 a) (.int .u64 b) (.int .i64 c) (.int .u64 d)
  s : Box W g (.int .i64 s) (.int .u64 t)
  below : Below w.heap.size w W
section
variable {w W w1 : World} {g : Nat} {a b c d s t : Int}
theorem FlW.call (h : FlW w g a b c d s t W) (hb : Below W.heap.size W w1) : FlW w g a b c d s t w1 := ⟨h.f.call hb, h.s.call hb, below_call h.below hb⟩
theorem FlW.k (h : FlW w g a b c d s t W) : (W.cell? ⟨w.heap.size, 0, none⟩ = some (.int .i64 a) ∧ W.cell? ⟨w.heap.size, 1, none⟩ = some (.int .u64 b) ∧ W.cell? ⟨w.heap.size, 2, none⟩ = some (.int .i64 c) ∧ W.cell? ⟨w.heap.size, 3, none⟩ = some (.int .u64 d)) ∧ (W.cell? ⟨g, 0, none⟩ = some (.int .i64 s) ∧ W.cell? ⟨g, 1, none⟩ = some (.int .u64 t)) := ⟨h.f.1, h.s.1⟩
end
set_option maxHeartbeats 4000000 in
set_option maxRecDepth 100000 in
theorem floors_no (a b n c d m : Int) (w : World) (H : IsW a b n) (G : IsW c d m) (hm : ¬ 0 < m) :
    Calls Try.prog 5 #[.agg #[.int .i64 a, .int .u64 b, .int .i64 c, .int .u64 d]] w (RV (.bool true) w) := by
  have C0 := Lib.hid (fun w => Floor_no a b n c d m w H G (by omega))
  have S0 := Lib.hid (fun w => Sign_any c d m w G)
  have R0 : Hid (∀ w, Calls Try.prog 16 #[.agg #[.int .i64 a, .int .u64 b, .int .i64 c, .int .u64 d]] w (RV (.bool false) w)) := fun w => by have := Right_any a b c d m w G; rw [decide_eq_false hm] at this; exact this
  have i0 := icmp_le hm
  generalize icmp m 0 = s at *
  go_enter Try.func5, Try.ntmps5
  go_wp2_with fail
  refine (C0.out _).mono ?_
  rintro e w1 ⟨fa, fb, rfl, hf, hb1⟩
  have e0 : eqW fa fb 0 0 = true := eq_of hf isW0
  have Q1 : Box4 w1 w.heap.size (.int .i64 a) (.int .u64 b) (.int .i64 c) (.int .u64 d) := (by (repeat (first | with_reducible assumption | (focus ((with_reducible refine Box.new ?_); simp; done)) | (focus ((with_reducible refine Box4.new ?_); simp; done)) | (with_reducible refine Box.alloc ?_ _) | (with_reducible refine Box4.alloc ?_ _) | (with_reducible refine Box.drew ?_) | (with_reducible refine Box4.drew ?_) | (with_reducible refine Box.put ?_) | (focus ((with_reducible refine Box.set ?_ _ ?_); rotate_left; omega)) | (focus ((with_reducible refine Box4.set ?_ _ ?_); rotate_left; omega)) | (focus ((with_reducible apply HasBox.of); with_reducible assumption)) | (focus ((with_reducible refine HasBox.new ?_); simp; done)) | (with_reducible refine HasBox.set ?_ _ _) | (with_reducible refine HasBox.drew ?_) | (with_reducible refine HasBox.alloc ?_ _) | (with_reducible refine Box.call ?_ hb1) | (with_reducible refine Box4.call ?_ hb1) | (with_reducible refine HasBox.call ?_ hb1))))
  have l1 := Q1.lt; have m1 := Nat.ne_of_lt Q1.lt; have n1 := Nat.ne_of_gt Q1.lt
  obtain ⟨⟨x0, x1, x2, x3⟩, x4⟩ := id Q1
  have Z0 : FlW w w1.heap.size a b c d fa fb (w1.alloc (.cells #[.int .i64 fa, .int .u64 fb] 24)) := ⟨(by (repeat (first | with_reducible assumption | (focus ((with_reducible refine Box.new ?_); simp; done)) | (focus ((with_reducible refine Box4.new ?_); simp; done)) | (with_reducible refine Box.alloc ?_ _) | (with_reducible refine Box4.alloc ?_ _) | (with_reducible refine Box.drew ?_) | (with_reducible refine Box4.drew ?_) | (with_reducible refine Box.put ?_) | (focus ((with_reducible refine Box.set ?_ _ ?_); rotate_left; omega)) | (focus ((with_reducible refine Box4.set ?_ _ ?_); rotate_left; omega)) | (focus ((with_reducible apply HasBox.of); with_reducible assumption)) | (focus ((with_reducible refine HasBox.new ?_); simp; done)) | (with_reducible refine HasBox.set ?_ _ _) | (with_reducible refine HasBox.drew ?_) | (with_reducible refine HasBox.alloc ?_ _) | (with_reducible refine Box.call ?_ hb1) | (with_reducible refine Box4.call ?_ hb1) | (with_reducible refine HasBox.call ?_ hb1)))), (by (repeat (first | with_reducible assumption | (focus ((with_reducible refine Box.new ?_); simp; done)) | (focus ((with_reducible refine Box4.new ?_); simp; done)) | (with_reducible refine Box.alloc ?_ _) | (with_reducible refine Box4.alloc ?_ _) | (with_reducible refine Box.drew ?_) | (with_reducible refine Box4.drew ?_) | (with_reducible refine Box.put ?_) | (focus ((with_reducible refine Box.set ?_ _ ?_); rotate_left; omega)) | (focus ((with_reducible refine Box4.set ?_ _ ?_); rotate_left; omega)) | (focus ((with_reducible apply HasBox.of); with_reducible assumption)) | (focus ((with_reducible refine HasBox.new ?_); simp; done)) | (with_reducible refine HasBox.set ?_ _ _) | (with_reducible refine HasBox.drew ?_) | (with_reducible refine HasBox.alloc ?_ _)))), (by (repeat (first | (with_reducible exact Below.refl _ _) | with_reducible assumption | (with_reducible refine below_alloc ?_ _) | (focus ((with_reducible refine below_set ?_ _ _ _ ?_); rotate_left; omega)) | (with_reducible refine Below.drew ?_) | (with_reducible refine below_call ?_ hb1))))⟩
  clear hb1
  go_wp2_with fail
  refine (S0.out _).mono ?_
  rintro e w2 ⟨rfl, hb2⟩
  replace Z0 := Z0.call hb2
  clear hb2 x0 x1 x2 x3 x4
  obtain ⟨⟨x0, x1, x2, x3⟩, x4, x5⟩ := Z0.k
  go_wp2_with fail
  refine (alive_any _).mono ?_
  rintro e w3 ⟨rfl, hb3⟩
  replace Z0 := Z0.call hb3
  clear hb3 x0 x1 x2 x3 x4 x5
  obtain ⟨⟨x0, x1, x2, x3⟩, x4, x5⟩ := Z0.k
  go_wp2_with fail
  refine (R0.out _).mono ?_
  rintro e w4 ⟨rfl, hb4⟩
  replace Z0 := Z0.call hb4
  go_wp2_with fail
  go_ret
  exact ⟨rfl, Z0.below⟩
/-- the next whole number, in a new block. -/
def FlC (w : World) (gf : Nat) (a b c d s t : Int) (Z : Int) (u v : Value) (W : World) : Prop := ∃ g ga gb, u = .pointer (some ⟨g, 0, none⟩) ∧ v = .bool (fits Z) ∧ IsW ga gb (if fits Z then Z else 0) ∧ Box W g (.int .i64 ga) (.int .u64 gb) ∧ FlW w gf a b c d s t W
structure FlG (w : World) (g gf : Nat) (a b c d s t x y : Int) (W : World) : Prop where
  f : Box4 W w.heap.size (.int .i64 a) (.int .u64 b) (.int .i64 c) (.int .u64 d)
  g : Box W g (.int .i64 x) (.int .u64 y)
  below : Below w.heap.size w W
theorem FlG.call {w W w1 : World} {g gf : Nat} {a b c d s t x y : Int} (h : FlG w g gf a b c d s t x y W) (hb : Below W.heap.size W w1) : FlG w g gf a b c d s t x y w1 := ⟨h.f.call hb, h.g.call hb, below_call h.below hb⟩
theorem FlG.k {w W : World} {g gf : Nat} {a b c d s t x y : Int} (h : FlG w g gf a b c d s t x y W) : (W.cell? ⟨w.heap.size, 0, none⟩ = some (.int .i64 a) ∧ W.cell? ⟨w.heap.size, 1, none⟩ = some (.int .u64 b) ∧ W.cell? ⟨w.heap.size, 2, none⟩ = some (.int .i64 c) ∧ W.cell? ⟨w.heap.size, 3, none⟩ = some (.int .u64 d)) ∧ (W.cell? ⟨g, 0, none⟩ = some (.int .i64 x) ∧ W.cell? ⟨g, 1, none⟩ = some (.int .u64 y)) := ⟨h.f.1, h.g.1⟩
set_option maxHeartbeats 4000000 in
set_option maxRecDepth 100000 in
theorem floors_yes (a b n c d m : Int) (w : World) (H : IsW a b n) (G : IsW c d m) (hm : 0 < m) :
    Calls Try.prog 5 #[.agg #[.int .i64 a, .int .u64 b, .int .i64 c, .int .u64 d]] w (RV (.bool true) w) := by
  have C0 := Lib.hid (fun w => Floor_yes a b n c d m w H G hm)
  have S0 := Lib.hid (fun w => Sign_any c d m w G)
  have F0 := Lib.hid H.fits; have F1 := Lib.hid G.fits
  have HM := Lib.hid hm
  have i0 := icmp_up hm
  have h0 := Int.emod_nonneg n (show m ≠ 0 by omega); have h1 := Int.emod_lt_of_pos n hm
  have h2 := Int.mul_ediv_add_emod n m
  have lo : icmp (n / m * m) (n * 1) ≤ 0 := by
    have : n / m * m ≤ n * 1 := by rw [Int.mul_comm (n / m) m]; omega
    unfold icmp; repeat' split
    all_goals omega
  have hi : icmp ((n / m + 1) * m) (n * 1) = 1 := icmp_gt (by rw [Int.add_mul, Int.mul_comm (n / m) m]; omega)
  have C1 : Hid (∀ x y z t w, IsW x y (n / m) → IsW z t 1 → Calls Try.prog 20 #[.agg #[.int .i64 x, .int .u64 y, .int .i64 z, .int .u64 t], .agg #[.int .i64 a, .int .u64 b, .int .i64 c, .int .u64 d]] w (RV (.int .i64 (icmp (n / m * m) (n * 1))) w)) := fun x y z t w p q => fCmp_yes x y _ z t 1 a b n c d m w p q H G (by omega) hm
  have C2 : Hid (∀ x y z t w, IsW x y (n / m + 1) → IsW z t 1 → Calls Try.prog 20 #[.agg #[.int .i64 x, .int .u64 y, .int .i64 z, .int .u64 t], .agg #[.int .i64 a, .int .u64 b, .int .i64 c, .int .u64 d]] w (RV (.int .i64 1) w)) := fun x y z t w p q => by have := fCmp_yes x y _ z t 1 a b n c d m w p q H G (by omega) hm; rw [hi] at this; exact this
  generalize icmp m 0 = s at *
  generalize icmp (n / m * m) (n * 1) = c1 at *
  have dl : decide (0 < c1) = false := decide_eq_false (by omega)
  clear h0 h1 h2 hi
  go_enter Try.func5, Try.ntmps5
  go_wp2_with fail
  refine (C0.out _).mono ?_
  rintro e w1 ⟨fa, fb, rfl, hf, hb1⟩
  have FQ := Lib.hid hf.fits
  have Q1 : Box4 w1 w.heap.size (.int .i64 a) (.int .u64 b) (.int .i64 c) (.int .u64 d) := (by (repeat (first | with_reducible assumption | (focus ((with_reducible refine Box.new ?_); simp; done)) | (focus ((with_reducible refine Box4.new ?_); simp; done)) | (with_reducible refine Box.alloc ?_ _) | (with_reducible refine Box4.alloc ?_ _) | (with_reducible refine Box.drew ?_) | (with_reducible refine Box4.drew ?_) | (with_reducible refine Box.put ?_) | (focus ((with_reducible refine Box.set ?_ _ ?_); rotate_left; omega)) | (focus ((with_reducible refine Box4.set ?_ _ ?_); rotate_left; omega)) | (focus ((with_reducible apply HasBox.of); with_reducible assumption)) | (focus ((with_reducible refine HasBox.new ?_); simp; done)) | (with_reducible refine HasBox.set ?_ _ _) | (with_reducible refine HasBox.drew ?_) | (with_reducible refine HasBox.alloc ?_ _) | (with_reducible refine Box.call ?_ hb1) | (with_reducible refine Box4.call ?_ hb1) | (with_reducible refine HasBox.call ?_ hb1))))
  have l1 := Q1.lt; have m1 := Nat.ne_of_lt Q1.lt; have n1 := Nat.ne_of_gt Q1.lt
  obtain ⟨⟨x0, x1, x2, x3⟩, x4⟩ := id Q1
  have Z0 : FlW w w1.heap.size a b c d fa fb (w1.alloc (.cells #[.int .i64 fa, .int .u64 fb] 24)) := ⟨(by (repeat (first | with_reducible assumption | (focus ((with_reducible refine Box.new ?_); simp; done)) | (focus ((with_reducible refine Box4.new ?_); simp; done)) | (with_reducible refine Box.alloc ?_ _) | (with_reducible refine Box4.alloc ?_ _) | (with_reducible refine Box.drew ?_) | (with_reducible refine Box4.drew ?_) | (with_reducible refine Box.put ?_) | (focus ((with_reducible refine Box.set ?_ _ ?_); rotate_left; omega)) | (focus ((with_reducible refine Box4.set ?_ _ ?_); rotate_left; omega)) | (focus ((with_reducible apply HasBox.of); with_reducible assumption)) | (focus ((with_reducible refine HasBox.new ?_); simp; done)) | (with_reducible refine HasBox.set ?_ _ _) | (with_reducible refine HasBox.drew ?_) | (with_reducible refine HasBox.alloc ?_ _) | (with_reducible refine Box.call ?_ hb1) | (with_reducible refine Box4.call ?_ hb1) | (with_reducible refine HasBox.call ?_ hb1)))), (by (repeat (first | with_reducible assumption | (focus ((with_reducible refine Box.new ?_); simp; done)) | (focus ((with_reducible refine Box4.new ?_); simp; done)) | (with_reducible refine Box.alloc ?_ _) | (with_reducible refine Box4.alloc ?_ _) | (with_reducible refine Box.drew ?_) | (with_reducible refine Box4.drew ?_) | (with_reducible refine Box.put ?_) | (focus ((with_reducible refine Box.set ?_ _ ?_); rotate_left; omega)) | (focus ((with_reducible refine Box4.set ?_ _ ?_); rotate_left; omega)) | (focus ((with_reducible apply HasBox.of); with_reducible assumption)) | (focus ((with_reducible refine HasBox.new ?_); simp; done)) | (with_reducible refine HasBox.set ?_ _ _) | (with_reducible refine HasBox.drew ?_) | (with_reducible refine HasBox.alloc ?_ _)))), (by (repeat (first | (with_reducible exact Below.refl _ _) | with_reducible assumption | (with_reducible refine below_alloc ?_ _) | (focus ((with_reducible refine below_set ?_ _ _ _ ?_); rotate_left; omega)) | (with_reducible refine Below.drew ?_) | (with_reducible refine below_call ?_ hb1))))⟩
  clear hb1
  go_wp2_with fail
  refine (S0.out _).mono ?_
  rintro e w2 ⟨rfl, hb2⟩
  have A0 := (Z0.call hb2).call ((Below.refl _ _).drew)
  clear hb2 x0 x1 x2 x3 x4 Z0 Q1
  go_wp2_with fail
  go_region_held3 (fun w' => (w'.cell? ⟨w.heap.size, 0, none⟩ = some (.int .i64 a) ∧ w'.cell? ⟨w.heap.size, 1, none⟩ = some (.int .u64 b) ∧ w'.cell? ⟨w.heap.size, 2, none⟩ = some (.int .i64 c) ∧ w'.cell? ⟨w.heap.size, 3, none⟩ = some (.int .u64 d)) ∧ (w'.cell? ⟨w1.heap.size, 0, none⟩ = some (.int .i64 fa) ∧ w'.cell? ⟨w1.heap.size, 1, none⟩ = some (.int .u64 fb)))
    (first | with_reducible exact A6.k | with_reducible exact A5.k | with_reducible exact A4.k | with_reducible exact A3.k | with_reducible exact A2.k | with_reducible exact A1.k | with_reducible exact A0.k)
    (first
      | (go_at_call 11; ((with_reducible refine (num_any _ _ _ _ hf).mono ?_); rintro e v1 ⟨x, X, l, k, rfl, j1, hb⟩; have A1 := A0.call hb; clear hb))
      | (go_at_call 23; ((with_reducible refine (Old_any _ _ _ _ _ _ _ H G).mono ?_); rintro e v2 ⟨y, Y, l', k', z, Z, l2, k2, rfl, j2, j3, hb⟩; have A2 := A1.call hb; replace j1 := j1.call hb; clear hb))
      | (go_at_call 25; ((with_reducible refine (r2Floor_any _ _ _ _ _ _ _ _ _ _ _ j2 j3 HM.out (lenF j2 F0.out (by omega)) (lenF j3 F1.out (by omega))).mono ?_); rintro e v3 ⟨u, U, l3, k3, rfl, j4, hb⟩; have A3 := A2.call hb; replace j1 := j1.call hb; clear hb))
      | (go_at_call 12; ((with_reducible refine (rCmp_any _ _ _ _ _ _ _ _ _ _ _ j1 j4 (lenF j1 FQ.out (by omega)) (lenF j4 FQ.out (by omega))).mono ?_); rintro e v4 ⟨rfl, hb⟩; rw [icmp_self]; have A4 := A3.call hb; clear hb))
      | (go_at_call 19; ((with_reducible refine (Of_any 1 _ (by omega) (by omega)).mono ?_); rintro e v5 ⟨oa, ob, rfl, ho, hb⟩; have A5 := A4.call hb; clear hb))
      | (go_at_call 20; ((with_reducible refine (C1.out _ _ _ _ _ hf ho).mono ?_); rintro e v6 ⟨rfl, hb⟩; have A6 := A5.call hb; clear hb)))
  go_upto_region 6 with fail
  have B6 := A6.f; have D6 := A6.s; have bl6 := A6.below
  have l6 := B6.lt; have l7 := D6.lt
  clear A0 A1 A2 A3 A4 A5 j1 j2 j3 j4 ho
  obtain ⟨⟨y0, y1, y2, y3⟩, y4, y5⟩ := A6.k
  go_cut [4, 5] (fun u v wx => FlC w w1.heap.size a b c d fa fb (n / m + 1) u v wx)
  case first =>
    clear A6
    go_region_held3 (fun w' => w'.cell? ⟨w1.heap.size, 0, none⟩ = some (.int .i64 fa) ∧ w'.cell? ⟨w1.heap.size, 1, none⟩ = some (.int .u64 fb)) (first | ((refine Box.both ?_); ((repeat (first | with_reducible assumption | (focus ((with_reducible refine Box.new ?_); simp; done)) | (focus ((with_reducible refine Box4.new ?_); simp; done)) | (with_reducible refine Box.alloc ?_ _) | (with_reducible refine Box4.alloc ?_ _) | (with_reducible refine Box.drew ?_) | (with_reducible refine Box4.drew ?_) | (with_reducible refine Box.put ?_) | (focus ((with_reducible refine Box.set ?_ _ ?_); rotate_left; omega)) | (focus ((with_reducible refine Box4.set ?_ _ ?_); rotate_left; omega)) | (focus ((with_reducible apply HasBox.of); with_reducible assumption)) | (focus ((with_reducible refine HasBox.new ?_); simp; done)) | (with_reducible refine HasBox.set ?_ _ _) | (with_reducible refine HasBox.drew ?_) | (with_reducible refine HasBox.alloc ?_ _) | (with_reducible refine Box.call ?_ hb8) | (with_reducible refine Box4.call ?_ hb8) | (with_reducible refine HasBox.call ?_ hb8) | (with_reducible refine Box.call ?_ hb7) | (with_reducible refine Box4.call ?_ hb7) | (with_reducible refine HasBox.call ?_ hb7))); done)) | go_keep)
      (first
        | (go_at_call 19; ((with_reducible refine (Of_any 1 _ (by omega) (by omega)).mono ?_); rintro e w7 ⟨oa, ob, rfl, ho, hb7⟩; have hy7 := Below.size hb7; (try simp at hy7)))
        | (go_at_call 26; ((with_reducible refine (Add_any _ _ _ _ _ _ _ hf ho).mono ?_); rintro e w8 ⟨ua, ub, rfl, hu, hb8⟩; have hy8 := Below.size hb8; (try simp at hy8); (try ((refine cutIn (p := Box w8 (v6.heap.size) (.int .i64 0) (.int .u64 0)) ?_ ?_); (repeat (first | with_reducible assumption | (focus ((with_reducible refine Box.new ?_); simp; done)) | (with_reducible refine Box.alloc ?_ _) | (with_reducible refine Box.drew ?_) | (with_reducible refine Box.put ?_) | (focus ((with_reducible refine Box.set ?_ _ ?_); rotate_left; omega)) | (focus ((with_reducible apply HasBox.of); with_reducible assumption)) | (focus ((with_reducible refine HasBox.new ?_); simp; done)) | (with_reducible refine HasBox.set ?_ _ _) | (with_reducible refine HasBox.drew ?_) | (with_reducible refine HasBox.alloc ?_ _) | (with_reducible refine Box.call ?_ hb8) | (with_reducible refine HasBox.call ?_ hb8) | (with_reducible refine Box.call ?_ hb7) | (with_reducible refine HasBox.call ?_ hb7))); intro B_w8x_0; obtain ⟨⟨c_w8x_0, d_w8x_0⟩, f_w8x_0, g_w8x_0⟩ := id B_w8x_0; have l_w8x_0 := Box.lt B_w8x_0; have n_w8x_0 := Nat.ne_of_gt (Box.lt B_w8x_0); have m_w8x_0 := Nat.ne_of_lt (Box.lt B_w8x_0))); (try ((refine cutIn (p := Box w8 (w7.heap.size) (.int .i64 0) (.int .u64 0)) ?_ ?_); (repeat (first | with_reducible assumption | (focus ((with_reducible refine Box.new ?_); simp; done)) | (with_reducible refine Box.alloc ?_ _) | (with_reducible refine Box.drew ?_) | (with_reducible refine Box.put ?_) | (focus ((with_reducible refine Box.set ?_ _ ?_); rotate_left; omega)) | (focus ((with_reducible apply HasBox.of); with_reducible assumption)) | (focus ((with_reducible refine HasBox.new ?_); simp; done)) | (with_reducible refine HasBox.set ?_ _ _) | (with_reducible refine HasBox.drew ?_) | (with_reducible refine HasBox.alloc ?_ _) | (with_reducible refine Box.call ?_ hb8) | (with_reducible refine HasBox.call ?_ hb8) | (with_reducible refine Box.call ?_ hb7) | (with_reducible refine HasBox.call ?_ hb7))); intro B_w8x_1; obtain ⟨⟨c_w8x_1, d_w8x_1⟩, f_w8x_1, g_w8x_1⟩ := id B_w8x_1; have l_w8x_1 := Box.lt B_w8x_1; have n_w8x_1 := Nat.ne_of_gt (Box.lt B_w8x_1); have m_w8x_1 := Nat.ne_of_lt (Box.lt B_w8x_1))))))
    all_goals
      go_wp2_with fail
      go_meet
      refine ⟨_, ua, ub, rfl, rfl, hu, ?_, ?_, ?_, ?_⟩
      · (repeat (first | with_reducible assumption | (focus ((with_reducible refine Box.new ?_); simp; done)) | (focus ((with_reducible refine Box4.new ?_); simp; done)) | (with_reducible refine Box.alloc ?_ _) | (with_reducible refine Box4.alloc ?_ _) | (with_reducible refine Box.drew ?_) | (with_reducible refine Box4.drew ?_) | (with_reducible refine Box.put ?_) | (focus ((with_reducible refine Box.set ?_ _ ?_); rotate_left; omega)) | (focus ((with_reducible refine Box4.set ?_ _ ?_); rotate_left; omega)) | (focus ((with_reducible apply HasBox.of); with_reducible assumption)) | (focus ((with_reducible refine HasBox.new ?_); simp; done)) | (with_reducible refine HasBox.set ?_ _ _) | (with_reducible refine HasBox.drew ?_) | (with_reducible refine HasBox.alloc ?_ _) | (with_reducible refine Box.call ?_ hb8) | (with_reducible refine Box4.call ?_ hb8) | (with_reducible refine HasBox.call ?_ hb8) | (with_reducible refine Box.call ?_ hb7) | (with_reducible refine Box4.call ?_ hb7) | (with_reducible refine HasBox.call ?_ hb7)))
      · (repeat (first | with_reducible assumption | (focus ((with_reducible refine Box.new ?_); simp; done)) | (focus ((with_reducible refine Box4.new ?_); simp; done)) | (with_reducible refine Box.alloc ?_ _) | (with_reducible refine Box4.alloc ?_ _) | (with_reducible refine Box.drew ?_) | (with_reducible refine Box4.drew ?_) | (with_reducible refine Box.put ?_) | (focus ((with_reducible refine Box.set ?_ _ ?_); rotate_left; omega)) | (focus ((with_reducible refine Box4.set ?_ _ ?_); rotate_left; omega)) | (focus ((with_reducible apply HasBox.of); with_reducible assumption)) | (focus ((with_reducible refine HasBox.new ?_); simp; done)) | (with_reducible refine HasBox.set ?_ _ _) | (with_reducible refine HasBox.drew ?_) | (with_reducible refine HasBox.alloc ?_ _) | (with_reducible refine Box.call ?_ hb8) | (with_reducible refine Box4.call ?_ hb8) | (with_reducible refine HasBox.call ?_ hb8) | (with_reducible refine Box.call ?_ hb7) | (with_reducible refine Box4.call ?_ hb7) | (with_reducible refine HasBox.call ?_ hb7)))
      · (repeat (first | with_reducible assumption | (focus ((with_reducible refine Box.new ?_); simp; done)) | (focus ((with_reducible refine Box4.new ?_); simp; done)) | (with_reducible refine Box.alloc ?_ _) | (with_reducible refine Box4.alloc ?_ _) | (with_reducible refine Box.drew ?_) | (with_reducible refine Box4.drew ?_) | (with_reducible refine Box.put ?_) | (focus ((with_reducible refine Box.set ?_ _ ?_); rotate_left; omega)) | (focus ((with_reducible refine Box4.set ?_ _ ?_); rotate_left; omega)) | (focus ((with_reducible apply HasBox.of); with_reducible assumption)) | (focus ((with_reducible refine HasBox.new ?_); simp; done)) | (with_reducible refine HasBox.set ?_ _ _) | (with_reducible refine HasBox.drew ?_) | (with_reducible refine HasBox.alloc ?_ _) | (with_reducible refine Box.call ?_ hb8) | (with_reducible refine Box4.call ?_ hb8) | (with_reducible refine HasBox.call ?_ hb8) | (with_reducible refine Box.call ?_ hb7) | (with_reducible refine Box4.call ?_ hb7) | (with_reducible refine HasBox.call ?_ hb7)))
      · (repeat (first | (with_reducible exact Below.refl _ _) | with_reducible assumption | (with_reducible refine below_alloc ?_ _) | (focus ((with_reducible refine below_set ?_ _ _ _ ?_); rotate_left; omega)) | (with_reducible refine Below.drew ?_) | (with_reducible refine below_call ?_ hb8) | (with_reducible refine below_call ?_ hb7)))
  case rest =>
    obtain ⟨g, ga, gb, rfl, rfl, hg, hG, hL⟩ := hcut
    have A0 : FlG w g w1.heap.size a b c d fa fb ga gb wc.drew := ⟨hL.f.drew, hG.drew, hL.below.drew⟩
    clear hG hL A6 y0 y1 y2 y3 y4 y5 B6 D6 bl6
    go_wp2_with fail
    by_cases hz : fits (n / m + 1) = true
    · rw [if_pos hz] at hg
      rw [hz]
      have hSr10 := A0.k
      refine wp_region_held_drew (S := (fun w' => (w'.cell? ⟨w.heap.size, 0, none⟩ = some (.int .i64 a) ∧ w'.cell? ⟨w.heap.size, 1, none⟩ = some (.int .u64 b) ∧ w'.cell? ⟨w.heap.size, 2, none⟩ = some (.int .i64 c) ∧ w'.cell? ⟨w.heap.size, 3, none⟩ = some (.int .u64 d)) ∧ (w'.cell? ⟨g, 0, none⟩ = some (.int .i64 ga) ∧ w'.cell? ⟨g, 1, none⟩ = some (.int .u64 gb)))) (by kernel_rfl) hSr10 (fun _ => ?_)
      refine wpAnyH_ready (rs := [0]) (by kernel_rfl) (by simp) ?_
      refine AllReadyH.cons rfl (fun K hK => ?_) AllReadyH.nil
      go_simp
      refine (alive_any _).mono ?_
      rintro e u1 ⟨rfl, hb⟩
      have D1 := A0.call hb
      clear hb
      have hSr11 := D1.k
      go_wp2_with fail
      refine hK.out _ _ hSr11 (fun _ => ?_)
      clear hK K hSr10
      refine takeH (i := 1) (t := 45) (v := ?vr1_1) rfl rfl (by kernel_rfl) (by kernel_rfl) (by kernel_rfl) (fun _ _ _ h => h) (Or.inl ⟨by rfl, ?yr1_1⟩) hSr11 ?rr1_1
      case yr1_1 => (intro w hSw; obtain ⟨⟨_, _, _, _⟩, _, _⟩ := id hSw; go_simp; try (with_reducible rfl))
      simp only [Act.put, List.setIfInBounds_toArray, List.set_cons_zero, List.set_cons_succ]
      refine takeH (i := 2) (t := 46) (v := ?vr1_2) rfl rfl (by kernel_rfl) (by kernel_rfl) (by kernel_rfl) (fun _ _ _ h => h) (Or.inl ⟨by rfl, ?yr1_2⟩) hSr11 ?rr1_2
      case yr1_2 => (intro w hSw; obtain ⟨⟨_, _, _, _⟩, _, _⟩ := id hSw; go_simp; try (with_reducible rfl))
      simp only [Act.put, List.setIfInBounds_toArray, List.set_cons_zero, List.set_cons_succ]
      refine takeH (i := 3) (t := 47) (v := ?vr1_3) rfl rfl (by kernel_rfl) (by kernel_rfl) (by kernel_rfl) (fun _ _ _ h => h) (Or.inl ⟨by rfl, ?yr1_3⟩) hSr11 ?rr1_3
      case yr1_3 => (intro w hSw; obtain ⟨⟨_, _, _, _⟩, _, _⟩ := id hSw; go_simp; try (with_reducible rfl))
      simp only [Act.put, List.setIfInBounds_toArray, List.set_cons_zero, List.set_cons_succ]
      refine takeH (i := 4) (t := 48) (v := ?vr1_4) rfl rfl (by kernel_rfl) (by kernel_rfl) (by kernel_rfl) (fun _ _ _ h => h) (Or.inl ⟨by rfl, ?yr1_4⟩) hSr11 ?rr1_4
      case yr1_4 => (intro w hSw; obtain ⟨⟨_, _, _, _⟩, _, _⟩ := id hSw; go_simp; try (with_reducible rfl))
      simp only [Act.put, List.setIfInBounds_toArray, List.set_cons_zero, List.set_cons_succ]
      refine takeH (i := 5) (t := 49) (v := ?vr1_5) rfl rfl (by kernel_rfl) (by kernel_rfl) (by kernel_rfl) (fun _ _ _ h => h) (Or.inl ⟨by rfl, ?yr1_5⟩) hSr11 ?rr1_5
      case yr1_5 => (intro w hSw; obtain ⟨⟨_, _, _, _⟩, _, _⟩ := id hSw; go_simp; try (with_reducible rfl))
      simp only [Act.put, List.setIfInBounds_toArray, List.set_cons_zero, List.set_cons_succ]
      refine takeH (i := 8) (t := 52) (v := ?vr1_8) rfl rfl (by kernel_rfl) (by kernel_rfl) (by kernel_rfl) (fun _ _ _ h => h) (Or.inl ⟨by rfl, ?yr1_8⟩) hSr11 ?rr1_8
      case yr1_8 => (intro w hSw; obtain ⟨⟨_, _, _, _⟩, _, _⟩ := id hSw; go_simp; try (with_reducible rfl))
      simp only [Act.put, List.setIfInBounds_toArray, List.set_cons_zero, List.set_cons_succ]
      refine wpAnyH_ready (rs := [6]) (by kernel_rfl) (by simp) ?_
      refine AllReadyH.cons rfl (fun K hK => ?_) AllReadyH.nil
      go_simp
      refine (Of_any 1 _ (by omega) (by omega)).mono ?_
      rintro e u2 ⟨oa, ob, rfl, ho, hb⟩
      have D2 := D1.call hb
      clear hb
      have hSr12 := D2.k
      go_wp2_with fail
      refine hK.out _ _ hSr12 (fun _ => ?_)
      clear hK K hSr11
      refine takeH (i := 7) (t := 51) (v := ?vr1_7) rfl rfl (by kernel_rfl) (by kernel_rfl) (by kernel_rfl) (fun _ _ _ h => h) (Or.inl ⟨by rfl, ?yr1_7⟩) hSr12 ?rr1_7
      case yr1_7 => (intro w hSw; obtain ⟨⟨_, _, _, _⟩, _, _⟩ := id hSw; go_simp; try (with_reducible rfl))
      simp only [Act.put, List.setIfInBounds_toArray, List.set_cons_zero, List.set_cons_succ]
      refine wpAnyH_ready (rs := [9]) (by kernel_rfl) (by simp) ?_
      refine AllReadyH.cons rfl (fun K hK => ?_) AllReadyH.nil
      go_simp
      refine (C2.out _ _ _ _ _ hg ho).mono ?_
      rintro e u3 ⟨rfl, hb⟩
      have D3 := D2.call hb
      clear hb
      have hSr13 := D3.k
      go_wp2_with fail
      refine hK.out _ _ hSr13 (fun _ => ?_)
      clear hK K hSr12
      refine takeH (i := 10) (t := 54) (v := ?vr1_10) rfl rfl (by kernel_rfl) (by kernel_rfl) (by kernel_rfl) (fun _ _ _ h => h) (Or.inl ⟨by rfl, ?yr1_10⟩) hSr13 ?rr1_10
      case yr1_10 => (intro w hSw; obtain ⟨⟨_, _, _, _⟩, _, _⟩ := id hSw; go_simp; try (with_reducible rfl))
      simp only [Act.put, List.setIfInBounds_toArray, List.set_cons_zero, List.set_cons_succ]
      refine takeH (i := 11) (t := 55) (v := ?vr1_11) rfl rfl (by kernel_rfl) (by kernel_rfl) (by kernel_rfl) (fun _ _ _ h => h) (Or.inl ⟨by rfl, ?yr1_11⟩) hSr13 ?rr1_11
      case yr1_11 => (intro w hSw; obtain ⟨⟨_, _, _, _⟩, _, _⟩ := id hSw; go_simp; try (with_reducible rfl))
      simp only [Act.put, List.setIfInBounds_toArray, List.set_cons_zero, List.set_cons_succ]
      refine takeH (i := 12) (t := 56) (v := ?vr1_12) rfl rfl (by kernel_rfl) (by kernel_rfl) (by kernel_rfl) (fun _ _ _ h => h) (Or.inl ⟨by rfl, ?yr1_12⟩) hSr13 ?rr1_12
      case yr1_12 => (intro w hSw; obtain ⟨⟨_, _, _, _⟩, _, _⟩ := id hSw; go_simp; try (with_reducible rfl))
      simp only [Act.put, List.setIfInBounds_toArray, List.set_cons_zero, List.set_cons_succ]
      refine takeH (i := 13) (t := 2) (v := ?vr1_13) rfl rfl (by kernel_rfl) (by kernel_rfl) (by kernel_rfl) (fun _ _ _ h => h) (Or.inl ⟨by rfl, ?yr1_13⟩) hSr13 ?rr1_13
      case yr1_13 => (intro w hSw; obtain ⟨⟨_, _, _, _⟩, _, _⟩ := id hSw; go_simp; try (with_reducible rfl))
      simp only [Act.put, List.setIfInBounds_toArray, List.set_cons_zero, List.set_cons_succ]
      refine wpAnyH_done (by kernel_rfl) ?_ _
      go_wp2_with fail
      go_ret
      exact ⟨rfl, D3.below⟩
    · have hz' : fits (n / m + 1) = false := by simpa using hz
      rw [hz']
      clear hz
      have hSr20 := A0.k
      refine wp_region_held_drew (S := (fun w' => (w'.cell? ⟨w.heap.size, 0, none⟩ = some (.int .i64 a) ∧ w'.cell? ⟨w.heap.size, 1, none⟩ = some (.int .u64 b) ∧ w'.cell? ⟨w.heap.size, 2, none⟩ = some (.int .i64 c) ∧ w'.cell? ⟨w.heap.size, 3, none⟩ = some (.int .u64 d)) ∧ (w'.cell? ⟨g, 0, none⟩ = some (.int .i64 ga) ∧ w'.cell? ⟨g, 1, none⟩ = some (.int .u64 gb)))) (by kernel_rfl) hSr20 (fun _ => ?_)
      refine wpAnyH_ready (rs := [0]) (by kernel_rfl) (by simp) ?_
      refine AllReadyH.cons rfl (fun K hK => ?_) AllReadyH.nil
      go_simp
      refine (alive_any _).mono ?_
      rintro e u1 ⟨rfl, hb⟩
      have D1 := A0.call hb
      clear hb
      have hSr21 := D1.k
      go_wp2_with fail
      refine hK.out _ _ hSr21 (fun _ => ?_)
      clear hK K hSr20
      refine takeH (i := 1) (t := 45) (v := ?vr2_1) rfl rfl (by kernel_rfl) (by kernel_rfl) (by kernel_rfl) (fun _ _ _ h => h) (Or.inl ⟨by rfl, ?yr2_1⟩) hSr21 ?rr2_1
      case yr2_1 => (intro w hSw; obtain ⟨⟨_, _, _, _⟩, _, _⟩ := id hSw; go_simp; try (with_reducible rfl))
      simp only [Act.put, List.setIfInBounds_toArray, List.set_cons_zero, List.set_cons_succ]
      refine takeH (i := 2) (t := 46) (v := ?vr2_2) rfl rfl (by kernel_rfl) (by kernel_rfl) (by kernel_rfl) (fun _ _ _ h => h) (Or.inl ⟨by rfl, ?yr2_2⟩) hSr21 ?rr2_2
      case yr2_2 => (intro w hSw; obtain ⟨⟨_, _, _, _⟩, _, _⟩ := id hSw; go_simp; try (with_reducible rfl))
      simp only [Act.put, List.setIfInBounds_toArray, List.set_cons_zero, List.set_cons_succ]
      refine takeH (i := 3) (t := 47) (v := ?vr2_3) rfl rfl (by kernel_rfl) (by kernel_rfl) (by kernel_rfl) (fun _ _ _ h => h) (Or.inl ⟨by rfl, ?yr2_3⟩) hSr21 ?rr2_3
      case yr2_3 => (intro w hSw; obtain ⟨⟨_, _, _, _⟩, _, _⟩ := id hSw; go_simp; try (with_reducible rfl))
      simp only [Act.put, List.setIfInBounds_toArray, List.set_cons_zero, List.set_cons_succ]
      refine takeH (i := 4) (t := 48) (v := ?vr2_4) rfl rfl (by kernel_rfl) (by kernel_rfl) (by kernel_rfl) (fun _ _ _ h => h) (Or.inl ⟨by rfl, ?yr2_4⟩) hSr21 ?rr2_4
      case yr2_4 => (intro w hSw; obtain ⟨⟨_, _, _, _⟩, _, _⟩ := id hSw; go_simp; try (with_reducible rfl))
      simp only [Act.put, List.setIfInBounds_toArray, List.set_cons_zero, List.set_cons_succ]
      refine takeH (i := 5) (t := 49) (v := undef) rfl rfl (by kernel_rfl) (by kernel_rfl) (by kernel_rfl) (fun _ _ _ h => h) (Or.inr ⟨by rfl, rfl⟩) hSr21 ?_
      simp only [Act.put, List.setIfInBounds_toArray, List.set_cons_zero, List.set_cons_succ]
      refine takeH (i := 6) (t := 50) (v := undef) rfl rfl (by kernel_rfl) (by kernel_rfl) (by kernel_rfl) (fun _ _ _ h => h) (Or.inr ⟨by rfl, rfl⟩) hSr21 ?_
      simp only [Act.put, List.setIfInBounds_toArray, List.set_cons_zero, List.set_cons_succ]
      refine takeH (i := 7) (t := 51) (v := undef) rfl rfl (by kernel_rfl) (by kernel_rfl) (by kernel_rfl) (fun _ _ _ h => h) (Or.inr ⟨by rfl, rfl⟩) hSr21 ?_
      simp only [Act.put, List.setIfInBounds_toArray, List.set_cons_zero, List.set_cons_succ]
      refine takeH (i := 8) (t := 52) (v := undef) rfl rfl (by kernel_rfl) (by kernel_rfl) (by kernel_rfl) (fun _ _ _ h => h) (Or.inr ⟨by rfl, rfl⟩) hSr21 ?_
      simp only [Act.put, List.setIfInBounds_toArray, List.set_cons_zero, List.set_cons_succ]
      refine takeH (i := 9) (t := 53) (v := undef) rfl rfl (by kernel_rfl) (by kernel_rfl) (by kernel_rfl) (fun _ _ _ h => h) (Or.inr ⟨by rfl, rfl⟩) hSr21 ?_
      simp only [Act.put, List.setIfInBounds_toArray, List.set_cons_zero, List.set_cons_succ]
      refine takeH (i := 10) (t := 54) (v := undef) rfl rfl (by kernel_rfl) (by kernel_rfl) (by kernel_rfl) (fun _ _ _ h => h) (Or.inr ⟨by rfl, rfl⟩) hSr21 ?_
      simp only [Act.put, List.setIfInBounds_toArray, List.set_cons_zero, List.set_cons_succ]
      refine takeH (i := 11) (t := 55) (v := ?vr2_11) rfl rfl (by kernel_rfl) (by kernel_rfl) (by kernel_rfl) (fun _ _ _ h => h) (Or.inl ⟨by rfl, ?yr2_11⟩) hSr21 ?rr2_11
      case yr2_11 => (intro w hSw; obtain ⟨⟨_, _, _, _⟩, _, _⟩ := id hSw; go_simp; try (with_reducible rfl))
      simp only [Act.put, List.setIfInBounds_toArray, List.set_cons_zero, List.set_cons_succ]
      refine takeH (i := 12) (t := 56) (v := ?vr2_12) rfl rfl (by kernel_rfl) (by kernel_rfl) (by kernel_rfl) (fun _ _ _ h => h) (Or.inl ⟨by rfl, ?yr2_12⟩) hSr21 ?rr2_12
      case yr2_12 => (intro w hSw; obtain ⟨⟨_, _, _, _⟩, _, _⟩ := id hSw; go_simp; try (with_reducible rfl))
      simp only [Act.put, List.setIfInBounds_toArray, List.set_cons_zero, List.set_cons_succ]
      refine takeH (i := 13) (t := 2) (v := ?vr2_13) rfl rfl (by kernel_rfl) (by kernel_rfl) (by kernel_rfl) (fun _ _ _ h => h) (Or.inl ⟨by rfl, ?yr2_13⟩) hSr21 ?rr2_13
      case yr2_13 => (intro w hSw; obtain ⟨⟨_, _, _, _⟩, _, _⟩ := id hSw; go_simp; try (with_reducible rfl))
      simp only [Act.put, List.setIfInBounds_toArray, List.set_cons_zero, List.set_cons_succ]
      refine wpAnyH_done (by kernel_rfl) ?_ _
      go_wp2_with fail
      go_ret
      exact ⟨rfl, D1.below⟩
theorem ffloors_walk (a b n c d m : Int) (w : World) (H : IsW a b n) (G : IsW c d m) :
    Calls Try.prog 5 #[.agg #[.int .i64 a, .int .u64 b, .int .i64 c, .int .u64 d]] w (RV (.bool true) w) := by
  by_cases h : 0 < m
  · exact floors_yes a b n c d m w H G h
  · exact floors_no a b n c d m w H G h
end Go.Proofs.Ytdmjccbpghilcaa
