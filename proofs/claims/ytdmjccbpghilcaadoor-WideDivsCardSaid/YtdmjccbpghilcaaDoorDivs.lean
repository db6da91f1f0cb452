/-
  cobweblaw01.WideDivs returns true, for every two Ints. My own text.
-/
import Derived.Test.YtdmjccbpghilcaaDoorLawB
import Derived.Test.YtdmjccbpghilcaaDoorRefT
import Derived.Deep.DrawnRows
namespace Go.Proofs.YtdmjccbpghilcaaDoor
open Go.RowKit Go.Lib
set_option linter.unusedVariables false
set_option linter.unusedSimpArgs false
attribute [local go_sem ↓] Go.wp_at_zero Go.wp_at_succ

set_option maxHeartbeats 4000000 in
set_option maxRecDepth 100000 in
theorem divs_no (h1 l1 n h2 l2 m : Int) (w : World) (H1 : IsW h1 l1 n) (H2 : IsW h2 l2 m) (hm : m ≤ 0) (htab : Tab w) :
    Calls Tryd.prog 7 #[.agg #[.int .i64 h1, .int .u64 l1], .agg #[.int .i64 h2, .int .u64 l2]] w (RV (.bool true) w) := by
  have e0 : eqW 0 0 0 0 = true := rfl
  have hic : icmp m 0 ≤ 0 := by unfold icmp; split <;> (try split) <;> omega
  have S0 := Lib.hid (fun w => Sign_any h2 l2 m w H2)
  have D0 := Lib.hid (fun w => Div_no h1 l1 n h2 l2 m w H1 H2 hm)
  generalize icmp m 0 = ic at S0 hic
  go_enter Tryd.func7, Tryd.ntmps7
  go_wp2_with fail
  refine (D0.out _).mono ?_
  rintro e w1 ⟨rfl, hb⟩
  have A0 := ((((HeldW.start htab).new (t := 24) (u := .int .i64 h1) (v := .int .u64 l1) rfl).new (t := 24) (g := w.heap.size + 1) (u := .int .i64 h2) (v := .int .u64 l2) (by simp)).call hb)
  clear htab hb
  obtain ⟨ce00, ce01⟩ := (A0).b1; have cel0 := (A0).x1.lt; have cen0 := Nat.ne_of_lt cel0; have ceg0 := Nat.ne_of_gt cel0; obtain ⟨ce10, ce11⟩ := (A0.tl).b1; have cel1 := (A0.tl).x1.lt; have cen1 := Nat.ne_of_lt cel1; have ceg1 := Nat.ne_of_gt cel1
  have B0 := ((A0.new (t := 24) (u := .int .i64 0) (v := .int .u64 0) rfl).new (g := w1.heap.size + 1) (t := 24) (u := .int .i64 0) (v := .int .u64 0) (by simp))
  clear A0
  go_wp2_with fail
  refine (S0.out _).mono ?_
  rintro e w2 ⟨rfl, hb⟩
  clear ce00 ce01 cen0 ceg0 cel0 ce10 ce11 cen1 ceg1 cel1
  replace B0 := B0.call hb
  clear hb
  obtain ⟨ce00, ce01⟩ := (B0).b1; have cel0 := (B0).x1.lt; have cen0 := Nat.ne_of_lt cel0; have ceg0 := Nat.ne_of_gt cel0; obtain ⟨ce10, ce11⟩ := (B0.tl).b1; have cel1 := (B0.tl).x1.lt; have cen1 := Nat.ne_of_lt cel1; have ceg1 := Nat.ne_of_gt cel1; obtain ⟨ce20, ce21⟩ := (B0.tl.tl).b1; have cel2 := (B0.tl.tl).x1.lt; have cen2 := Nat.ne_of_lt cel2; have ceg2 := Nat.ne_of_gt cel2; obtain ⟨ce30, ce31⟩ := (B0.tl.tl.tl).b1; have cel3 := (B0.tl.tl.tl).x1.lt; have cen3 := Nat.ne_of_lt cel3; have ceg3 := Nat.ne_of_gt cel3
  go_wp2_with fail
  refine (alive_any _ B0.tab).mono ?_
  rintro e w3 ⟨rfl, hb⟩
  clear ce00 ce01 cen0 ceg0 cel0 ce10 ce11 cen1 ceg1 cel1 ce20 ce21 cen2 ceg2 cel2 ce30 ce31 cen3 ceg3 cel3
  replace B0 := B0.call hb
  clear hb
  obtain ⟨ce00, ce01⟩ := (B0).b1; have cel0 := (B0).x1.lt; have cen0 := Nat.ne_of_lt cel0; have ceg0 := Nat.ne_of_gt cel0; obtain ⟨ce10, ce11⟩ := (B0.tl).b1; have cel1 := (B0.tl).x1.lt; have cen1 := Nat.ne_of_lt cel1; have ceg1 := Nat.ne_of_gt cel1; obtain ⟨ce20, ce21⟩ := (B0.tl.tl).b1; have cel2 := (B0.tl.tl).x1.lt; have cen2 := Nat.ne_of_lt cel2; have ceg2 := Nat.ne_of_gt cel2; obtain ⟨ce30, ce31⟩ := (B0.tl.tl.tl).b1; have cel3 := (B0.tl.tl.tl).x1.lt; have cen3 := Nat.ne_of_lt cel3; have ceg3 := Nat.ne_of_gt cel3
  go_wp2_with fail
  go_ret
  exact ⟨rfl, B0.below⟩
/-- two numbers of the reference package in new blocks, beside four Ints. -/
def Cut4 (w : World) (b0 b1 b2 b3 : Nat × Value × Value) (n m : Int) (s t : Value) (W : World) : Prop :=
  ∃ g g' x A l c x' A' l' c', s = .pointer (some ⟨g, 0, none⟩) ∧ t = .pointer (some ⟨g', 0, none⟩) ∧ HeldW w [(g', .bool x', .slice A' l' c'), (g, .bool x, .slice A l c), b3, b2, b1, b0] [(x', A', l', c', m), (x, A, l, c, n)] W
theorem cut4_mk {w W : World} {g0 g1 g2 g3 : Nat} {u0 v0 u1 v1 u2 v2 u3 v3 : Value} {n m : Int} {g g' : Nat} {x x' : Bool} {A A' : Option Addr} {l c l' c' : Nat} (t : Tab w)
    (h1 : Box W g' (.bool x') (.slice A' l' c')) (h2 : Box W g (.bool x) (.slice A l c)) (h3 : Box W g3 u3 v3) (h4 : Box W g2 u2 v2) (h5 : Box W g1 u1 v1) (h6 : Box W g0 u0 v0) (k1 : IsN W x' A' l' c' m) (k2 : IsN W x A l c n) (hb : Below w.heap.size w W) :
    Cut4 w (g0, u0, v0) (g1, u1, v1) (g2, u2, v2) (g3, u3, v3) n m (.pointer (some ⟨g, 0, none⟩)) (.pointer (some ⟨g', 0, none⟩)) W := by
  refine ⟨g, g', x, A, l, c, x', A', l', c', rfl, rfl, ⟨fun p hp => ?_, fun q hq => ?_, hb, Tab.call t hb⟩⟩
  · simp only [List.mem_cons, List.mem_nil_iff, or_false] at hp
    rcases hp with rfl | rfl | rfl | rfl | rfl | rfl
    · exact h1
    · exact h2
    · exact h3
    · exact h4
    · exact h5
    · exact h6
  · simp only [List.mem_cons, List.mem_nil_iff, or_false] at hq
    rcases hq with rfl | rfl
    · exact k1
    · exact k2
theorem quo_fits {n m : Int} (hn : fits n = true) (hm : 0 < m) (hmf : fits m = true) : (fits (n / m * m) = true ∨ n < 0) ∧ n / m * m + n % m = n ∧ 0 ≤ n % m ∧ n % m < m := by
  have h0 := Int.emod_nonneg n (show m ≠ 0 by omega)
  have h1 := Int.emod_lt_of_pos n hm
  have h2 := Int.mul_ediv_add_emod n m
  rw [Int.mul_comm] at h2
  refine ⟨?_, h2, h0, h1⟩
  rcases Int.lt_or_le n 0 with q | q
  · exact .inr q
  · left
    have h3 : 0 ≤ n / m * m := Int.mul_nonneg (Int.ediv_nonneg q (by omega)) (by omega)
    unfold fits at *
    rw [decide_eq_true_eq] at *
    omega
set_option maxHeartbeats 4000000 in
set_option maxRecDepth 100000 in
theorem divs_yes (h1 l1 n h2 l2 m : Int) (w : World) (H1 : IsW h1 l1 n) (H2 : IsW h2 l2 m) (hm : 0 < m) (htab : Tab w) :
    Calls Tryd.prog 7 #[.agg #[.int .i64 h1, .int .u64 l1], .agg #[.int .i64 h2, .int .u64 l2]] w (RV (.bool true) w) := by
  have F1 := Lib.hid H1.fits
  have F2 := Lib.hid H2.fits
  have QF := Lib.hid (quo_fits H1.fits hm H2.fits)
  have hic : 0 < icmp m 0 := by unfold icmp; split <;> (try split) <;> omega
  have S0 := Lib.hid (fun w => Sign_any h2 l2 m w H2)
  have HM := Lib.hid hm
  have D0 := Lib.hid (fun w => Div_yes h1 l1 n h2 l2 m w H1 H2 hm)
  generalize icmp m 0 = ic at S0 hic
  go_enter Tryd.func7, Tryd.ntmps7
  go_wp2_with fail
  refine (D0.out _).mono ?_
  rintro e w1 ⟨qa, qb, ra, rb, rfl, hq, hr, hb1⟩
  have B_w1_0 : Box w1 (w.heap.size) (.int .i64 h1) (.int .u64 l1) := (by (repeat (first | with_reducible assumption | (focus ((with_reducible refine Box.new ?_); simp; done)) | (with_reducible refine Box.alloc ?_ _) | (with_reducible refine Box.drew ?_) | (with_reducible refine Box.put ?_) | (focus ((with_reducible refine Box.set ?_ _ ?_); rotate_left; omega)) | (focus ((with_reducible apply HasBox.of); with_reducible assumption)) | (focus ((with_reducible refine HasBox.new ?_); simp; done)) | (with_reducible refine HasBox.set ?_ _ _) | (with_reducible refine HasBox.drew ?_) | (with_reducible refine HasBox.alloc ?_ _) | (with_reducible refine Box.call ?_ hb1) | (with_reducible refine HasBox.call ?_ hb1)))); obtain ⟨⟨c_w1_0, d_w1_0⟩, f_w1_0, g_w1_0⟩ := id B_w1_0; have B_w1_1 : Box w1 (w.heap.size + 1) (.int .i64 h2) (.int .u64 l2) := (by (repeat (first | with_reducible assumption | (focus ((with_reducible refine Box.new ?_); simp; done)) | (with_reducible refine Box.alloc ?_ _) | (with_reducible refine Box.drew ?_) | (with_reducible refine Box.put ?_) | (focus ((with_reducible refine Box.set ?_ _ ?_); rotate_left; omega)) | (focus ((with_reducible apply HasBox.of); with_reducible assumption)) | (focus ((with_reducible refine HasBox.new ?_); simp; done)) | (with_reducible refine HasBox.set ?_ _ _) | (with_reducible refine HasBox.drew ?_) | (with_reducible refine HasBox.alloc ?_ _) | (with_reducible refine Box.call ?_ hb1) | (with_reducible refine HasBox.call ?_ hb1)))); obtain ⟨⟨c_w1_1, d_w1_1⟩, f_w1_1, g_w1_1⟩ := id B_w1_1
  have y1 := Box.lt B_w1_0; have y2 := Box.lt B_w1_1; have y3 := Nat.ne_of_lt (Box.lt B_w1_0); have y4 := Nat.ne_of_lt (Box.lt B_w1_1)
  go_wp2_with fail
  refine (S0.out _).mono ?_
  rintro e w2 ⟨rfl, hb2⟩
  have B_w2_0 : Box w2 (w.heap.size) (.int .i64 h1) (.int .u64 l1) := (by (repeat (first | with_reducible assumption | (focus ((with_reducible refine Box.new ?_); simp; done)) | (with_reducible refine Box.alloc ?_ _) | (with_reducible refine Box.drew ?_) | (with_reducible refine Box.put ?_) | (focus ((with_reducible refine Box.set ?_ _ ?_); rotate_left; omega)) | (focus ((with_reducible apply HasBox.of); with_reducible assumption)) | (focus ((with_reducible refine HasBox.new ?_); simp; done)) | (with_reducible refine HasBox.set ?_ _ _) | (with_reducible refine HasBox.drew ?_) | (with_reducible refine HasBox.alloc ?_ _) | (with_reducible refine Box.call ?_ hb2) | (with_reducible refine HasBox.call ?_ hb2) | (with_reducible refine Box.call ?_ hb1) | (with_reducible refine HasBox.call ?_ hb1)))); obtain ⟨⟨c_w2_0, d_w2_0⟩, f_w2_0, g_w2_0⟩ := id B_w2_0; have B_w2_1 : Box w2 (w.heap.size + 1) (.int .i64 h2) (.int .u64 l2) := (by (repeat (first | with_reducible assumption | (focus ((with_reducible refine Box.new ?_); simp; done)) | (with_reducible refine Box.alloc ?_ _) | (with_reducible refine Box.drew ?_) | (with_reducible refine Box.put ?_) | (focus ((with_reducible refine Box.set ?_ _ ?_); rotate_left; omega)) | (focus ((with_reducible apply HasBox.of); with_reducible assumption)) | (focus ((with_reducible refine HasBox.new ?_); simp; done)) | (with_reducible refine HasBox.set ?_ _ _) | (with_reducible refine HasBox.drew ?_) | (with_reducible refine HasBox.alloc ?_ _) | (with_reducible refine Box.call ?_ hb2) | (with_reducible refine HasBox.call ?_ hb2) | (with_reducible refine Box.call ?_ hb1) | (with_reducible refine HasBox.call ?_ hb1)))); obtain ⟨⟨c_w2_1, d_w2_1⟩, f_w2_1, g_w2_1⟩ := id B_w2_1; have B_w2_2 : Box w2 (w1.heap.size) (.int .i64 qa) (.int .u64 qb) := (by (repeat (first | with_reducible assumption | (focus ((with_reducible refine Box.new ?_); simp; done)) | (with_reducible refine Box.alloc ?_ _) | (with_reducible refine Box.drew ?_) | (with_reducible refine Box.put ?_) | (focus ((with_reducible refine Box.set ?_ _ ?_); rotate_left; omega)) | (focus ((with_reducible apply HasBox.of); with_reducible assumption)) | (focus ((with_reducible refine HasBox.new ?_); simp; done)) | (with_reducible refine HasBox.set ?_ _ _) | (with_reducible refine HasBox.drew ?_) | (with_reducible refine HasBox.alloc ?_ _) | (with_reducible refine Box.call ?_ hb2) | (with_reducible refine HasBox.call ?_ hb2) | (with_reducible refine Box.call ?_ hb1) | (with_reducible refine HasBox.call ?_ hb1)))); obtain ⟨⟨c_w2_2, d_w2_2⟩, f_w2_2, g_w2_2⟩ := id B_w2_2; have B_w2_3 : Box w2 (w1.heap.size + 1) (.int .i64 ra) (.int .u64 rb) := (by (repeat (first | with_reducible assumption | (focus ((with_reducible refine Box.new ?_); simp; done)) | (with_reducible refine Box.alloc ?_ _) | (with_reducible refine Box.drew ?_) | (with_reducible refine Box.put ?_) | (focus ((with_reducible refine Box.set ?_ _ ?_); rotate_left; omega)) | (focus ((with_reducible apply HasBox.of); with_reducible assumption)) | (focus ((with_reducible refine HasBox.new ?_); simp; done)) | (with_reducible refine HasBox.set ?_ _ _) | (with_reducible refine HasBox.drew ?_) | (with_reducible refine HasBox.alloc ?_ _) | (with_reducible refine Box.call ?_ hb2) | (with_reducible refine HasBox.call ?_ hb2) | (with_reducible refine Box.call ?_ hb1) | (with_reducible refine HasBox.call ?_ hb1)))); obtain ⟨⟨c_w2_3, d_w2_3⟩, f_w2_3, g_w2_3⟩ := id B_w2_3
  have z1 := Box.lt B_w2_0; have z2 := Box.lt B_w2_1; have z3 := Box.lt B_w2_2; have z4 := Box.lt B_w2_3
  have bl2 : Below w.heap.size w w2 := by (repeat (first | (with_reducible exact Below.refl _ _) | with_reducible assumption | (with_reducible refine below_alloc ?_ _) | (focus ((with_reducible refine below_set ?_ _ _ _ ?_); rotate_left; omega)) | (with_reducible refine Below.drew ?_) | (with_reducible refine below_call ?_ hb2) | (with_reducible refine below_call ?_ hb1)))
  clear B_w1_0 c_w1_0 d_w1_0 f_w1_0 g_w1_0 B_w1_1 c_w1_1 d_w1_1 f_w1_1 g_w1_1
  go_upto_region 4 with fail
  go_cut [8, 9] (fun s5 s6 wx => Cut4 w (w.heap.size, .int .i64 h1, .int .u64 l1) (w.heap.size + 1, .int .i64 h2, .int .u64 l2) (w1.heap.size, .int .i64 qa, .int .u64 qb) (w1.heap.size + 1, .int .i64 ra, .int .u64 rb) (n / m) (n % m) s5 s6 wx)
  case first =>
    clear c_w2_2 d_w2_2 f_w2_2 g_w2_2 c_w2_3 d_w2_3 f_w2_3 g_w2_3 hb2
    go_region_held3 (fun w' => (w'.cell? ⟨w.heap.size + 1, 0, none⟩ = some (.int .i64 h2) ∧ w'.cell? ⟨w.heap.size + 1, 1, none⟩ = some (.int .u64 l2)) ∧ (w'.cell? ⟨w.heap.size, 0, none⟩ = some (.int .i64 h1) ∧ w'.cell? ⟨w.heap.size, 1, none⟩ = some (.int .u64 l1)))
      (first | (refine keepS ?_ ?_ <;> ((repeat (first | with_reducible assumption | (focus ((with_reducible refine Box.new ?_); simp; done)) | (with_reducible refine Box.alloc ?_ _) | (with_reducible refine Box.drew ?_) | (with_reducible refine Box.put ?_) | (focus ((with_reducible refine Box.set ?_ _ ?_); rotate_left; omega)) | (focus ((with_reducible apply HasBox.of); with_reducible assumption)) | (focus ((with_reducible refine HasBox.new ?_); simp; done)) | (with_reducible refine HasBox.set ?_ _ _) | (with_reducible refine HasBox.drew ?_) | (with_reducible refine HasBox.alloc ?_ _) | (with_reducible refine Box.call ?_ hb5) | (with_reducible refine HasBox.call ?_ hb5) | (with_reducible refine Box.call ?_ hb4) | (with_reducible refine HasBox.call ?_ hb4) | (with_reducible refine Box.call ?_ hb3) | (with_reducible refine HasBox.call ?_ hb3))); done)) | go_keep)
      (first
        | (go_at_call 12; ((with_reducible refine (num_any _ _ _ _ H1).mono ?_); rintro e w3 ⟨x3, A3, l3, c3, rfl, k3, hb3⟩; have hy3 := Below.size hb3; (try simp at hy3)))
        | (go_at_call 12; ((with_reducible refine (num_any _ _ _ _ H2).mono ?_); rintro e w4 ⟨x4, A4, l4, c4, rfl, k4, hb4⟩; have hy4 := Below.size hb4; (try simp at hy4); have k3' : IsN w4 x3 A3 l3 c3 n := (by (repeat (first | with_reducible assumption | (with_reducible refine IsN.alloc ?_ _) | (with_reducible refine IsN.drew ?_) | (with_reducible refine IsN.put ?_ ?_) | (with_reducible refine HasBB.put ?_) | (focus ((with_reducible apply HasBB.of); with_reducible assumption)) | (focus ((with_reducible refine HasBB.new ?_); simp; done)) | (with_reducible refine HasBB.drew ?_) | (with_reducible refine HasBB.alloc ?_ _) | (focus ((with_reducible refine HasBB.set ?_ _ ?_); rotate_left; omega)) | (with_reducible refine IsN.call ?_ hb4) | (with_reducible refine HasBB.call ?_ hb4)))); have L3 := Nat.le_trans (k3.lenW F1.out) (show 10 ≤ 400 by omega); have L4 := Nat.le_trans (k4.lenW F2.out) (show 10 ≤ 400 by omega)))
        | (go_at_call 30; (first | (with_reducible refine (rDiv_any _ _ _ _ _ _ _ _ _ _ _ k3' k4 HM.out L3 L4).mono ?_) | (with_reducible refine (rDiv_any _ _ _ _ _ _ _ _ _ _ _ (k3'.alloc _) (k4.alloc _) HM.out L3 L4).mono ?_) | (with_reducible refine (rDiv_any _ _ _ _ _ _ _ _ _ _ _ ((k3'.alloc _).alloc _) ((k4.alloc _).alloc _) HM.out L3 L4).mono ?_)); (rintro e w5 ⟨x1, A1, y1', c1, x2, A2, y2', c2, rfl, k1, k2, hb5⟩; have hy5 := Below.size hb5; (try simp at hy5); (try ((refine cutIn (p := Box w5 (w2.heap.size) (.bool false) (.slice none 0 0)) ?_ ?_); (repeat (first | with_reducible assumption | (focus ((with_reducible refine Box.new ?_); simp; done)) | (with_reducible refine Box.alloc ?_ _) | (with_reducible refine Box.drew ?_) | (with_reducible refine Box.put ?_) | (focus ((with_reducible refine Box.set ?_ _ ?_); rotate_left; omega)) | (focus ((with_reducible apply HasBox.of); with_reducible assumption)) | (focus ((with_reducible refine HasBox.new ?_); simp; done)) | (with_reducible refine HasBox.set ?_ _ _) | (with_reducible refine HasBox.drew ?_) | (with_reducible refine HasBox.alloc ?_ _) | (with_reducible refine Box.call ?_ hb5) | (with_reducible refine HasBox.call ?_ hb5) | (with_reducible refine Box.call ?_ hb4) | (with_reducible refine HasBox.call ?_ hb4) | (with_reducible refine Box.call ?_ hb3) | (with_reducible refine HasBox.call ?_ hb3))); intro B_w5x_0; obtain ⟨⟨c_w5x_0, d_w5x_0⟩, f_w5x_0, g_w5x_0⟩ := id B_w5x_0; have l_w5x_0 := Box.lt B_w5x_0; have n_w5x_0 := Nat.ne_of_gt (Box.lt B_w5x_0); have m_w5x_0 := Nat.ne_of_lt (Box.lt B_w5x_0))); (try ((refine cutIn (p := Box w5 (w2.heap.size + 1) (.bool false) (.slice none 0 0)) ?_ ?_); (repeat (first | with_reducible assumption | (focus ((with_reducible refine Box.new ?_); simp; done)) | (with_reducible refine Box.alloc ?_ _) | (with_reducible refine Box.drew ?_) | (with_reducible refine Box.put ?_) | (focus ((with_reducible refine Box.set ?_ _ ?_); rotate_left; omega)) | (focus ((with_reducible apply HasBox.of); with_reducible assumption)) | (focus ((with_reducible refine HasBox.new ?_); simp; done)) | (with_reducible refine HasBox.set ?_ _ _) | (with_reducible refine HasBox.drew ?_) | (with_reducible refine HasBox.alloc ?_ _) | (with_reducible refine Box.call ?_ hb5) | (with_reducible refine HasBox.call ?_ hb5) | (with_reducible refine Box.call ?_ hb4) | (with_reducible refine HasBox.call ?_ hb4) | (with_reducible refine Box.call ?_ hb3) | (with_reducible refine HasBox.call ?_ hb3))); intro B_w5x_1; obtain ⟨⟨c_w5x_1, d_w5x_1⟩, f_w5x_1, g_w5x_1⟩ := id B_w5x_1; have l_w5x_1 := Box.lt B_w5x_1; have n_w5x_1 := Nat.ne_of_gt (Box.lt B_w5x_1); have m_w5x_1 := Nat.ne_of_lt (Box.lt B_w5x_1))); (try ((refine cutIn (p := Box w5 (w3.heap.size) (.bool false) (.slice none 0 0)) ?_ ?_); (repeat (first | with_reducible assumption | (focus ((with_reducible refine Box.new ?_); simp; done)) | (with_reducible refine Box.alloc ?_ _) | (with_reducible refine Box.drew ?_) | (with_reducible refine Box.put ?_) | (focus ((with_reducible refine Box.set ?_ _ ?_); rotate_left; omega)) | (focus ((with_reducible apply HasBox.of); with_reducible assumption)) | (focus ((with_reducible refine HasBox.new ?_); simp; done)) | (with_reducible refine HasBox.set ?_ _ _) | (with_reducible refine HasBox.drew ?_) | (with_reducible refine HasBox.alloc ?_ _) | (with_reducible refine Box.call ?_ hb5) | (with_reducible refine HasBox.call ?_ hb5) | (with_reducible refine Box.call ?_ hb4) | (with_reducible refine HasBox.call ?_ hb4) | (with_reducible refine Box.call ?_ hb3) | (with_reducible refine HasBox.call ?_ hb3))); intro B_w5x_2; obtain ⟨⟨c_w5x_2, d_w5x_2⟩, f_w5x_2, g_w5x_2⟩ := id B_w5x_2; have l_w5x_2 := Box.lt B_w5x_2; have n_w5x_2 := Nat.ne_of_gt (Box.lt B_w5x_2); have m_w5x_2 := Nat.ne_of_lt (Box.lt B_w5x_2))); (try ((refine cutIn (p := Box w5 (w3.heap.size + 1) (.bool false) (.slice none 0 0)) ?_ ?_); (repeat (first | with_reducible assumption | (focus ((with_reducible refine Box.new ?_); simp; done)) | (with_reducible refine Box.alloc ?_ _) | (with_reducible refine Box.drew ?_) | (with_reducible refine Box.put ?_) | (focus ((with_reducible refine Box.set ?_ _ ?_); rotate_left; omega)) | (focus ((with_reducible apply HasBox.of); with_reducible assumption)) | (focus ((with_reducible refine HasBox.new ?_); simp; done)) | (with_reducible refine HasBox.set ?_ _ _) | (with_reducible refine HasBox.drew ?_) | (with_reducible refine HasBox.alloc ?_ _) | (with_reducible refine Box.call ?_ hb5) | (with_reducible refine HasBox.call ?_ hb5) | (with_reducible refine Box.call ?_ hb4) | (with_reducible refine HasBox.call ?_ hb4) | (with_reducible refine Box.call ?_ hb3) | (with_reducible refine HasBox.call ?_ hb3))); intro B_w5x_3; obtain ⟨⟨c_w5x_3, d_w5x_3⟩, f_w5x_3, g_w5x_3⟩ := id B_w5x_3; have l_w5x_3 := Box.lt B_w5x_3; have n_w5x_3 := Nat.ne_of_gt (Box.lt B_w5x_3); have m_w5x_3 := Nat.ne_of_lt (Box.lt B_w5x_3))); (try ((refine cutIn (p := Box w5 (w4.heap.size) (.bool false) (.slice none 0 0)) ?_ ?_); (repeat (first | with_reducible assumption | (focus ((with_reducible refine Box.new ?_); simp; done)) | (with_reducible refine Box.alloc ?_ _) | (with_reducible refine Box.drew ?_) | (with_reducible refine Box.put ?_) | (focus ((with_reducible refine Box.set ?_ _ ?_); rotate_left; omega)) | (focus ((with_reducible apply HasBox.of); with_reducible assumption)) | (focus ((with_reducible refine HasBox.new ?_); simp; done)) | (with_reducible refine HasBox.set ?_ _ _) | (with_reducible refine HasBox.drew ?_) | (with_reducible refine HasBox.alloc ?_ _) | (with_reducible refine Box.call ?_ hb5) | (with_reducible refine HasBox.call ?_ hb5) | (with_reducible refine Box.call ?_ hb4) | (with_reducible refine HasBox.call ?_ hb4) | (with_reducible refine Box.call ?_ hb3) | (with_reducible refine HasBox.call ?_ hb3))); intro B_w5x_4; obtain ⟨⟨c_w5x_4, d_w5x_4⟩, f_w5x_4, g_w5x_4⟩ := id B_w5x_4; have l_w5x_4 := Box.lt B_w5x_4; have n_w5x_4 := Nat.ne_of_gt (Box.lt B_w5x_4); have m_w5x_4 := Nat.ne_of_lt (Box.lt B_w5x_4))); (try ((refine cutIn (p := Box w5 (w4.heap.size + 1) (.bool false) (.slice none 0 0)) ?_ ?_); (repeat (first | with_reducible assumption | (focus ((with_reducible refine Box.new ?_); simp; done)) | (with_reducible refine Box.alloc ?_ _) | (with_reducible refine Box.drew ?_) | (with_reducible refine Box.put ?_) | (focus ((with_reducible refine Box.set ?_ _ ?_); rotate_left; omega)) | (focus ((with_reducible apply HasBox.of); with_reducible assumption)) | (focus ((with_reducible refine HasBox.new ?_); simp; done)) | (with_reducible refine HasBox.set ?_ _ _) | (with_reducible refine HasBox.drew ?_) | (with_reducible refine HasBox.alloc ?_ _) | (with_reducible refine Box.call ?_ hb5) | (with_reducible refine HasBox.call ?_ hb5) | (with_reducible refine Box.call ?_ hb4) | (with_reducible refine HasBox.call ?_ hb4) | (with_reducible refine Box.call ?_ hb3) | (with_reducible refine HasBox.call ?_ hb3))); intro B_w5x_5; obtain ⟨⟨c_w5x_5, d_w5x_5⟩, f_w5x_5, g_w5x_5⟩ := id B_w5x_5; have l_w5x_5 := Box.lt B_w5x_5; have n_w5x_5 := Nat.ne_of_gt (Box.lt B_w5x_5); have m_w5x_5 := Nat.ne_of_lt (Box.lt B_w5x_5))))))
    all_goals
      go_wp2_with fail
      go_meet
      refine cut4_mk (x := x1) (A := A1) (l := y1') (c := c1) (x' := x2) (A' := A2) (l' := y2') (c' := c2) htab ?_ ?_ ?_ ?_ ?_ ?_ ?_ ?_ ?_
      · (repeat (first | with_reducible assumption | (focus ((with_reducible refine Box.new ?_); simp; done)) | (with_reducible refine Box.alloc ?_ _) | (with_reducible refine Box.drew ?_) | (with_reducible refine Box.put ?_) | (focus ((with_reducible refine Box.set ?_ _ ?_); rotate_left; omega)) | (focus ((with_reducible apply HasBox.of); with_reducible assumption)) | (focus ((with_reducible refine HasBox.new ?_); simp; done)) | (with_reducible refine HasBox.set ?_ _ _) | (with_reducible refine HasBox.drew ?_) | (with_reducible refine HasBox.alloc ?_ _) | (with_reducible refine Box.call ?_ hb5) | (with_reducible refine HasBox.call ?_ hb5) | (with_reducible refine Box.call ?_ hb4) | (with_reducible refine HasBox.call ?_ hb4) | (with_reducible refine Box.call ?_ hb3) | (with_reducible refine HasBox.call ?_ hb3)))
      · (repeat (first | with_reducible assumption | (focus ((with_reducible refine Box.new ?_); simp; done)) | (with_reducible refine Box.alloc ?_ _) | (with_reducible refine Box.drew ?_) | (with_reducible refine Box.put ?_) | (focus ((with_reducible refine Box.set ?_ _ ?_); rotate_left; omega)) | (focus ((with_reducible apply HasBox.of); with_reducible assumption)) | (focus ((with_reducible refine HasBox.new ?_); simp; done)) | (with_reducible refine HasBox.set ?_ _ _) | (with_reducible refine HasBox.drew ?_) | (with_reducible refine HasBox.alloc ?_ _) | (with_reducible refine Box.call ?_ hb5) | (with_reducible refine HasBox.call ?_ hb5) | (with_reducible refine Box.call ?_ hb4) | (with_reducible refine HasBox.call ?_ hb4) | (with_reducible refine Box.call ?_ hb3) | (with_reducible refine HasBox.call ?_ hb3)))
      · (repeat (first | with_reducible assumption | (focus ((with_reducible refine Box.new ?_); simp; done)) | (with_reducible refine Box.alloc ?_ _) | (with_reducible refine Box.drew ?_) | (with_reducible refine Box.put ?_) | (focus ((with_reducible refine Box.set ?_ _ ?_); rotate_left; omega)) | (focus ((with_reducible apply HasBox.of); with_reducible assumption)) | (focus ((with_reducible refine HasBox.new ?_); simp; done)) | (with_reducible refine HasBox.set ?_ _ _) | (with_reducible refine HasBox.drew ?_) | (with_reducible refine HasBox.alloc ?_ _) | (with_reducible refine Box.call ?_ hb5) | (with_reducible refine HasBox.call ?_ hb5) | (with_reducible refine Box.call ?_ hb4) | (with_reducible refine HasBox.call ?_ hb4) | (with_reducible refine Box.call ?_ hb3) | (with_reducible refine HasBox.call ?_ hb3)))
      · (repeat (first | with_reducible assumption | (focus ((with_reducible refine Box.new ?_); simp; done)) | (with_reducible refine Box.alloc ?_ _) | (with_reducible refine Box.drew ?_) | (with_reducible refine Box.put ?_) | (focus ((with_reducible refine Box.set ?_ _ ?_); rotate_left; omega)) | (focus ((with_reducible apply HasBox.of); with_reducible assumption)) | (focus ((with_reducible refine HasBox.new ?_); simp; done)) | (with_reducible refine HasBox.set ?_ _ _) | (with_reducible refine HasBox.drew ?_) | (with_reducible refine HasBox.alloc ?_ _) | (with_reducible refine Box.call ?_ hb5) | (with_reducible refine HasBox.call ?_ hb5) | (with_reducible refine Box.call ?_ hb4) | (with_reducible refine HasBox.call ?_ hb4) | (with_reducible refine Box.call ?_ hb3) | (with_reducible refine HasBox.call ?_ hb3)))
      · (repeat (first | with_reducible assumption | (focus ((with_reducible refine Box.new ?_); simp; done)) | (with_reducible refine Box.alloc ?_ _) | (with_reducible refine Box.drew ?_) | (with_reducible refine Box.put ?_) | (focus ((with_reducible refine Box.set ?_ _ ?_); rotate_left; omega)) | (focus ((with_reducible apply HasBox.of); with_reducible assumption)) | (focus ((with_reducible refine HasBox.new ?_); simp; done)) | (with_reducible refine HasBox.set ?_ _ _) | (with_reducible refine HasBox.drew ?_) | (with_reducible refine HasBox.alloc ?_ _) | (with_reducible refine Box.call ?_ hb5) | (with_reducible refine HasBox.call ?_ hb5) | (with_reducible refine Box.call ?_ hb4) | (with_reducible refine HasBox.call ?_ hb4) | (with_reducible refine Box.call ?_ hb3) | (with_reducible refine HasBox.call ?_ hb3)))
      · (repeat (first | with_reducible assumption | (focus ((with_reducible refine Box.new ?_); simp; done)) | (with_reducible refine Box.alloc ?_ _) | (with_reducible refine Box.drew ?_) | (with_reducible refine Box.put ?_) | (focus ((with_reducible refine Box.set ?_ _ ?_); rotate_left; omega)) | (focus ((with_reducible apply HasBox.of); with_reducible assumption)) | (focus ((with_reducible refine HasBox.new ?_); simp; done)) | (with_reducible refine HasBox.set ?_ _ _) | (with_reducible refine HasBox.drew ?_) | (with_reducible refine HasBox.alloc ?_ _) | (with_reducible refine Box.call ?_ hb5) | (with_reducible refine HasBox.call ?_ hb5) | (with_reducible refine Box.call ?_ hb4) | (with_reducible refine HasBox.call ?_ hb4) | (with_reducible refine Box.call ?_ hb3) | (with_reducible refine HasBox.call ?_ hb3)))
      · (repeat (first | with_reducible assumption | (with_reducible refine IsN.alloc ?_ _) | (with_reducible refine IsN.drew ?_) | (with_reducible refine IsN.put ?_ ?_) | (with_reducible refine HasBB.put ?_) | (focus ((with_reducible apply HasBB.of); with_reducible assumption)) | (focus ((with_reducible refine HasBB.new ?_); simp; done)) | (with_reducible refine HasBB.drew ?_) | (with_reducible refine HasBB.alloc ?_ _) | (focus ((with_reducible refine HasBB.set ?_ _ ?_); rotate_left; omega)) | (with_reducible refine IsN.call ?_ hb5) | (with_reducible refine HasBB.call ?_ hb5) | (with_reducible refine IsN.call ?_ hb4) | (with_reducible refine HasBB.call ?_ hb4) | (with_reducible refine IsN.call ?_ hb3) | (with_reducible refine HasBB.call ?_ hb3)))
      · (repeat (first | with_reducible assumption | (with_reducible refine IsN.alloc ?_ _) | (with_reducible refine IsN.drew ?_) | (with_reducible refine IsN.put ?_ ?_) | (with_reducible refine HasBB.put ?_) | (focus ((with_reducible apply HasBB.of); with_reducible assumption)) | (focus ((with_reducible refine HasBB.new ?_); simp; done)) | (with_reducible refine HasBB.drew ?_) | (with_reducible refine HasBB.alloc ?_ _) | (focus ((with_reducible refine HasBB.set ?_ _ ?_); rotate_left; omega)) | (with_reducible refine IsN.call ?_ hb5) | (with_reducible refine HasBB.call ?_ hb5) | (with_reducible refine IsN.call ?_ hb4) | (with_reducible refine HasBB.call ?_ hb4) | (with_reducible refine IsN.call ?_ hb3) | (with_reducible refine HasBB.call ?_ hb3)))
      · (repeat (first | (with_reducible exact Below.refl _ _) | with_reducible assumption | (with_reducible refine below_alloc ?_ _) | (focus ((with_reducible refine below_set ?_ _ _ _ ?_); rotate_left; omega)) | (with_reducible refine Below.drew ?_) | (with_reducible refine below_call ?_ hb5) | (with_reducible refine below_call ?_ hb4) | (with_reducible refine below_call ?_ hb3)))
  case rest =>
    obtain ⟨g8, g9, x, A, p, c, x', A', p', c', rfl, rfl, A0⟩ := hcut
    have FQ := Lib.hid hq.fits
    have FR := Lib.hid hr.fits
    have I2 : Hid (icmp (n % m) m = -1) := icmp_lt QF.out.2.2.2
    obtain ⟨sr, hsr, hsr0⟩ : ∃ s, icmp (n % m) 0 = s ∧ 0 ≤ s := ⟨_, rfl, icmp_ge.2 QF.out.2.2.1⟩
    have I1 := Lib.hid hsr
    clear hsr htab B_w2_0 c_w2_0 d_w2_0 f_w2_0 g_w2_0 B_w2_1 c_w2_1 d_w2_1 f_w2_1 g_w2_1 B_w2_2 c_w2_2 d_w2_2 f_w2_2 g_w2_2 B_w2_3 c_w2_3 d_w2_3 f_w2_3 g_w2_3 hb2 hb1 bl2 z1 z2 z3 z4 y1 y2 y3 y4 S0 D0
    have hneg := H1.neg
    obtain ⟨ce00, ce01⟩ := (A0).b1; have cel0 := (A0).x1.lt; have cen0 := Nat.ne_of_lt cel0; have ceg0 := Nat.ne_of_gt cel0; obtain ⟨ce10, ce11⟩ := (A0.tl).b1; have cel1 := (A0.tl).x1.lt; have cen1 := Nat.ne_of_lt cel1; have ceg1 := Nat.ne_of_gt cel1; obtain ⟨ce20, ce21⟩ := (A0.tl.tl).b1; have cel2 := (A0.tl.tl).x1.lt; have cen2 := Nat.ne_of_lt cel2; have ceg2 := Nat.ne_of_gt cel2; obtain ⟨ce30, ce31⟩ := (A0.tl.tl.tl).b1; have cel3 := (A0.tl.tl.tl).x1.lt; have cen3 := Nat.ne_of_lt cel3; have ceg3 := Nat.ne_of_gt cel3; obtain ⟨ce40, ce41⟩ := (A0.tl.tl.tl.tl).b1; have cel4 := (A0.tl.tl.tl.tl).x1.lt; have cen4 := Nat.ne_of_lt cel4; have ceg4 := Nat.ne_of_gt cel4; obtain ⟨ce50, ce51⟩ := (A0.tl.tl.tl.tl.tl).b1; have cel5 := (A0.tl.tl.tl.tl.tl).x1.lt; have cen5 := Nat.ne_of_lt cel5; have ceg5 := Nat.ne_of_gt cel5
    have M0 := Lib.hid (fun w => Mul_any _ _ _ _ _ _ w hq H2)
    by_cases hf : fits (n / m * m) = true
    · have sD0 : 0 ≤ sr := hsr0
      go_wp2_with fail
      refine (M0.out _).mono ?_
      rintro e w3 ⟨pa, pb, rfl, hp, hb⟩
      rw [if_pos hf] at hp
      clear ce00 ce01 cen0 ceg0 cel0 ce10 ce11 cen1 ceg1 cel1 ce20 ce21 cen2 ceg2 cel2 ce30 ce31 cen3 ceg3 cel3 ce40 ce41 cen4 ceg4 cel4 ce50 ce51 cen5 ceg5 cel5
      replace A0 := A0.call hb
      clear hb
      obtain ⟨ce00, ce01⟩ := (A0).b1; have cel0 := (A0).x1.lt; have cen0 := Nat.ne_of_lt cel0; have ceg0 := Nat.ne_of_gt cel0; obtain ⟨ce10, ce11⟩ := (A0.tl).b1; have cel1 := (A0.tl).x1.lt; have cen1 := Nat.ne_of_lt cel1; have ceg1 := Nat.ne_of_gt cel1; obtain ⟨ce20, ce21⟩ := (A0.tl.tl).b1; have cel2 := (A0.tl.tl).x1.lt; have cen2 := Nat.ne_of_lt cel2; have ceg2 := Nat.ne_of_gt cel2; obtain ⟨ce30, ce31⟩ := (A0.tl.tl.tl).b1; have cel3 := (A0.tl.tl.tl).x1.lt; have cen3 := Nat.ne_of_lt cel3; have ceg3 := Nat.ne_of_gt cel3; obtain ⟨ce40, ce41⟩ := (A0.tl.tl.tl.tl).b1; have cel4 := (A0.tl.tl.tl.tl).x1.lt; have cen4 := Nat.ne_of_lt cel4; have ceg4 := Nat.ne_of_gt cel4; obtain ⟨ce50, ce51⟩ := (A0.tl.tl.tl.tl.tl).b1; have cel5 := (A0.tl.tl.tl.tl.tl).x1.lt; have cen5 := Nat.ne_of_lt cel5; have ceg5 := Nat.ne_of_gt cel5
      have B0 := A0.new (t := 24) (u := .int .i64 pa) (v := .int .u64 pb) rfl
      clear A0
      have P0 : Hid (∀ w, Calls Tryd.prog 13 #[.agg #[.int .i64 pa, .int .u64 pb], .agg #[.int .i64 ra, .int .u64 rb]] w (RWF n w)) := fun w => by have := Add_any _ _ _ _ _ _ w hp hr; rw [QF.out.2.1] at this; exact this
      have hfn : fits n = true := F1.out
      go_wp2_with fail
      refine (P0.out _).mono ?_
      rintro e w4 ⟨sa, sb, rfl, hs, hb⟩
      rw [if_pos hfn] at hs
      clear ce00 ce01 cen0 ceg0 cel0 ce10 ce11 cen1 ceg1 cel1 ce20 ce21 cen2 ceg2 cel2 ce30 ce31 cen3 ceg3 cel3 ce40 ce41 cen4 ceg4 cel4 ce50 ce51 cen5 ceg5 cel5
      replace B0 := B0.call hb
      clear hb
      obtain ⟨ce00, ce01⟩ := (B0).b1; have cel0 := (B0).x1.lt; have cen0 := Nat.ne_of_lt cel0; have ceg0 := Nat.ne_of_gt cel0; obtain ⟨ce10, ce11⟩ := (B0.tl).b1; have cel1 := (B0.tl).x1.lt; have cen1 := Nat.ne_of_lt cel1; have ceg1 := Nat.ne_of_gt cel1; obtain ⟨ce20, ce21⟩ := (B0.tl.tl).b1; have cel2 := (B0.tl.tl).x1.lt; have cen2 := Nat.ne_of_lt cel2; have ceg2 := Nat.ne_of_gt cel2; obtain ⟨ce30, ce31⟩ := (B0.tl.tl.tl).b1; have cel3 := (B0.tl.tl.tl).x1.lt; have cen3 := Nat.ne_of_lt cel3; have ceg3 := Nat.ne_of_gt cel3; obtain ⟨ce40, ce41⟩ := (B0.tl.tl.tl.tl).b1; have cel4 := (B0.tl.tl.tl.tl).x1.lt; have cen4 := Nat.ne_of_lt cel4; have ceg4 := Nat.ne_of_gt cel4; obtain ⟨ce50, ce51⟩ := (B0.tl.tl.tl.tl.tl).b1; have cel5 := (B0.tl.tl.tl.tl.tl).x1.lt; have cen5 := Nat.ne_of_lt cel5; have ceg5 := Nat.ne_of_gt cel5; obtain ⟨ce60, ce61⟩ := (B0.tl.tl.tl.tl.tl.tl).b1; have cel6 := (B0.tl.tl.tl.tl.tl.tl).x1.lt; have cen6 := Nat.ne_of_lt cel6; have ceg6 := Nat.ne_of_gt cel6
      have EQ : eqW sa sb h1 l1 = true := eq_of hs H1
      have A0 := (B0.new (t := 24) (u := .int .i64 sa) (v := .int .u64 sb) rfl).drew
      clear B0
      go_wp2_with fail
      clear ce00 ce01 cen0 ceg0 cel0 ce10 ce11 cen1 ceg1 cel1 ce20 ce21 cen2 ceg2 cel2 ce30 ce31 cen3 ceg3 cel3 ce40 ce41 cen4 ceg4 cel4 ce50 ce51 cen5 ceg5 cel5 ce60 ce61 cen6 ceg6 cel6
      have B0 := A0
      clear A0
      have hSr10 := And.intro B0.tl.tl.b1 (And.intro B0.tl.tl.tl.b1 (And.intro B0.tl.tl.tl.tl.b1 (And.intro B0.tl.tl.tl.tl.tl.b1 (And.intro B0.tl.tl.tl.tl.tl.tl.b1 B0.tl.tl.tl.tl.tl.tl.tl.b1))))
      refine wp_region_held_drew (S := (fun w' => (w'.cell? ⟨g9, 0, none⟩ = some (.bool x') ∧ w'.cell? ⟨g9, 1, none⟩ = some (.slice A' p' c')) ∧ (w'.cell? ⟨g8, 0, none⟩ = some (.bool x) ∧ w'.cell? ⟨g8, 1, none⟩ = some (.slice A p c)) ∧ (w'.cell? ⟨w1.heap.size + 1, 0, none⟩ = some (.int .i64 ra) ∧ w'.cell? ⟨w1.heap.size + 1, 1, none⟩ = some (.int .u64 rb)) ∧ (w'.cell? ⟨w1.heap.size, 0, none⟩ = some (.int .i64 qa) ∧ w'.cell? ⟨w1.heap.size, 1, none⟩ = some (.int .u64 qb)) ∧ (w'.cell? ⟨w.heap.size + 1, 0, none⟩ = some (.int .i64 h2) ∧ w'.cell? ⟨w.heap.size + 1, 1, none⟩ = some (.int .u64 l2)) ∧ (w'.cell? ⟨w.heap.size, 0, none⟩ = some (.int .i64 h1) ∧ w'.cell? ⟨w.heap.size, 1, none⟩ = some (.int .u64 l1)))) (by kernel_rfl) hSr10 (fun _ => ?_)
      refine wpAnyH_ready (rs := [0]) (by kernel_rfl) (by simp) ?_
      refine AllReadyH.cons rfl (fun K hK => ?_) AllReadyH.nil
      go_simp
      refine (alive_any _ B0.tab).mono ?_
      rintro e v1 ⟨rfl, hb⟩
      have C1 := B0.call hb
      clear hb
      have hSr11 := And.intro C1.tl.tl.b1 (And.intro C1.tl.tl.tl.b1 (And.intro C1.tl.tl.tl.tl.b1 (And.intro C1.tl.tl.tl.tl.tl.b1 (And.intro C1.tl.tl.tl.tl.tl.tl.b1 C1.tl.tl.tl.tl.tl.tl.tl.b1))))
      go_wp2_with fail
      refine hK.out _ _ hSr11 (fun _ => ?_)
      clear hK K hSr10
      refine takeH (i := 1) (t := 71) (v := ?vr1_1) rfl rfl (by kernel_rfl) (by kernel_rfl) (by kernel_rfl) (fun _ _ _ h => h) (Or.inl ⟨by rfl, ?yr1_1⟩) hSr11 ?rr1_1
      case yr1_1 => (intro w hSw; obtain ⟨⟨_, _⟩, ⟨_, _⟩, ⟨_, _⟩, ⟨_, _⟩, ⟨_, _⟩, _, _⟩ := id hSw; go_simp; try (with_reducible rfl))
      simp only [Act.put, List.setIfInBounds_toArray, List.set_cons_zero, List.set_cons_succ]
      refine takeH (i := 2) (t := 72) (v := ?vr1_2) rfl rfl (by kernel_rfl) (by kernel_rfl) (by kernel_rfl) (fun _ _ _ h => h) (Or.inl ⟨by rfl, ?yr1_2⟩) hSr11 ?rr1_2
      case yr1_2 => (intro w hSw; obtain ⟨⟨_, _⟩, ⟨_, _⟩, ⟨_, _⟩, ⟨_, _⟩, ⟨_, _⟩, _, _⟩ := id hSw; go_simp; try (with_reducible rfl))
      simp only [Act.put, List.setIfInBounds_toArray, List.set_cons_zero, List.set_cons_succ]
      refine takeH (i := 3) (t := 73) (v := ?vr1_3) rfl rfl (by kernel_rfl) (by kernel_rfl) (by kernel_rfl) (fun _ _ _ h => h) (Or.inl ⟨by rfl, ?yr1_3⟩) hSr11 ?rr1_3
      case yr1_3 => (intro w hSw; obtain ⟨⟨_, _⟩, ⟨_, _⟩, ⟨_, _⟩, ⟨_, _⟩, ⟨_, _⟩, _, _⟩ := id hSw; go_simp; try (with_reducible rfl))
      simp only [Act.put, List.setIfInBounds_toArray, List.set_cons_zero, List.set_cons_succ]
      refine takeH (i := 4) (t := 74) (v := ?vr1_4) rfl rfl (by kernel_rfl) (by kernel_rfl) (by kernel_rfl) (fun _ _ _ h => h) (Or.inl ⟨by rfl, ?yr1_4⟩) hSr11 ?rr1_4
      case yr1_4 => (intro w hSw; obtain ⟨⟨_, _⟩, ⟨_, _⟩, ⟨_, _⟩, ⟨_, _⟩, ⟨_, _⟩, _, _⟩ := id hSw; go_simp; try (with_reducible rfl))
      simp only [Act.put, List.setIfInBounds_toArray, List.set_cons_zero, List.set_cons_succ]
      refine takeH (i := 5) (t := 75) (v := ?vr1_5) rfl rfl (by kernel_rfl) (by kernel_rfl) (by kernel_rfl) (fun _ _ _ h => h) (Or.inl ⟨by rfl, ?yr1_5⟩) hSr11 ?rr1_5
      case yr1_5 => (intro w hSw; obtain ⟨⟨_, _⟩, ⟨_, _⟩, ⟨_, _⟩, ⟨_, _⟩, ⟨_, _⟩, _, _⟩ := id hSw; go_simp; try (with_reducible rfl))
      simp only [Act.put, List.setIfInBounds_toArray, List.set_cons_zero, List.set_cons_succ]
      refine takeH (i := 7) (t := 77) (v := ?vr1_7) rfl rfl (by kernel_rfl) (by kernel_rfl) (by kernel_rfl) (fun _ _ _ h => h) (Or.inl ⟨by rfl, ?yr1_7⟩) hSr11 ?rr1_7
      case yr1_7 => (intro w hSw; obtain ⟨⟨_, _⟩, ⟨_, _⟩, ⟨_, _⟩, ⟨_, _⟩, ⟨_, _⟩, _, _⟩ := id hSw; go_simp; try (with_reducible rfl))
      simp only [Act.put, List.setIfInBounds_toArray, List.set_cons_zero, List.set_cons_succ]
      refine wpAnyH_ready (rs := [6]) (by kernel_rfl) (by simp) ?_
      refine AllReadyH.cons rfl (fun K hK => ?_) AllReadyH.nil
      go_simp
      refine (num_any _ _ _ _ hq).mono ?_
      rintro e v2 ⟨x2, A2, y2, c2, rfl, k2, hb⟩
      have C2 := C1.call hb
      clear hb
      have hSr12 := And.intro C2.tl.tl.b1 (And.intro C2.tl.tl.tl.b1 (And.intro C2.tl.tl.tl.tl.b1 (And.intro C2.tl.tl.tl.tl.tl.b1 (And.intro C2.tl.tl.tl.tl.tl.tl.b1 C2.tl.tl.tl.tl.tl.tl.tl.b1))))
      go_wp2_with fail
      refine hK.out _ _ hSr12 (fun _ => ?_)
      clear hK K hSr11
      refine wpAnyH_ready (rs := [8]) (by kernel_rfl) (by simp) ?_
      refine AllReadyH.cons rfl (fun K hK => ?_) AllReadyH.nil
      go_simp
      refine (rCmp_any _ _ _ _ _ _ _ _ _ _ _ k2 C2.ntl.n1 (lenF k2 FQ.out (by omega)) (lenF C2.ntl.n1 FQ.out (by omega))).mono ?_
      rintro e v3 ⟨rfl, hb⟩
      rw [icmp_self]
      have C3 := C2.call hb
      clear hb
      have hSr13 := And.intro C3.tl.tl.b1 (And.intro C3.tl.tl.tl.b1 (And.intro C3.tl.tl.tl.tl.b1 (And.intro C3.tl.tl.tl.tl.tl.b1 (And.intro C3.tl.tl.tl.tl.tl.tl.b1 C3.tl.tl.tl.tl.tl.tl.tl.b1))))
      go_wp2_with fail
      refine hK.out _ _ hSr13 (fun _ => ?_)
      clear hK K hSr12
      refine takeH (i := 9) (t := 79) (v := ?vr1_9) rfl rfl (by kernel_rfl) (by kernel_rfl) (by kernel_rfl) (fun _ _ _ h => h) (Or.inl ⟨by rfl, ?yr1_9⟩) hSr13 ?rr1_9
      case yr1_9 => (intro w hSw; obtain ⟨⟨_, _⟩, ⟨_, _⟩, ⟨_, _⟩, ⟨_, _⟩, ⟨_, _⟩, _, _⟩ := id hSw; go_simp; try (with_reducible rfl))
      simp only [Act.put, List.setIfInBounds_toArray, List.set_cons_zero, List.set_cons_succ]
      refine takeH (i := 10) (t := 80) (v := ?vr1_10) rfl rfl (by kernel_rfl) (by kernel_rfl) (by kernel_rfl) (fun _ _ _ h => h) (Or.inl ⟨by rfl, ?yr1_10⟩) hSr13 ?rr1_10
      case yr1_10 => (intro w hSw; obtain ⟨⟨_, _⟩, ⟨_, _⟩, ⟨_, _⟩, ⟨_, _⟩, ⟨_, _⟩, _, _⟩ := id hSw; go_simp; try (with_reducible rfl))
      simp only [Act.put, List.setIfInBounds_toArray, List.set_cons_zero, List.set_cons_succ]
      refine takeH (i := 11) (t := 81) (v := ?vr1_11) rfl rfl (by kernel_rfl) (by kernel_rfl) (by kernel_rfl) (fun _ _ _ h => h) (Or.inl ⟨by rfl, ?yr1_11⟩) hSr13 ?rr1_11
      case yr1_11 => (intro w hSw; obtain ⟨⟨_, _⟩, ⟨_, _⟩, ⟨_, _⟩, ⟨_, _⟩, ⟨_, _⟩, _, _⟩ := id hSw; go_simp; try (with_reducible rfl))
      simp only [Act.put, List.setIfInBounds_toArray, List.set_cons_zero, List.set_cons_succ]
      refine takeH (i := 12) (t := 82) (v := ?vr1_12) rfl rfl (by kernel_rfl) (by kernel_rfl) (by kernel_rfl) (fun _ _ _ h => h) (Or.inl ⟨by rfl, ?yr1_12⟩) hSr13 ?rr1_12
      case yr1_12 => (intro w hSw; obtain ⟨⟨_, _⟩, ⟨_, _⟩, ⟨_, _⟩, ⟨_, _⟩, ⟨_, _⟩, _, _⟩ := id hSw; go_simp; try (with_reducible rfl))
      simp only [Act.put, List.setIfInBounds_toArray, List.set_cons_zero, List.set_cons_succ]
      refine takeH (i := 14) (t := 84) (v := ?vr1_14) rfl rfl (by kernel_rfl) (by kernel_rfl) (by kernel_rfl) (fun _ _ _ h => h) (Or.inl ⟨by rfl, ?yr1_14⟩) hSr13 ?rr1_14
      case yr1_14 => (intro w hSw; obtain ⟨⟨_, _⟩, ⟨_, _⟩, ⟨_, _⟩, ⟨_, _⟩, ⟨_, _⟩, _, _⟩ := id hSw; go_simp; try (with_reducible rfl))
      simp only [Act.put, List.setIfInBounds_toArray, List.set_cons_zero, List.set_cons_succ]
      refine wpAnyH_ready (rs := [13]) (by kernel_rfl) (by simp) ?_
      refine AllReadyH.cons rfl (fun K hK => ?_) AllReadyH.nil
      go_simp
      refine (num_any _ _ _ _ hr).mono ?_
      rintro e v4 ⟨x4, A4, y4, c4, rfl, k4, hb⟩
      have C4 := C3.call hb
      clear hb
      have hSr14 := And.intro C4.tl.tl.b1 (And.intro C4.tl.tl.tl.b1 (And.intro C4.tl.tl.tl.tl.b1 (And.intro C4.tl.tl.tl.tl.tl.b1 (And.intro C4.tl.tl.tl.tl.tl.tl.b1 C4.tl.tl.tl.tl.tl.tl.tl.b1))))
      go_wp2_with fail
      refine hK.out _ _ hSr14 (fun _ => ?_)
      clear hK K hSr13
      refine wpAnyH_ready (rs := [15]) (by kernel_rfl) (by simp) ?_
      refine AllReadyH.cons rfl (fun K hK => ?_) AllReadyH.nil
      go_simp
      refine (rCmp_any _ _ _ _ _ _ _ _ _ _ _ k4 C4.n1 (lenF k4 FR.out (by omega)) (lenF C4.n1 FR.out (by omega))).mono ?_
      rintro e v5 ⟨rfl, hb⟩
      rw [icmp_self]
      have C5 := C4.call hb
      clear hb
      have hSr15 := And.intro C5.tl.tl.b1 (And.intro C5.tl.tl.tl.b1 (And.intro C5.tl.tl.tl.tl.b1 (And.intro C5.tl.tl.tl.tl.tl.b1 (And.intro C5.tl.tl.tl.tl.tl.tl.b1 C5.tl.tl.tl.tl.tl.tl.tl.b1))))
      go_wp2_with fail
      refine hK.out _ _ hSr15 (fun _ => ?_)
      clear hK K hSr14
      refine takeH (i := 16) (t := 86) (v := ?vr1_16) rfl rfl (by kernel_rfl) (by kernel_rfl) (by kernel_rfl) (fun _ _ _ h => h) (Or.inl ⟨by rfl, ?yr1_16⟩) hSr15 ?rr1_16
      case yr1_16 => (intro w hSw; obtain ⟨⟨_, _⟩, ⟨_, _⟩, ⟨_, _⟩, ⟨_, _⟩, ⟨_, _⟩, _, _⟩ := id hSw; go_simp; try (with_reducible rfl))
      simp only [Act.put, List.setIfInBounds_toArray, List.set_cons_zero, List.set_cons_succ]
      refine takeH (i := 17) (t := 87) (v := ?vr1_17) rfl rfl (by kernel_rfl) (by kernel_rfl) (by kernel_rfl) (fun _ _ _ h => h) (Or.inl ⟨by rfl, ?yr1_17⟩) hSr15 ?rr1_17
      case yr1_17 => (intro w hSw; obtain ⟨⟨_, _⟩, ⟨_, _⟩, ⟨_, _⟩, ⟨_, _⟩, ⟨_, _⟩, _, _⟩ := id hSw; go_simp; try (with_reducible rfl))
      simp only [Act.put, List.setIfInBounds_toArray, List.set_cons_zero, List.set_cons_succ]
      refine takeH (i := 18) (t := 88) (v := ?vr1_18) rfl rfl (by kernel_rfl) (by kernel_rfl) (by kernel_rfl) (fun _ _ _ h => h) (Or.inl ⟨by rfl, ?yr1_18⟩) hSr15 ?rr1_18
      case yr1_18 => (intro w hSw; obtain ⟨⟨_, _⟩, ⟨_, _⟩, ⟨_, _⟩, ⟨_, _⟩, ⟨_, _⟩, _, _⟩ := id hSw; go_simp; try (with_reducible rfl))
      simp only [Act.put, List.setIfInBounds_toArray, List.set_cons_zero, List.set_cons_succ]
      refine takeH (i := 19) (t := 89) (v := ?vr1_19) rfl rfl (by kernel_rfl) (by kernel_rfl) (by kernel_rfl) (fun _ _ _ h => h) (Or.inl ⟨by rfl, ?yr1_19⟩) hSr15 ?rr1_19
      case yr1_19 => (intro w hSw; obtain ⟨⟨_, _⟩, ⟨_, _⟩, ⟨_, _⟩, ⟨_, _⟩, ⟨_, _⟩, _, _⟩ := id hSw; go_simp; try (with_reducible rfl))
      simp only [Act.put, List.setIfInBounds_toArray, List.set_cons_zero, List.set_cons_succ]
      refine wpAnyH_ready (rs := [20]) (by kernel_rfl) (by simp) ?_
      refine AllReadyH.cons rfl (fun K hK => ?_) AllReadyH.nil
      go_simp
      refine (Sign_any _ _ _ _ hr).mono ?_
      rintro e v6 ⟨rfl, hb⟩
      rw [I1.out]
      have C6 := C5.call hb
      clear hb
      have hSr16 := And.intro C6.tl.tl.b1 (And.intro C6.tl.tl.tl.b1 (And.intro C6.tl.tl.tl.tl.b1 (And.intro C6.tl.tl.tl.tl.tl.b1 (And.intro C6.tl.tl.tl.tl.tl.tl.b1 C6.tl.tl.tl.tl.tl.tl.tl.b1))))
      go_wp2_with fail
      refine hK.out _ _ hSr16 (fun _ => ?_)
      clear hK K hSr15
      refine takeH (i := 21) (t := 91) (v := ?vr1_21) rfl rfl (by kernel_rfl) (by kernel_rfl) (by kernel_rfl) (fun _ _ _ h => h) (Or.inl ⟨by rfl, ?yr1_21⟩) hSr16 ?rr1_21
      case yr1_21 => (intro w hSw; obtain ⟨⟨_, _⟩, ⟨_, _⟩, ⟨_, _⟩, ⟨_, _⟩, ⟨_, _⟩, _, _⟩ := id hSw; go_simp; try (with_reducible rfl))
      simp only [Act.put, List.setIfInBounds_toArray, List.set_cons_zero, List.set_cons_succ]
      refine takeH (i := 22) (t := 92) (v := ?vr1_22) rfl rfl (by kernel_rfl) (by kernel_rfl) (by kernel_rfl) (fun _ _ _ h => h) (Or.inl ⟨by rfl, ?yr1_22⟩) hSr16 ?rr1_22
      case yr1_22 => (intro w hSw; obtain ⟨⟨_, _⟩, ⟨_, _⟩, ⟨_, _⟩, ⟨_, _⟩, ⟨_, _⟩, _, _⟩ := id hSw; go_simp; try (with_reducible rfl))
      simp only [Act.put, List.setIfInBounds_toArray, List.set_cons_zero, List.set_cons_succ]
      refine takeH (i := 23) (t := 93) (v := ?vr1_23) rfl rfl (by kernel_rfl) (by kernel_rfl) (by kernel_rfl) (fun _ _ _ h => h) (Or.inl ⟨by rfl, ?yr1_23⟩) hSr16 ?rr1_23
      case yr1_23 => (intro w hSw; obtain ⟨⟨_, _⟩, ⟨_, _⟩, ⟨_, _⟩, ⟨_, _⟩, ⟨_, _⟩, _, _⟩ := id hSw; go_simp; try (with_reducible rfl))
      simp only [Act.put, List.setIfInBounds_toArray, List.set_cons_zero, List.set_cons_succ]
      refine takeH (i := 24) (t := 94) (v := ?vr1_24) rfl rfl (by kernel_rfl) (by kernel_rfl) (by kernel_rfl) (fun _ _ _ h => h) (Or.inl ⟨by rfl, ?yr1_24⟩) hSr16 ?rr1_24
      case yr1_24 => (intro w hSw; obtain ⟨⟨_, _⟩, ⟨_, _⟩, ⟨_, _⟩, ⟨_, _⟩, ⟨_, _⟩, _, _⟩ := id hSw; go_simp; try (with_reducible rfl))
      simp only [Act.put, List.setIfInBounds_toArray, List.set_cons_zero, List.set_cons_succ]
      refine takeH (i := 25) (t := 95) (v := ?vr1_25) rfl rfl (by kernel_rfl) (by kernel_rfl) (by kernel_rfl) (fun _ _ _ h => h) (Or.inl ⟨by rfl, ?yr1_25⟩) hSr16 ?rr1_25
      case yr1_25 => (intro w hSw; obtain ⟨⟨_, _⟩, ⟨_, _⟩, ⟨_, _⟩, ⟨_, _⟩, ⟨_, _⟩, _, _⟩ := id hSw; go_simp; try (with_reducible rfl))
      simp only [Act.put, List.setIfInBounds_toArray, List.set_cons_zero, List.set_cons_succ]
      refine wpAnyH_ready (rs := [26]) (by kernel_rfl) (by simp) ?_
      refine AllReadyH.cons rfl (fun K hK => ?_) AllReadyH.nil
      go_simp
      refine (Cmp_any _ _ _ _ _ _ _ hr H2).mono ?_
      rintro e v7 ⟨rfl, hb⟩
      rw [I2.out]
      have C7 := C6.call hb
      clear hb
      have hSr17 := And.intro C7.tl.tl.b1 (And.intro C7.tl.tl.tl.b1 (And.intro C7.tl.tl.tl.tl.b1 (And.intro C7.tl.tl.tl.tl.tl.b1 (And.intro C7.tl.tl.tl.tl.tl.tl.b1 C7.tl.tl.tl.tl.tl.tl.tl.b1))))
      go_wp2_with fail
      refine hK.out _ _ hSr17 (fun _ => ?_)
      clear hK K hSr16
      refine takeH (i := 27) (t := 97) (v := ?vr1_27) rfl rfl (by kernel_rfl) (by kernel_rfl) (by kernel_rfl) (fun _ _ _ h => h) (Or.inl ⟨by rfl, ?yr1_27⟩) hSr17 ?rr1_27
      case yr1_27 => (intro w hSw; obtain ⟨⟨_, _⟩, ⟨_, _⟩, ⟨_, _⟩, ⟨_, _⟩, ⟨_, _⟩, _, _⟩ := id hSw; go_simp; try (with_reducible rfl))
      simp only [Act.put, List.setIfInBounds_toArray, List.set_cons_zero, List.set_cons_succ]
      refine takeH (i := 28) (t := 98) (v := ?vr1_28) rfl rfl (by kernel_rfl) (by kernel_rfl) (by kernel_rfl) (fun _ _ _ h => h) (Or.inl ⟨by rfl, ?yr1_28⟩) hSr17 ?rr1_28
      case yr1_28 => (intro w hSw; obtain ⟨⟨_, _⟩, ⟨_, _⟩, ⟨_, _⟩, ⟨_, _⟩, ⟨_, _⟩, _, _⟩ := id hSw; go_simp; try (with_reducible rfl))
      simp only [Act.put, List.setIfInBounds_toArray, List.set_cons_zero, List.set_cons_succ]
      refine takeH (i := 29) (t := 99) (v := ?vr1_29) rfl rfl (by kernel_rfl) (by kernel_rfl) (by kernel_rfl) (fun _ _ _ h => h) (Or.inl ⟨by rfl, ?yr1_29⟩) hSr17 ?rr1_29
      case yr1_29 => (intro w hSw; obtain ⟨⟨_, _⟩, ⟨_, _⟩, ⟨_, _⟩, ⟨_, _⟩, ⟨_, _⟩, _, _⟩ := id hSw; go_simp; try (with_reducible rfl))
      simp only [Act.put, List.setIfInBounds_toArray, List.set_cons_zero, List.set_cons_succ]
      refine takeH (i := 30) (t := 100) (v := ?vr1_30) rfl rfl (by kernel_rfl) (by kernel_rfl) (by kernel_rfl) (fun _ _ _ h => h) (Or.inl ⟨by rfl, ?yr1_30⟩) hSr17 ?rr1_30
      case yr1_30 => (intro w hSw; obtain ⟨⟨_, _⟩, ⟨_, _⟩, ⟨_, _⟩, ⟨_, _⟩, ⟨_, _⟩, _, _⟩ := id hSw; go_simp; try (with_reducible rfl))
      simp only [Act.put, List.setIfInBounds_toArray, List.set_cons_zero, List.set_cons_succ]
      refine takeH (i := 31) (t := 101) (v := ?vr1_31) rfl rfl (by kernel_rfl) (by kernel_rfl) (by kernel_rfl) (fun _ _ _ h => h) (Or.inl ⟨by rfl, ?yr1_31⟩) hSr17 ?rr1_31
      case yr1_31 => (intro w hSw; obtain ⟨⟨_, _⟩, ⟨_, _⟩, ⟨_, _⟩, ⟨_, _⟩, ⟨_, _⟩, _, _⟩ := id hSw; go_simp; try (with_reducible rfl))
      simp only [Act.put, List.setIfInBounds_toArray, List.set_cons_zero, List.set_cons_succ]
      refine takeH (i := 32) (t := 102) (v := ?vr1_32) rfl rfl (by kernel_rfl) (by kernel_rfl) (by kernel_rfl) (fun _ _ _ h => h) (Or.inl ⟨by rfl, ?yr1_32⟩) hSr17 ?rr1_32
      case yr1_32 => (intro w hSw; obtain ⟨⟨_, _⟩, ⟨_, _⟩, ⟨_, _⟩, ⟨_, _⟩, ⟨_, _⟩, _, _⟩ := id hSw; go_simp; try (with_reducible rfl))
      simp only [Act.put, List.setIfInBounds_toArray, List.set_cons_zero, List.set_cons_succ]
      refine takeH (i := 33) (t := 103) (v := ?vr1_33) rfl rfl (by kernel_rfl) (by kernel_rfl) (by kernel_rfl) (fun _ _ _ h => h) (Or.inl ⟨by rfl, ?yr1_33⟩) hSr17 ?rr1_33
      case yr1_33 => (intro w hSw; obtain ⟨⟨_, _⟩, ⟨_, _⟩, ⟨_, _⟩, ⟨_, _⟩, ⟨_, _⟩, _, _⟩ := id hSw; go_simp; try (with_reducible rfl))
      simp only [Act.put, List.setIfInBounds_toArray, List.set_cons_zero, List.set_cons_succ]
      refine takeH (i := 34) (t := 104) (v := ?vr1_34) rfl rfl (by kernel_rfl) (by kernel_rfl) (by kernel_rfl) (fun _ _ _ h => h) (Or.inl ⟨by rfl, ?yr1_34⟩) hSr17 ?rr1_34
      case yr1_34 => (intro w hSw; obtain ⟨⟨_, _⟩, ⟨_, _⟩, ⟨_, _⟩, ⟨_, _⟩, ⟨_, _⟩, _, _⟩ := id hSw; go_simp; try (with_reducible rfl))
      simp only [Act.put, List.setIfInBounds_toArray, List.set_cons_zero, List.set_cons_succ]
      refine takeH (i := 35) (t := 105) (v := undef) rfl rfl (by kernel_rfl) (by kernel_rfl) (by kernel_rfl) (fun _ _ _ h => h) (Or.inr ⟨by rfl, rfl⟩) hSr17 ?_
      simp only [Act.put, List.setIfInBounds_toArray, List.set_cons_zero, List.set_cons_succ]
      refine takeH (i := 36) (t := 106) (v := undef) rfl rfl (by kernel_rfl) (by kernel_rfl) (by kernel_rfl) (fun _ _ _ h => h) (Or.inr ⟨by rfl, rfl⟩) hSr17 ?_
      simp only [Act.put, List.setIfInBounds_toArray, List.set_cons_zero, List.set_cons_succ]
      refine takeH (i := 37) (t := 107) (v := undef) rfl rfl (by kernel_rfl) (by kernel_rfl) (by kernel_rfl) (fun _ _ _ h => h) (Or.inr ⟨by rfl, rfl⟩) hSr17 ?_
      simp only [Act.put, List.setIfInBounds_toArray, List.set_cons_zero, List.set_cons_succ]
      refine takeH (i := 38) (t := 108) (v := ?vr1_38) rfl rfl (by kernel_rfl) (by kernel_rfl) (by kernel_rfl) (fun _ _ _ h => h) (Or.inl ⟨by rfl, ?yr1_38⟩) hSr17 ?rr1_38
      case yr1_38 => (intro w hSw; obtain ⟨⟨_, _⟩, ⟨_, _⟩, ⟨_, _⟩, ⟨_, _⟩, ⟨_, _⟩, _, _⟩ := id hSw; go_simp; try (with_reducible rfl))
      simp only [Act.put, List.setIfInBounds_toArray, List.set_cons_zero, List.set_cons_succ]
      refine takeH (i := 39) (t := 109) (v := ?vr1_39) rfl rfl (by kernel_rfl) (by kernel_rfl) (by kernel_rfl) (fun _ _ _ h => h) (Or.inl ⟨by rfl, ?yr1_39⟩) hSr17 ?rr1_39
      case yr1_39 => (intro w hSw; obtain ⟨⟨_, _⟩, ⟨_, _⟩, ⟨_, _⟩, ⟨_, _⟩, ⟨_, _⟩, _, _⟩ := id hSw; go_simp; try (with_reducible rfl))
      simp only [Act.put, List.setIfInBounds_toArray, List.set_cons_zero, List.set_cons_succ]
      refine takeH (i := 40) (t := 4) (v := ?vr1_40) rfl rfl (by kernel_rfl) (by kernel_rfl) (by kernel_rfl) (fun _ _ _ h => h) (Or.inl ⟨by rfl, ?yr1_40⟩) hSr17 ?rr1_40
      case yr1_40 => (intro w hSw; obtain ⟨⟨_, _⟩, ⟨_, _⟩, ⟨_, _⟩, ⟨_, _⟩, ⟨_, _⟩, _, _⟩ := id hSw; go_simp; try (with_reducible rfl))
      simp only [Act.put, List.setIfInBounds_toArray, List.set_cons_zero, List.set_cons_succ]
      refine wpAnyH_done (by kernel_rfl) ?_ _
      go_wp2_with fail
      go_ret
      exact ⟨rfl, C7.below⟩
    · have hf' : fits (n / m * m) = false := by simpa using hf
      have hn0 : n < 0 := by rcases QF.out.1 with q | q; exact absurd q hf; exact q
      have hlt : h1 < 0 := hneg.2 hn0
      have sD0 : 0 ≤ sr := hsr0
      have sD1 : decide (h1 < 0) = true := decide_eq_true hlt
      clear hf
      go_wp2_with fail
      refine (M0.out _).mono ?_
      rintro e w3 ⟨pa, pb, rfl, hp, hb⟩
      rw [hf'] at hp
      clear ce00 ce01 cen0 ceg0 cel0 ce10 ce11 cen1 ceg1 cel1 ce20 ce21 cen2 ceg2 cel2 ce30 ce31 cen3 ceg3 cel3 ce40 ce41 cen4 ceg4 cel4 ce50 ce51 cen5 ceg5 cel5
      replace A0 := A0.call hb
      clear hb
      obtain ⟨ce00, ce01⟩ := (A0).b1; have cel0 := (A0).x1.lt; have cen0 := Nat.ne_of_lt cel0; have ceg0 := Nat.ne_of_gt cel0; obtain ⟨ce10, ce11⟩ := (A0.tl).b1; have cel1 := (A0.tl).x1.lt; have cen1 := Nat.ne_of_lt cel1; have ceg1 := Nat.ne_of_gt cel1; obtain ⟨ce20, ce21⟩ := (A0.tl.tl).b1; have cel2 := (A0.tl.tl).x1.lt; have cen2 := Nat.ne_of_lt cel2; have ceg2 := Nat.ne_of_gt cel2; obtain ⟨ce30, ce31⟩ := (A0.tl.tl.tl).b1; have cel3 := (A0.tl.tl.tl).x1.lt; have cen3 := Nat.ne_of_lt cel3; have ceg3 := Nat.ne_of_gt cel3; obtain ⟨ce40, ce41⟩ := (A0.tl.tl.tl.tl).b1; have cel4 := (A0.tl.tl.tl.tl).x1.lt; have cen4 := Nat.ne_of_lt cel4; have ceg4 := Nat.ne_of_gt cel4; obtain ⟨ce50, ce51⟩ := (A0.tl.tl.tl.tl.tl).b1; have cel5 := (A0.tl.tl.tl.tl.tl).x1.lt; have cen5 := Nat.ne_of_lt cel5; have ceg5 := Nat.ne_of_gt cel5
      have B0 := A0.new (t := 24) (u := .int .i64 pa) (v := .int .u64 pb) rfl
      clear A0
      replace hp : IsW pa pb 0 := hp
      have P0 := Lib.hid (fun w => Add_any _ _ _ _ _ _ w hp hr)
      go_wp2_with fail
      refine (P0.out _).mono ?_
      rintro e w4 ⟨sa, sb, rfl, hs, hb⟩
      clear ce00 ce01 cen0 ceg0 cel0 ce10 ce11 cen1 ceg1 cel1 ce20 ce21 cen2 ceg2 cel2 ce30 ce31 cen3 ceg3 cel3 ce40 ce41 cen4 ceg4 cel4 ce50 ce51 cen5 ceg5 cel5
      replace B0 := B0.call hb
      clear hb
      obtain ⟨ce00, ce01⟩ := (B0).b1; have cel0 := (B0).x1.lt; have cen0 := Nat.ne_of_lt cel0; have ceg0 := Nat.ne_of_gt cel0; obtain ⟨ce10, ce11⟩ := (B0.tl).b1; have cel1 := (B0.tl).x1.lt; have cen1 := Nat.ne_of_lt cel1; have ceg1 := Nat.ne_of_gt cel1; obtain ⟨ce20, ce21⟩ := (B0.tl.tl).b1; have cel2 := (B0.tl.tl).x1.lt; have cen2 := Nat.ne_of_lt cel2; have ceg2 := Nat.ne_of_gt cel2; obtain ⟨ce30, ce31⟩ := (B0.tl.tl.tl).b1; have cel3 := (B0.tl.tl.tl).x1.lt; have cen3 := Nat.ne_of_lt cel3; have ceg3 := Nat.ne_of_gt cel3; obtain ⟨ce40, ce41⟩ := (B0.tl.tl.tl.tl).b1; have cel4 := (B0.tl.tl.tl.tl).x1.lt; have cen4 := Nat.ne_of_lt cel4; have ceg4 := Nat.ne_of_gt cel4; obtain ⟨ce50, ce51⟩ := (B0.tl.tl.tl.tl.tl).b1; have cel5 := (B0.tl.tl.tl.tl.tl).x1.lt; have cen5 := Nat.ne_of_lt cel5; have ceg5 := Nat.ne_of_gt cel5; obtain ⟨ce60, ce61⟩ := (B0.tl.tl.tl.tl.tl.tl).b1; have cel6 := (B0.tl.tl.tl.tl.tl.tl).x1.lt; have cen6 := Nat.ne_of_lt cel6; have ceg6 := Nat.ne_of_gt cel6
      have A0 := (B0.new (t := 24) (u := .int .i64 sa) (v := .int .u64 sb) rfl).drew
      clear B0
      go_wp2_with fail
      clear ce00 ce01 cen0 ceg0 cel0 ce10 ce11 cen1 ceg1 cel1 ce20 ce21 cen2 ceg2 cel2 ce30 ce31 cen3 ceg3 cel3 ce40 ce41 cen4 ceg4 cel4 ce50 ce51 cen5 ceg5 cel5 ce60 ce61 cen6 ceg6 cel6
      have B0 := A0
      clear A0
      have hSr20 := And.intro B0.tl.tl.b1 (And.intro B0.tl.tl.tl.b1 (And.intro B0.tl.tl.tl.tl.b1 (And.intro B0.tl.tl.tl.tl.tl.b1 (And.intro B0.tl.tl.tl.tl.tl.tl.b1 B0.tl.tl.tl.tl.tl.tl.tl.b1))))
      refine wp_region_held_drew (S := (fun w' => (w'.cell? ⟨g9, 0, none⟩ = some (.bool x') ∧ w'.cell? ⟨g9, 1, none⟩ = some (.slice A' p' c')) ∧ (w'.cell? ⟨g8, 0, none⟩ = some (.bool x) ∧ w'.cell? ⟨g8, 1, none⟩ = some (.slice A p c)) ∧ (w'.cell? ⟨w1.heap.size + 1, 0, none⟩ = some (.int .i64 ra) ∧ w'.cell? ⟨w1.heap.size + 1, 1, none⟩ = some (.int .u64 rb)) ∧ (w'.cell? ⟨w1.heap.size, 0, none⟩ = some (.int .i64 qa) ∧ w'.cell? ⟨w1.heap.size, 1, none⟩ = some (.int .u64 qb)) ∧ (w'.cell? ⟨w.heap.size + 1, 0, none⟩ = some (.int .i64 h2) ∧ w'.cell? ⟨w.heap.size + 1, 1, none⟩ = some (.int .u64 l2)) ∧ (w'.cell? ⟨w.heap.size, 0, none⟩ = some (.int .i64 h1) ∧ w'.cell? ⟨w.heap.size, 1, none⟩ = some (.int .u64 l1)))) (by kernel_rfl) hSr20 (fun _ => ?_)
      refine wpAnyH_ready (rs := [0]) (by kernel_rfl) (by simp) ?_
      refine AllReadyH.cons rfl (fun K hK => ?_) AllReadyH.nil
      go_simp
      refine (alive_any _ B0.tab).mono ?_
      rintro e v1 ⟨rfl, hb⟩
      have C1 := B0.call hb
      clear hb
      have hSr21 := And.intro C1.tl.tl.b1 (And.intro C1.tl.tl.tl.b1 (And.intro C1.tl.tl.tl.tl.b1 (And.intro C1.tl.tl.tl.tl.tl.b1 (And.intro C1.tl.tl.tl.tl.tl.tl.b1 C1.tl.tl.tl.tl.tl.tl.tl.b1))))
      go_wp2_with fail
      refine hK.out _ _ hSr21 (fun _ => ?_)
      clear hK K hSr20
      refine takeH (i := 1) (t := 71) (v := ?vr2_1) rfl rfl (by kernel_rfl) (by kernel_rfl) (by kernel_rfl) (fun _ _ _ h => h) (Or.inl ⟨by rfl, ?yr2_1⟩) hSr21 ?rr2_1
      case yr2_1 => (intro w hSw; obtain ⟨⟨_, _⟩, ⟨_, _⟩, ⟨_, _⟩, ⟨_, _⟩, ⟨_, _⟩, _, _⟩ := id hSw; go_simp; try (with_reducible rfl))
      simp only [Act.put, List.setIfInBounds_toArray, List.set_cons_zero, List.set_cons_succ]
      refine takeH (i := 2) (t := 72) (v := ?vr2_2) rfl rfl (by kernel_rfl) (by kernel_rfl) (by kernel_rfl) (fun _ _ _ h => h) (Or.inl ⟨by rfl, ?yr2_2⟩) hSr21 ?rr2_2
      case yr2_2 => (intro w hSw; obtain ⟨⟨_, _⟩, ⟨_, _⟩, ⟨_, _⟩, ⟨_, _⟩, ⟨_, _⟩, _, _⟩ := id hSw; go_simp; try (with_reducible rfl))
      simp only [Act.put, List.setIfInBounds_toArray, List.set_cons_zero, List.set_cons_succ]
      refine takeH (i := 3) (t := 73) (v := ?vr2_3) rfl rfl (by kernel_rfl) (by kernel_rfl) (by kernel_rfl) (fun _ _ _ h => h) (Or.inl ⟨by rfl, ?yr2_3⟩) hSr21 ?rr2_3
      case yr2_3 => (intro w hSw; obtain ⟨⟨_, _⟩, ⟨_, _⟩, ⟨_, _⟩, ⟨_, _⟩, ⟨_, _⟩, _, _⟩ := id hSw; go_simp; try (with_reducible rfl))
      simp only [Act.put, List.setIfInBounds_toArray, List.set_cons_zero, List.set_cons_succ]
      refine takeH (i := 4) (t := 74) (v := ?vr2_4) rfl rfl (by kernel_rfl) (by kernel_rfl) (by kernel_rfl) (fun _ _ _ h => h) (Or.inl ⟨by rfl, ?yr2_4⟩) hSr21 ?rr2_4
      case yr2_4 => (intro w hSw; obtain ⟨⟨_, _⟩, ⟨_, _⟩, ⟨_, _⟩, ⟨_, _⟩, ⟨_, _⟩, _, _⟩ := id hSw; go_simp; try (with_reducible rfl))
      simp only [Act.put, List.setIfInBounds_toArray, List.set_cons_zero, List.set_cons_succ]
      refine takeH (i := 5) (t := 75) (v := ?vr2_5) rfl rfl (by kernel_rfl) (by kernel_rfl) (by kernel_rfl) (fun _ _ _ h => h) (Or.inl ⟨by rfl, ?yr2_5⟩) hSr21 ?rr2_5
      case yr2_5 => (intro w hSw; obtain ⟨⟨_, _⟩, ⟨_, _⟩, ⟨_, _⟩, ⟨_, _⟩, ⟨_, _⟩, _, _⟩ := id hSw; go_simp; try (with_reducible rfl))
      simp only [Act.put, List.setIfInBounds_toArray, List.set_cons_zero, List.set_cons_succ]
      refine takeH (i := 7) (t := 77) (v := ?vr2_7) rfl rfl (by kernel_rfl) (by kernel_rfl) (by kernel_rfl) (fun _ _ _ h => h) (Or.inl ⟨by rfl, ?yr2_7⟩) hSr21 ?rr2_7
      case yr2_7 => (intro w hSw; obtain ⟨⟨_, _⟩, ⟨_, _⟩, ⟨_, _⟩, ⟨_, _⟩, ⟨_, _⟩, _, _⟩ := id hSw; go_simp; try (with_reducible rfl))
      simp only [Act.put, List.setIfInBounds_toArray, List.set_cons_zero, List.set_cons_succ]
      refine wpAnyH_ready (rs := [6]) (by kernel_rfl) (by simp) ?_
      refine AllReadyH.cons rfl (fun K hK => ?_) AllReadyH.nil
      go_simp
      refine (num_any _ _ _ _ hq).mono ?_
      rintro e v2 ⟨x2, A2, y2, c2, rfl, k2, hb⟩
      have C2 := C1.call hb
      clear hb
      have hSr22 := And.intro C2.tl.tl.b1 (And.intro C2.tl.tl.tl.b1 (And.intro C2.tl.tl.tl.tl.b1 (And.intro C2.tl.tl.tl.tl.tl.b1 (And.intro C2.tl.tl.tl.tl.tl.tl.b1 C2.tl.tl.tl.tl.tl.tl.tl.b1))))
      go_wp2_with fail
      refine hK.out _ _ hSr22 (fun _ => ?_)
      clear hK K hSr21
      refine wpAnyH_ready (rs := [8]) (by kernel_rfl) (by simp) ?_
      refine AllReadyH.cons rfl (fun K hK => ?_) AllReadyH.nil
      go_simp
      refine (rCmp_any _ _ _ _ _ _ _ _ _ _ _ k2 C2.ntl.n1 (lenF k2 FQ.out (by omega)) (lenF C2.ntl.n1 FQ.out (by omega))).mono ?_
      rintro e v3 ⟨rfl, hb⟩
      rw [icmp_self]
      have C3 := C2.call hb
      clear hb
      have hSr23 := And.intro C3.tl.tl.b1 (And.intro C3.tl.tl.tl.b1 (And.intro C3.tl.tl.tl.tl.b1 (And.intro C3.tl.tl.tl.tl.tl.b1 (And.intro C3.tl.tl.tl.tl.tl.tl.b1 C3.tl.tl.tl.tl.tl.tl.tl.b1))))
      go_wp2_with fail
      refine hK.out _ _ hSr23 (fun _ => ?_)
      clear hK K hSr22
      refine takeH (i := 9) (t := 79) (v := ?vr2_9) rfl rfl (by kernel_rfl) (by kernel_rfl) (by kernel_rfl) (fun _ _ _ h => h) (Or.inl ⟨by rfl, ?yr2_9⟩) hSr23 ?rr2_9
      case yr2_9 => (intro w hSw; obtain ⟨⟨_, _⟩, ⟨_, _⟩, ⟨_, _⟩, ⟨_, _⟩, ⟨_, _⟩, _, _⟩ := id hSw; go_simp; try (with_reducible rfl))
      simp only [Act.put, List.setIfInBounds_toArray, List.set_cons_zero, List.set_cons_succ]
      refine takeH (i := 10) (t := 80) (v := ?vr2_10) rfl rfl (by kernel_rfl) (by kernel_rfl) (by kernel_rfl) (fun _ _ _ h => h) (Or.inl ⟨by rfl, ?yr2_10⟩) hSr23 ?rr2_10
      case yr2_10 => (intro w hSw; obtain ⟨⟨_, _⟩, ⟨_, _⟩, ⟨_, _⟩, ⟨_, _⟩, ⟨_, _⟩, _, _⟩ := id hSw; go_simp; try (with_reducible rfl))
      simp only [Act.put, List.setIfInBounds_toArray, List.set_cons_zero, List.set_cons_succ]
      refine takeH (i := 11) (t := 81) (v := ?vr2_11) rfl rfl (by kernel_rfl) (by kernel_rfl) (by kernel_rfl) (fun _ _ _ h => h) (Or.inl ⟨by rfl, ?yr2_11⟩) hSr23 ?rr2_11
      case yr2_11 => (intro w hSw; obtain ⟨⟨_, _⟩, ⟨_, _⟩, ⟨_, _⟩, ⟨_, _⟩, ⟨_, _⟩, _, _⟩ := id hSw; go_simp; try (with_reducible rfl))
      simp only [Act.put, List.setIfInBounds_toArray, List.set_cons_zero, List.set_cons_succ]
      refine takeH (i := 12) (t := 82) (v := ?vr2_12) rfl rfl (by kernel_rfl) (by kernel_rfl) (by kernel_rfl) (fun _ _ _ h => h) (Or.inl ⟨by rfl, ?yr2_12⟩) hSr23 ?rr2_12
      case yr2_12 => (intro w hSw; obtain ⟨⟨_, _⟩, ⟨_, _⟩, ⟨_, _⟩, ⟨_, _⟩, ⟨_, _⟩, _, _⟩ := id hSw; go_simp; try (with_reducible rfl))
      simp only [Act.put, List.setIfInBounds_toArray, List.set_cons_zero, List.set_cons_succ]
      refine takeH (i := 14) (t := 84) (v := ?vr2_14) rfl rfl (by kernel_rfl) (by kernel_rfl) (by kernel_rfl) (fun _ _ _ h => h) (Or.inl ⟨by rfl, ?yr2_14⟩) hSr23 ?rr2_14
      case yr2_14 => (intro w hSw; obtain ⟨⟨_, _⟩, ⟨_, _⟩, ⟨_, _⟩, ⟨_, _⟩, ⟨_, _⟩, _, _⟩ := id hSw; go_simp; try (with_reducible rfl))
      simp only [Act.put, List.setIfInBounds_toArray, List.set_cons_zero, List.set_cons_succ]
      refine wpAnyH_ready (rs := [13]) (by kernel_rfl) (by simp) ?_
      refine AllReadyH.cons rfl (fun K hK => ?_) AllReadyH.nil
      go_simp
      refine (num_any _ _ _ _ hr).mono ?_
      rintro e v4 ⟨x4, A4, y4, c4, rfl, k4, hb⟩
      have C4 := C3.call hb
      clear hb
      have hSr24 := And.intro C4.tl.tl.b1 (And.intro C4.tl.tl.tl.b1 (And.intro C4.tl.tl.tl.tl.b1 (And.intro C4.tl.tl.tl.tl.tl.b1 (And.intro C4.tl.tl.tl.tl.tl.tl.b1 C4.tl.tl.tl.tl.tl.tl.tl.b1))))
      go_wp2_with fail
      refine hK.out _ _ hSr24 (fun _ => ?_)
      clear hK K hSr23
      refine wpAnyH_ready (rs := [15]) (by kernel_rfl) (by simp) ?_
      refine AllReadyH.cons rfl (fun K hK => ?_) AllReadyH.nil
      go_simp
      refine (rCmp_any _ _ _ _ _ _ _ _ _ _ _ k4 C4.n1 (lenF k4 FR.out (by omega)) (lenF C4.n1 FR.out (by omega))).mono ?_
      rintro e v5 ⟨rfl, hb⟩
      rw [icmp_self]
      have C5 := C4.call hb
      clear hb
      have hSr25 := And.intro C5.tl.tl.b1 (And.intro C5.tl.tl.tl.b1 (And.intro C5.tl.tl.tl.tl.b1 (And.intro C5.tl.tl.tl.tl.tl.b1 (And.intro C5.tl.tl.tl.tl.tl.tl.b1 C5.tl.tl.tl.tl.tl.tl.tl.b1))))
      go_wp2_with fail
      refine hK.out _ _ hSr25 (fun _ => ?_)
      clear hK K hSr24
      refine takeH (i := 16) (t := 86) (v := ?vr2_16) rfl rfl (by kernel_rfl) (by kernel_rfl) (by kernel_rfl) (fun _ _ _ h => h) (Or.inl ⟨by rfl, ?yr2_16⟩) hSr25 ?rr2_16
      case yr2_16 => (intro w hSw; obtain ⟨⟨_, _⟩, ⟨_, _⟩, ⟨_, _⟩, ⟨_, _⟩, ⟨_, _⟩, _, _⟩ := id hSw; go_simp; try (with_reducible rfl))
      simp only [Act.put, List.setIfInBounds_toArray, List.set_cons_zero, List.set_cons_succ]
      refine takeH (i := 17) (t := 87) (v := ?vr2_17) rfl rfl (by kernel_rfl) (by kernel_rfl) (by kernel_rfl) (fun _ _ _ h => h) (Or.inl ⟨by rfl, ?yr2_17⟩) hSr25 ?rr2_17
      case yr2_17 => (intro w hSw; obtain ⟨⟨_, _⟩, ⟨_, _⟩, ⟨_, _⟩, ⟨_, _⟩, ⟨_, _⟩, _, _⟩ := id hSw; go_simp; try (with_reducible rfl))
      simp only [Act.put, List.setIfInBounds_toArray, List.set_cons_zero, List.set_cons_succ]
      refine takeH (i := 18) (t := 88) (v := ?vr2_18) rfl rfl (by kernel_rfl) (by kernel_rfl) (by kernel_rfl) (fun _ _ _ h => h) (Or.inl ⟨by rfl, ?yr2_18⟩) hSr25 ?rr2_18
      case yr2_18 => (intro w hSw; obtain ⟨⟨_, _⟩, ⟨_, _⟩, ⟨_, _⟩, ⟨_, _⟩, ⟨_, _⟩, _, _⟩ := id hSw; go_simp; try (with_reducible rfl))
      simp only [Act.put, List.setIfInBounds_toArray, List.set_cons_zero, List.set_cons_succ]
      refine takeH (i := 19) (t := 89) (v := ?vr2_19) rfl rfl (by kernel_rfl) (by kernel_rfl) (by kernel_rfl) (fun _ _ _ h => h) (Or.inl ⟨by rfl, ?yr2_19⟩) hSr25 ?rr2_19
      case yr2_19 => (intro w hSw; obtain ⟨⟨_, _⟩, ⟨_, _⟩, ⟨_, _⟩, ⟨_, _⟩, ⟨_, _⟩, _, _⟩ := id hSw; go_simp; try (with_reducible rfl))
      simp only [Act.put, List.setIfInBounds_toArray, List.set_cons_zero, List.set_cons_succ]
      refine wpAnyH_ready (rs := [20]) (by kernel_rfl) (by simp) ?_
      refine AllReadyH.cons rfl (fun K hK => ?_) AllReadyH.nil
      go_simp
      refine (Sign_any _ _ _ _ hr).mono ?_
      rintro e v6 ⟨rfl, hb⟩
      rw [I1.out]
      have C6 := C5.call hb
      clear hb
      have hSr26 := And.intro C6.tl.tl.b1 (And.intro C6.tl.tl.tl.b1 (And.intro C6.tl.tl.tl.tl.b1 (And.intro C6.tl.tl.tl.tl.tl.b1 (And.intro C6.tl.tl.tl.tl.tl.tl.b1 C6.tl.tl.tl.tl.tl.tl.tl.b1))))
      go_wp2_with fail
      refine hK.out _ _ hSr26 (fun _ => ?_)
      clear hK K hSr25
      refine takeH (i := 21) (t := 91) (v := ?vr2_21) rfl rfl (by kernel_rfl) (by kernel_rfl) (by kernel_rfl) (fun _ _ _ h => h) (Or.inl ⟨by rfl, ?yr2_21⟩) hSr26 ?rr2_21
      case yr2_21 => (intro w hSw; obtain ⟨⟨_, _⟩, ⟨_, _⟩, ⟨_, _⟩, ⟨_, _⟩, ⟨_, _⟩, _, _⟩ := id hSw; go_simp; try (with_reducible rfl))
      simp only [Act.put, List.setIfInBounds_toArray, List.set_cons_zero, List.set_cons_succ]
      refine takeH (i := 22) (t := 92) (v := ?vr2_22) rfl rfl (by kernel_rfl) (by kernel_rfl) (by kernel_rfl) (fun _ _ _ h => h) (Or.inl ⟨by rfl, ?yr2_22⟩) hSr26 ?rr2_22
      case yr2_22 => (intro w hSw; obtain ⟨⟨_, _⟩, ⟨_, _⟩, ⟨_, _⟩, ⟨_, _⟩, ⟨_, _⟩, _, _⟩ := id hSw; go_simp; try (with_reducible rfl))
      simp only [Act.put, List.setIfInBounds_toArray, List.set_cons_zero, List.set_cons_succ]
      refine takeH (i := 23) (t := 93) (v := ?vr2_23) rfl rfl (by kernel_rfl) (by kernel_rfl) (by kernel_rfl) (fun _ _ _ h => h) (Or.inl ⟨by rfl, ?yr2_23⟩) hSr26 ?rr2_23
      case yr2_23 => (intro w hSw; obtain ⟨⟨_, _⟩, ⟨_, _⟩, ⟨_, _⟩, ⟨_, _⟩, ⟨_, _⟩, _, _⟩ := id hSw; go_simp; try (with_reducible rfl))
      simp only [Act.put, List.setIfInBounds_toArray, List.set_cons_zero, List.set_cons_succ]
      refine takeH (i := 24) (t := 94) (v := ?vr2_24) rfl rfl (by kernel_rfl) (by kernel_rfl) (by kernel_rfl) (fun _ _ _ h => h) (Or.inl ⟨by rfl, ?yr2_24⟩) hSr26 ?rr2_24
      case yr2_24 => (intro w hSw; obtain ⟨⟨_, _⟩, ⟨_, _⟩, ⟨_, _⟩, ⟨_, _⟩, ⟨_, _⟩, _, _⟩ := id hSw; go_simp; try (with_reducible rfl))
      simp only [Act.put, List.setIfInBounds_toArray, List.set_cons_zero, List.set_cons_succ]
      refine takeH (i := 25) (t := 95) (v := ?vr2_25) rfl rfl (by kernel_rfl) (by kernel_rfl) (by kernel_rfl) (fun _ _ _ h => h) (Or.inl ⟨by rfl, ?yr2_25⟩) hSr26 ?rr2_25
      case yr2_25 => (intro w hSw; obtain ⟨⟨_, _⟩, ⟨_, _⟩, ⟨_, _⟩, ⟨_, _⟩, ⟨_, _⟩, _, _⟩ := id hSw; go_simp; try (with_reducible rfl))
      simp only [Act.put, List.setIfInBounds_toArray, List.set_cons_zero, List.set_cons_succ]
      refine wpAnyH_ready (rs := [26]) (by kernel_rfl) (by simp) ?_
      refine AllReadyH.cons rfl (fun K hK => ?_) AllReadyH.nil
      go_simp
      refine (Cmp_any _ _ _ _ _ _ _ hr H2).mono ?_
      rintro e v7 ⟨rfl, hb⟩
      rw [I2.out]
      have C7 := C6.call hb
      clear hb
      have hSr27 := And.intro C7.tl.tl.b1 (And.intro C7.tl.tl.tl.b1 (And.intro C7.tl.tl.tl.tl.b1 (And.intro C7.tl.tl.tl.tl.tl.b1 (And.intro C7.tl.tl.tl.tl.tl.tl.b1 C7.tl.tl.tl.tl.tl.tl.tl.b1))))
      go_wp2_with fail
      refine hK.out _ _ hSr27 (fun _ => ?_)
      clear hK K hSr26
      refine takeH (i := 27) (t := 97) (v := ?vr2_27) rfl rfl (by kernel_rfl) (by kernel_rfl) (by kernel_rfl) (fun _ _ _ h => h) (Or.inl ⟨by rfl, ?yr2_27⟩) hSr27 ?rr2_27
      case yr2_27 => (intro w hSw; obtain ⟨⟨_, _⟩, ⟨_, _⟩, ⟨_, _⟩, ⟨_, _⟩, ⟨_, _⟩, _, _⟩ := id hSw; go_simp; try (with_reducible rfl))
      simp only [Act.put, List.setIfInBounds_toArray, List.set_cons_zero, List.set_cons_succ]
      refine takeH (i := 28) (t := 98) (v := ?vr2_28) rfl rfl (by kernel_rfl) (by kernel_rfl) (by kernel_rfl) (fun _ _ _ h => h) (Or.inl ⟨by rfl, ?yr2_28⟩) hSr27 ?rr2_28
      case yr2_28 => (intro w hSw; obtain ⟨⟨_, _⟩, ⟨_, _⟩, ⟨_, _⟩, ⟨_, _⟩, ⟨_, _⟩, _, _⟩ := id hSw; go_simp; try (with_reducible rfl))
      simp only [Act.put, List.setIfInBounds_toArray, List.set_cons_zero, List.set_cons_succ]
      refine takeH (i := 29) (t := 99) (v := ?vr2_29) rfl rfl (by kernel_rfl) (by kernel_rfl) (by kernel_rfl) (fun _ _ _ h => h) (Or.inl ⟨by rfl, ?yr2_29⟩) hSr27 ?rr2_29
      case yr2_29 => (intro w hSw; obtain ⟨⟨_, _⟩, ⟨_, _⟩, ⟨_, _⟩, ⟨_, _⟩, ⟨_, _⟩, _, _⟩ := id hSw; go_simp; try (with_reducible rfl))
      simp only [Act.put, List.setIfInBounds_toArray, List.set_cons_zero, List.set_cons_succ]
      refine takeH (i := 30) (t := 100) (v := ?vr2_30) rfl rfl (by kernel_rfl) (by kernel_rfl) (by kernel_rfl) (fun _ _ _ h => h) (Or.inl ⟨by rfl, ?yr2_30⟩) hSr27 ?rr2_30
      case yr2_30 => (intro w hSw; obtain ⟨⟨_, _⟩, ⟨_, _⟩, ⟨_, _⟩, ⟨_, _⟩, ⟨_, _⟩, _, _⟩ := id hSw; go_simp; try (with_reducible rfl))
      simp only [Act.put, List.setIfInBounds_toArray, List.set_cons_zero, List.set_cons_succ]
      refine takeH (i := 31) (t := 101) (v := ?vr2_31) rfl rfl (by kernel_rfl) (by kernel_rfl) (by kernel_rfl) (fun _ _ _ h => h) (Or.inl ⟨by rfl, ?yr2_31⟩) hSr27 ?rr2_31
      case yr2_31 => (intro w hSw; obtain ⟨⟨_, _⟩, ⟨_, _⟩, ⟨_, _⟩, ⟨_, _⟩, ⟨_, _⟩, _, _⟩ := id hSw; go_simp; try (with_reducible rfl))
      simp only [Act.put, List.setIfInBounds_toArray, List.set_cons_zero, List.set_cons_succ]
      refine takeH (i := 32) (t := 102) (v := ?vr2_32) rfl rfl (by kernel_rfl) (by kernel_rfl) (by kernel_rfl) (fun _ _ _ h => h) (Or.inl ⟨by rfl, ?yr2_32⟩) hSr27 ?rr2_32
      case yr2_32 => (intro w hSw; obtain ⟨⟨_, _⟩, ⟨_, _⟩, ⟨_, _⟩, ⟨_, _⟩, ⟨_, _⟩, _, _⟩ := id hSw; go_simp; try (with_reducible rfl))
      simp only [Act.put, List.setIfInBounds_toArray, List.set_cons_zero, List.set_cons_succ]
      refine takeH (i := 33) (t := 103) (v := ?vr2_33) rfl rfl (by kernel_rfl) (by kernel_rfl) (by kernel_rfl) (fun _ _ _ h => h) (Or.inl ⟨by rfl, ?yr2_33⟩) hSr27 ?rr2_33
      case yr2_33 => (intro w hSw; obtain ⟨⟨_, _⟩, ⟨_, _⟩, ⟨_, _⟩, ⟨_, _⟩, ⟨_, _⟩, _, _⟩ := id hSw; go_simp; try (with_reducible rfl))
      simp only [Act.put, List.setIfInBounds_toArray, List.set_cons_zero, List.set_cons_succ]
      refine takeH (i := 34) (t := 104) (v := ?vr2_34) rfl rfl (by kernel_rfl) (by kernel_rfl) (by kernel_rfl) (fun _ _ _ h => h) (Or.inl ⟨by rfl, ?yr2_34⟩) hSr27 ?rr2_34
      case yr2_34 => (intro w hSw; obtain ⟨⟨_, _⟩, ⟨_, _⟩, ⟨_, _⟩, ⟨_, _⟩, ⟨_, _⟩, _, _⟩ := id hSw; go_simp; try (with_reducible rfl))
      simp only [Act.put, List.setIfInBounds_toArray, List.set_cons_zero, List.set_cons_succ]
      refine takeH (i := 35) (t := 105) (v := ?vr2_35) rfl rfl (by kernel_rfl) (by kernel_rfl) (by kernel_rfl) (fun _ _ _ h => h) (Or.inl ⟨by rfl, ?yr2_35⟩) hSr27 ?rr2_35
      case yr2_35 => (intro w hSw; obtain ⟨⟨_, _⟩, ⟨_, _⟩, ⟨_, _⟩, ⟨_, _⟩, ⟨_, _⟩, _, _⟩ := id hSw; go_simp; try (with_reducible rfl))
      simp only [Act.put, List.setIfInBounds_toArray, List.set_cons_zero, List.set_cons_succ]
      refine takeH (i := 36) (t := 106) (v := ?vr2_36) rfl rfl (by kernel_rfl) (by kernel_rfl) (by kernel_rfl) (fun _ _ _ h => h) (Or.inl ⟨by rfl, ?yr2_36⟩) hSr27 ?rr2_36
      case yr2_36 => (intro w hSw; obtain ⟨⟨_, _⟩, ⟨_, _⟩, ⟨_, _⟩, ⟨_, _⟩, ⟨_, _⟩, _, _⟩ := id hSw; go_simp; try (with_reducible rfl))
      simp only [Act.put, List.setIfInBounds_toArray, List.set_cons_zero, List.set_cons_succ]
      refine takeH (i := 37) (t := 107) (v := ?vr2_37) rfl rfl (by kernel_rfl) (by kernel_rfl) (by kernel_rfl) (fun _ _ _ h => h) (Or.inl ⟨by rfl, ?yr2_37⟩) hSr27 ?rr2_37
      case yr2_37 => (intro w hSw; obtain ⟨⟨_, _⟩, ⟨_, _⟩, ⟨_, _⟩, ⟨_, _⟩, ⟨_, _⟩, _, _⟩ := id hSw; go_simp; try (with_reducible rfl))
      simp only [Act.put, List.setIfInBounds_toArray, List.set_cons_zero, List.set_cons_succ]
      refine takeH (i := 38) (t := 108) (v := ?vr2_38) rfl rfl (by kernel_rfl) (by kernel_rfl) (by kernel_rfl) (fun _ _ _ h => h) (Or.inl ⟨by rfl, ?yr2_38⟩) hSr27 ?rr2_38
      case yr2_38 => (intro w hSw; obtain ⟨⟨_, _⟩, ⟨_, _⟩, ⟨_, _⟩, ⟨_, _⟩, ⟨_, _⟩, _, _⟩ := id hSw; go_simp; try (with_reducible rfl))
      simp only [Act.put, List.setIfInBounds_toArray, List.set_cons_zero, List.set_cons_succ]
      refine takeH (i := 39) (t := 109) (v := ?vr2_39) rfl rfl (by kernel_rfl) (by kernel_rfl) (by kernel_rfl) (fun _ _ _ h => h) (Or.inl ⟨by rfl, ?yr2_39⟩) hSr27 ?rr2_39
      case yr2_39 => (intro w hSw; obtain ⟨⟨_, _⟩, ⟨_, _⟩, ⟨_, _⟩, ⟨_, _⟩, ⟨_, _⟩, _, _⟩ := id hSw; go_simp; try (with_reducible rfl))
      simp only [Act.put, List.setIfInBounds_toArray, List.set_cons_zero, List.set_cons_succ]
      refine takeH (i := 40) (t := 4) (v := ?vr2_40) rfl rfl (by kernel_rfl) (by kernel_rfl) (by kernel_rfl) (fun _ _ _ h => h) (Or.inl ⟨by rfl, ?yr2_40⟩) hSr27 ?rr2_40
      case yr2_40 => (intro w hSw; obtain ⟨⟨_, _⟩, ⟨_, _⟩, ⟨_, _⟩, ⟨_, _⟩, ⟨_, _⟩, _, _⟩ := id hSw; go_simp; try (with_reducible rfl))
      simp only [Act.put, List.setIfInBounds_toArray, List.set_cons_zero, List.set_cons_succ]
      refine wpAnyH_done (by kernel_rfl) ?_ _
      go_wp2_with fail
      go_ret
      exact ⟨rfl, C7.below⟩
theorem divs_walk (h1 l1 n h2 l2 m : Int) (w : World) (H1 : IsW h1 l1 n) (H2 : IsW h2 l2 m) (htab : Tab w) :
    Calls Tryd.prog 7 #[.agg #[.int .i64 h1, .int .u64 l1], .agg #[.int .i64 h2, .int .u64 l2]] w (RV (.bool true) w) := by
  rcases Int.lt_or_le 0 m with q | q
  · exact divs_yes h1 l1 n h2 l2 m w H1 H2 q htab
  · exact divs_no h1 l1 n h2 l2 m w H1 H2 q htab
end Go.Proofs.YtdmjccbpghilcaaDoor
