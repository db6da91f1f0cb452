/-
  cobweblaw01.WideBack returns true, for every two Ints. My own text.
-/
import Derived.Test.YtdmjccbpghilcaaDoorAlive
namespace Go.Proofs.YtdmjccbpghilcaaDoor
open Go.RowKit Go.Lib
set_option linter.unusedVariables false

theorem back_sub {n m : Int} (h : fits n = true) : fits (n + m - m) = true := by rw [Int.add_sub_cancel]; exact h
theorem back_neg {n : Int} (h : fits n = true) : fits (- -n) = true := by rw [Int.neg_neg]; exact h
set_option maxHeartbeats 4000000 in
set_option maxRecDepth 100000 in
theorem back_walk (h1 l1 n h2 l2 m : Int) (w : World) (H1 : IsW h1 l1 n) (H2 : IsW h2 l2 m) (htab : Tab w) :
    Calls Tryd.prog 10 #[.agg #[.int .i64 h1, .int .u64 l1], .agg #[.int .i64 h2, .int .u64 l2]] w (RV (.bool true) w) := by
  have f1 := H1.fits
  go_enter Tryd.func10, Tryd.ntmps10
  go_wp2_with fail
  refine (Add_any _ _ _ _ _ _ _ H1 H2).mono ?_
  rintro e w1 ⟨sa, sb, rfl, hs, hb1⟩
  have B_w1_0 : Box w1 (w.heap.size) (.int .i64 h1) (.int .u64 l1) := (by (repeat (first | with_reducible assumption | (focus ((with_reducible refine Box.new ?_); simp; done)) | (with_reducible refine Box.alloc ?_ _) | (with_reducible refine Box.drew ?_) | (with_reducible refine Box.put ?_) | (focus ((with_reducible refine Box.set ?_ _ ?_); rotate_left; omega)) | (focus ((with_reducible apply HasBox.of); with_reducible assumption)) | (focus ((with_reducible refine HasBox.new ?_); simp; done)) | (with_reducible refine HasBox.set ?_ _ _) | (with_reducible refine HasBox.drew ?_) | (with_reducible refine HasBox.alloc ?_ _) | (with_reducible refine Box.call ?_ hb1) | (with_reducible refine HasBox.call ?_ hb1)))); obtain ⟨⟨c_w1_0, d_w1_0⟩, f_w1_0, g_w1_0⟩ := id B_w1_0; have B_w1_1 : Box w1 (w.heap.size + 1) (.int .i64 h2) (.int .u64 l2) := (by (repeat (first | with_reducible assumption | (focus ((with_reducible refine Box.new ?_); simp; done)) | (with_reducible refine Box.alloc ?_ _) | (with_reducible refine Box.drew ?_) | (with_reducible refine Box.put ?_) | (focus ((with_reducible refine Box.set ?_ _ ?_); rotate_left; omega)) | (focus ((with_reducible apply HasBox.of); with_reducible assumption)) | (focus ((with_reducible refine HasBox.new ?_); simp; done)) | (with_reducible refine HasBox.set ?_ _ _) | (with_reducible refine HasBox.drew ?_) | (with_reducible refine HasBox.alloc ?_ _) | (with_reducible refine Box.call ?_ hb1) | (with_reducible refine HasBox.call ?_ hb1)))); obtain ⟨⟨c_w1_1, d_w1_1⟩, f_w1_1, g_w1_1⟩ := id B_w1_1; have hz_hb1 := Below.size hb1; (try simp at hz_hb1); have ne_hb1_0 : ¬ w1.heap.size = w.heap.size := (by omega); have ne_hb1_1 : ¬ w1.heap.size = w.heap.size + 1 := (by omega); have en_hb1_0 : ¬ w.heap.size = w1.heap.size := (by omega); have en_hb1_1 : ¬ w.heap.size + 1 = w1.heap.size := (by omega); have lt_hb1_0 : w.heap.size < w1.heap.size := (by omega); have lt_hb1_1 : w.heap.size + 1 < w1.heap.size := (by omega)
  have t1 : Tab w1 := Tab.call htab (below_call (below_alloc (below_alloc (Below.refl _ _) _) _) hb1)
  by_cases k : fits (n + m) = true
  · rw [if_pos k] at hs
    go_wp2_with fail
    refine (Sub_any _ _ _ _ _ _ _ hs H2).mono ?_
    rintro e w2 ⟨da, db, rfl, hd, hb2⟩
    rw [if_pos (back_sub f1), Int.add_sub_cancel] at hd
    have fb := back_sub (m := m) f1
    have B_w2_0 : Box w2 (w.heap.size) (.int .i64 h1) (.int .u64 l1) := (by (repeat (first | with_reducible assumption | (focus ((with_reducible refine Box.new ?_); simp; done)) | (with_reducible refine Box.alloc ?_ _) | (with_reducible refine Box.drew ?_) | (with_reducible refine Box.put ?_) | (focus ((with_reducible refine Box.set ?_ _ ?_); rotate_left; omega)) | (focus ((with_reducible apply HasBox.of); with_reducible assumption)) | (focus ((with_reducible refine HasBox.new ?_); simp; done)) | (with_reducible refine HasBox.set ?_ _ _) | (with_reducible refine HasBox.drew ?_) | (with_reducible refine HasBox.alloc ?_ _) | (with_reducible refine Box.call ?_ hb2) | (with_reducible refine HasBox.call ?_ hb2) | (with_reducible refine Box.call ?_ hb1) | (with_reducible refine HasBox.call ?_ hb1)))); obtain ⟨⟨c_w2_0, d_w2_0⟩, f_w2_0, g_w2_0⟩ := id B_w2_0; have B_w2_1 : Box w2 (w.heap.size + 1) (.int .i64 h2) (.int .u64 l2) := (by (repeat (first | with_reducible assumption | (focus ((with_reducible refine Box.new ?_); simp; done)) | (with_reducible refine Box.alloc ?_ _) | (with_reducible refine Box.drew ?_) | (with_reducible refine Box.put ?_) | (focus ((with_reducible refine Box.set ?_ _ ?_); rotate_left; omega)) | (focus ((with_reducible apply HasBox.of); with_reducible assumption)) | (focus ((with_reducible refine HasBox.new ?_); simp; done)) | (with_reducible refine HasBox.set ?_ _ _) | (with_reducible refine HasBox.drew ?_) | (with_reducible refine HasBox.alloc ?_ _) | (with_reducible refine Box.call ?_ hb2) | (with_reducible refine HasBox.call ?_ hb2) | (with_reducible refine Box.call ?_ hb1) | (with_reducible refine HasBox.call ?_ hb1)))); obtain ⟨⟨c_w2_1, d_w2_1⟩, f_w2_1, g_w2_1⟩ := id B_w2_1; have hz_hb2 := Below.size hb2; (try simp at hz_hb2); have ne_hb2_0 : ¬ w2.heap.size = w.heap.size := (by omega); have ne_hb2_1 : ¬ w2.heap.size = w.heap.size + 1 := (by omega); have en_hb2_0 : ¬ w.heap.size = w2.heap.size := (by omega); have en_hb2_1 : ¬ w.heap.size + 1 = w2.heap.size := (by omega); have lt_hb2_0 : w.heap.size < w2.heap.size := (by omega); have lt_hb2_1 : w.heap.size + 1 < w2.heap.size := (by omega)
    have t2 : Tab w2 := Tab.call (Tab.alloc t1 _) hb2
    have E := eq_of hd H1
    rw [Int.add_sub_cancel] at fb
    go_wp2_with fail
    refine (Neg_any _ _ _ _ H1).mono ?_
    rintro e w3 ⟨na, nb, rfl, hn, hb3⟩
    have B_w3_0 : Box w3 (w.heap.size) (.int .i64 h1) (.int .u64 l1) := (by (repeat (first | with_reducible assumption | (focus ((with_reducible refine Box.new ?_); simp; done)) | (with_reducible refine Box.alloc ?_ _) | (with_reducible refine Box.drew ?_) | (with_reducible refine Box.put ?_) | (focus ((with_reducible refine Box.set ?_ _ ?_); rotate_left; omega)) | (focus ((with_reducible apply HasBox.of); with_reducible assumption)) | (focus ((with_reducible refine HasBox.new ?_); simp; done)) | (with_reducible refine HasBox.set ?_ _ _) | (with_reducible refine HasBox.drew ?_) | (with_reducible refine HasBox.alloc ?_ _) | (with_reducible refine Box.call ?_ hb3) | (with_reducible refine HasBox.call ?_ hb3) | (with_reducible refine Box.call ?_ hb2) | (with_reducible refine HasBox.call ?_ hb2) | (with_reducible refine Box.call ?_ hb1) | (with_reducible refine HasBox.call ?_ hb1)))); obtain ⟨⟨c_w3_0, d_w3_0⟩, f_w3_0, g_w3_0⟩ := id B_w3_0
    have t3 : Tab w3 := Tab.call (Tab.alloc t2 _) hb3
    by_cases j : fits (-n) = true
    · rw [if_pos j] at hn
      go_wp2_with fail
      refine (Neg_any _ _ _ _ hn).mono ?_
      rintro e w4 ⟨ma, mb, rfl, hm, hb4⟩
      rw [if_pos (back_neg f1), Int.neg_neg] at hm
      have fn := back_neg f1
      rw [Int.neg_neg] at fn
      have B_w4_0 : Box w4 (w.heap.size) (.int .i64 h1) (.int .u64 l1) := (by (repeat (first | with_reducible assumption | (focus ((with_reducible refine Box.new ?_); simp; done)) | (with_reducible refine Box.alloc ?_ _) | (with_reducible refine Box.drew ?_) | (with_reducible refine Box.put ?_) | (focus ((with_reducible refine Box.set ?_ _ ?_); rotate_left; omega)) | (focus ((with_reducible apply HasBox.of); with_reducible assumption)) | (focus ((with_reducible refine HasBox.new ?_); simp; done)) | (with_reducible refine HasBox.set ?_ _ _) | (with_reducible refine HasBox.drew ?_) | (with_reducible refine HasBox.alloc ?_ _) | (with_reducible refine Box.call ?_ hb4) | (with_reducible refine HasBox.call ?_ hb4) | (with_reducible refine Box.call ?_ hb3) | (with_reducible refine HasBox.call ?_ hb3) | (with_reducible refine Box.call ?_ hb2) | (with_reducible refine HasBox.call ?_ hb2) | (with_reducible refine Box.call ?_ hb1) | (with_reducible refine HasBox.call ?_ hb1)))); obtain ⟨⟨c_w4_0, d_w4_0⟩, f_w4_0, g_w4_0⟩ := id B_w4_0
      have t4 : Tab w4 := Tab.call (Tab.alloc t3 _) hb4
      have E4 := eq_of hm H1
      have l4 := Box.lt B_w4_0
      have n4 := Nat.ne_of_gt (Box.lt B_w4_0)
      go_wp2_with fail
      refine (alive_any _ (Tab.alloc t4 _)).mono ?_
      rintro e w5 ⟨rfl, hb5⟩
      go_wp2_with fail
      go_ret
      exact ⟨rfl, by (repeat (first | (with_reducible exact Below.refl _ _) | with_reducible assumption | (with_reducible refine below_alloc ?_ _) | (focus ((with_reducible refine below_set ?_ _ _ _ ?_); rotate_left; omega)) | (with_reducible refine Below.drew ?_) | (with_reducible refine below_call ?_ hb5) | (with_reducible refine below_call ?_ hb4) | (with_reducible refine below_call ?_ hb3) | (with_reducible refine below_call ?_ hb2) | (with_reducible refine below_call ?_ hb1)))⟩
    · have j' : fits (-n) = false := by simpa using j
      go_wp2_with fail
      refine (alive_any _ (Tab.alloc t3 _)).mono ?_
      rintro e w5 ⟨rfl, hb5⟩
      go_wp2_with fail
      go_ret
      exact ⟨rfl, by (repeat (first | (with_reducible exact Below.refl _ _) | with_reducible assumption | (with_reducible refine below_alloc ?_ _) | (focus ((with_reducible refine below_set ?_ _ _ _ ?_); rotate_left; omega)) | (with_reducible refine Below.drew ?_) | (with_reducible refine below_call ?_ hb5) | (with_reducible refine below_call ?_ hb3) | (with_reducible refine below_call ?_ hb2) | (with_reducible refine below_call ?_ hb1)))⟩
  · have k' : fits (n + m) = false := by simpa using k
    go_wp2_with fail
    refine (Neg_any _ _ _ _ H1).mono ?_
    rintro e w3 ⟨na, nb, rfl, hn, hb3⟩
    have B_w3_0 : Box w3 (w.heap.size) (.int .i64 h1) (.int .u64 l1) := (by (repeat (first | with_reducible assumption | (focus ((with_reducible refine Box.new ?_); simp; done)) | (with_reducible refine Box.alloc ?_ _) | (with_reducible refine Box.drew ?_) | (with_reducible refine Box.put ?_) | (focus ((with_reducible refine Box.set ?_ _ ?_); rotate_left; omega)) | (focus ((with_reducible apply HasBox.of); with_reducible assumption)) | (focus ((with_reducible refine HasBox.new ?_); simp; done)) | (with_reducible refine HasBox.set ?_ _ _) | (with_reducible refine HasBox.drew ?_) | (with_reducible refine HasBox.alloc ?_ _) | (with_reducible refine Box.call ?_ hb3) | (with_reducible refine HasBox.call ?_ hb3) | (with_reducible refine Box.call ?_ hb1) | (with_reducible refine HasBox.call ?_ hb1)))); obtain ⟨⟨c_w3_0, d_w3_0⟩, f_w3_0, g_w3_0⟩ := id B_w3_0
    have t3 : Tab w3 := Tab.call (Tab.alloc t1 _) hb3
    by_cases j : fits (-n) = true
    · rw [if_pos j] at hn
      go_wp2_with fail
      refine (Neg_any _ _ _ _ hn).mono ?_
      rintro e w4 ⟨ma, mb, rfl, hm, hb4⟩
      rw [if_pos (back_neg f1), Int.neg_neg] at hm
      have fn := back_neg f1
      rw [Int.neg_neg] at fn
      have B_w4_0 : Box w4 (w.heap.size) (.int .i64 h1) (.int .u64 l1) := (by (repeat (first | with_reducible assumption | (focus ((with_reducible refine Box.new ?_); simp; done)) | (with_reducible refine Box.alloc ?_ _) | (with_reducible refine Box.drew ?_) | (with_reducible refine Box.put ?_) | (focus ((with_reducible refine Box.set ?_ _ ?_); rotate_left; omega)) | (focus ((with_reducible apply HasBox.of); with_reducible assumption)) | (focus ((with_reducible refine HasBox.new ?_); simp; done)) | (with_reducible refine HasBox.set ?_ _ _) | (with_reducible refine HasBox.drew ?_) | (with_reducible refine HasBox.alloc ?_ _) | (with_reducible refine Box.call ?_ hb4) | (with_reducible refine HasBox.call ?_ hb4) | (with_reducible refine Box.call ?_ hb3) | (with_reducible refine HasBox.call ?_ hb3) | (with_reducible refine Box.call ?_ hb1) | (with_reducible refine HasBox.call ?_ hb1)))); obtain ⟨⟨c_w4_0, d_w4_0⟩, f_w4_0, g_w4_0⟩ := id B_w4_0
      have t4 : Tab w4 := Tab.call (Tab.alloc t3 _) hb4
      have E4 := eq_of hm H1
      have l4 := Box.lt B_w4_0
      have n4 := Nat.ne_of_gt (Box.lt B_w4_0)
      go_wp2_with fail
      refine (alive_any _ (Tab.alloc t4 _)).mono ?_
      rintro e w5 ⟨rfl, hb5⟩
      go_wp2_with fail
      go_ret
      exact ⟨rfl, by (repeat (first | (with_reducible exact Below.refl _ _) | with_reducible assumption | (with_reducible refine below_alloc ?_ _) | (focus ((with_reducible refine below_set ?_ _ _ _ ?_); rotate_left; omega)) | (with_reducible refine Below.drew ?_) | (with_reducible refine below_call ?_ hb5) | (with_reducible refine below_call ?_ hb4) | (with_reducible refine below_call ?_ hb3) | (with_reducible refine below_call ?_ hb1)))⟩
    · have j' : fits (-n) = false := by simpa using j
      go_wp2_with fail
      refine (alive_any _ (Tab.alloc t3 _)).mono ?_
      rintro e w5 ⟨rfl, hb5⟩
      go_wp2_with fail
      go_ret
      exact ⟨rfl, by (repeat (first | (with_reducible exact Below.refl _ _) | with_reducible assumption | (with_reducible refine below_alloc ?_ _) | (focus ((with_reducible refine below_set ?_ _ _ _ ?_); rotate_left; omega)) | (with_reducible refine Below.drew ?_) | (with_reducible refine below_call ?_ hb5) | (with_reducible refine below_call ?_ hb3) | (with_reducible refine below_call ?_ hb1)))⟩
end Go.Proofs.YtdmjccbpghilcaaDoor
