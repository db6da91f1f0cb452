/-
  Contracts of wide.textSize and wide.Text. My own text.
-/
import Derived.Test.YtljkapolljgbiaaDoorDivA
import Derived.Test.YtljkapolljgbiaaDoorTextA
import Derived.Test.YtljkapolljgbiaaDoorTextM
import Derived.Lib.ItoaLen
namespace Go.Proofs.YtljkapolljgbiaaDoor
open Go.RowKit Go.Lib
set_option linter.unusedVariables false

theorem ten39 : (10 : Nat) ^ 39 = 1000000000000000000000000000000000000000 := by decide
theorem ba_app (a b : List UInt8) : (⟨a.toArray⟩ : ByteArray) ++ ⟨b.toArray⟩ = ⟨(a ++ b).toArray⟩ := by
  apply ByteArray.ext
  rw [ByteArray.data_append]
  simp
theorem ret_str {a b : ByteArray} (h : a = b) : Ending.returned (.string a) = .returned (.string b) := by rw [h]
theorem isS_chunk : IsS 0 10000000000000000000 10000000000000000000 := by unfold IsS; omega
theorem isS_low {a b n : Int} (h : IsS a b n) (k : n < 18446744073709551616) : a = 0 ∧ b = n ∧ 0 ≤ n := by
  obtain ⟨h1, h2, rfl⟩ := h
  omega
set_option maxHeartbeats 2000000 in
set_option maxRecDepth 100000 in
theorem textSize_any (h1 l1 : Int) (n : Nat) (w : World) (H1 : IsS h1 l1 n) (hn : n ≤ 170141183460469231731687303715884105728) (htab : Tab w) :
    Calls Tryd.prog 8 #[.agg #[.int .u64 h1, .int .u64 l1]] w (RV (.string ⟨(decDigits n).toArray⟩) w) := by
  have hdv : Hid (∀ w, Calls Tryd.prog 20 #[.agg #[.int .u64 h1, .int .u64 l1], .agg #[.int .u64 0, .int .u64 10000000000000000000]] w (RSS ((n : Int) / 10000000000000000000) ((n : Int) % 10000000000000000000) w)) := fun w => divSizes_any _ _ _ _ _ _ w H1 isS_chunk (by omega) (by omega)
  obtain ⟨U, hU⟩ : ∃ U, U = n / 10000000000000000000 := ⟨_, rfl⟩
  obtain ⟨L, hL⟩ : ∃ L, L = n % 10000000000000000000 := ⟨_, rfl⟩
  rw [show (n : Int) / 10000000000000000000 = (U : Int) by omega, show (n : Int) % 10000000000000000000 = (L : Int) by omega] at hdv
  have hLb : L < 10000000000000000000 := by omega
  have hUb : U < 18446744073709551616 := by omega
  have hnU : Hid (n = U * 10000000000000000000 + L) := by unfold Hid; omega
  clear hU hL
  go_enter Tryd.func8, Tryd.ntmps8
  go_wp2_with fail
  refine (hdv.out _).mono ?_
  rintro e w1 ⟨a, b, c, d, rfl, hq, hr, hb1⟩
  obtain ⟨rfl, rfl, _⟩ := isS_low hq (by omega)
  obtain ⟨rfl, rfl, _⟩ := isS_low hr (by omega)
  have t1 : Tab w1 := Tab.call (Tab.alloc htab _) hb1
  have hz1 := Below.size hb1
  simp at hz1
  go_wp2_with fail
  refine (fmtU_any L (by omega) _ (Tab.alloc (Tab.alloc t1 _) _)).mono ?_
  rintro e w2 ⟨rfl, hb2⟩
  have B_w2_0 : Box w2 (w1.heap.size) (.int .u64 0) (.int .u64 U) := (by (repeat (first | with_reducible assumption | (focus ((with_reducible refine Box.new ?_); simp; done)) | (with_reducible refine Box.alloc ?_ _) | (with_reducible refine Box.drew ?_) | (with_reducible refine Box.put ?_) | (focus ((with_reducible refine Box.set ?_ _ ?_); rotate_left; omega)) | (focus ((with_reducible apply HasBox.of); with_reducible assumption)) | (focus ((with_reducible refine HasBox.new ?_); simp; done)) | (with_reducible refine HasBox.set ?_ _ _) | (with_reducible refine HasBox.drew ?_) | (with_reducible refine HasBox.alloc ?_ _) | (with_reducible refine Box.call ?_ hb2) | (with_reducible refine HasBox.call ?_ hb2) | (with_reducible refine Box.call ?_ hb1) | (with_reducible refine HasBox.call ?_ hb1)))); obtain ⟨⟨c_w2_0, d_w2_0⟩, f_w2_0, g_w2_0⟩ := id B_w2_0; have B_w2_1 : Box w2 (w1.heap.size + 1) (.int .u64 0) (.int .u64 L) := (by (repeat (first | with_reducible assumption | (focus ((with_reducible refine Box.new ?_); simp; done)) | (with_reducible refine Box.alloc ?_ _) | (with_reducible refine Box.drew ?_) | (with_reducible refine Box.put ?_) | (focus ((with_reducible refine Box.set ?_ _ ?_); rotate_left; omega)) | (focus ((with_reducible apply HasBox.of); with_reducible assumption)) | (focus ((with_reducible refine HasBox.new ?_); simp; done)) | (with_reducible refine HasBox.set ?_ _ _) | (with_reducible refine HasBox.drew ?_) | (with_reducible refine HasBox.alloc ?_ _) | (with_reducible refine Box.call ?_ hb2) | (with_reducible refine HasBox.call ?_ hb2) | (with_reducible refine Box.call ?_ hb1) | (with_reducible refine HasBox.call ?_ hb1)))); obtain ⟨⟨c_w2_1, d_w2_1⟩, f_w2_1, g_w2_1⟩ := id B_w2_1
  have t2 : Tab w2 := Tab.call (Tab.alloc (Tab.alloc t1 _) _) hb2
  by_cases hu : U = 0
  · subst hu
    have he : eqW 0 0 0 0 = true := rfl
    have HN : Hid (decDigits n = decDigits L) := by unfold Hid; rw [hnU.out]; simp
    go_wp2_with fail
    go_ret
    rw [HN.out]
    exact ⟨rfl, by (repeat (first | (with_reducible exact Below.refl _ _) | with_reducible assumption | (with_reducible refine below_alloc ?_ _) | (focus ((with_reducible refine below_set ?_ _ _ _ ?_); rotate_left; omega)) | (with_reducible refine Below.drew ?_) | (with_reducible refine below_call ?_ hb2) | (with_reducible refine below_call ?_ hb1)))⟩
  · have he : eqW 0 (U : Int) 0 0 = false := by unfold eqW; simp; omega
    obtain ⟨hd, hnd⟩ := dec_two U L (by omega) hLb
    rw [← hnU.out] at hd
    have HD := Lib.hid hd
    have hdl : (decDigits L).length = nDigits L := decDigits_length L
    have hsz : Hid (∀ w, Calls Tryd.prog 22 #[.string ⟨#[48]⟩, .int .i64 ((19 - nDigits L : Nat) : Int)] w (RV (.string ⟨(repeatL [48] (19 - nDigits L)).toArray⟩) w)) := fun w => (Tryd.strings_Repeat ⟨#[48]⟩ (19 - nDigits L) w (by omega) (by show 1 * _ ≤ _; omega)).mono fun e w' h => h
    clear hd hu
    have hcast : ((19 - nDigits L : Nat) : Int) = 19 - (nDigits L : Int) := by omega
    rw [hcast] at hsz
    have HC := Lib.hid hcast
    clear hcast
    go_wp2_with fail
    refine (hsz.out _).mono ?_
    rintro e w3 ⟨rfl, hb3⟩
    have B_w3_0 : Box w3 (w1.heap.size) (.int .u64 0) (.int .u64 U) := (by (repeat (first | with_reducible assumption | (focus ((with_reducible refine Box.new ?_); simp; done)) | (with_reducible refine Box.alloc ?_ _) | (with_reducible refine Box.drew ?_) | (with_reducible refine Box.put ?_) | (focus ((with_reducible refine Box.set ?_ _ ?_); rotate_left; omega)) | (focus ((with_reducible apply HasBox.of); with_reducible assumption)) | (focus ((with_reducible refine HasBox.new ?_); simp; done)) | (with_reducible refine HasBox.set ?_ _ _) | (with_reducible refine HasBox.drew ?_) | (with_reducible refine HasBox.alloc ?_ _) | (with_reducible refine Box.call ?_ hb3) | (with_reducible refine HasBox.call ?_ hb3) | (with_reducible refine Box.call ?_ hb2) | (with_reducible refine HasBox.call ?_ hb2) | (with_reducible refine Box.call ?_ hb1) | (with_reducible refine HasBox.call ?_ hb1)))); obtain ⟨⟨c_w3_0, d_w3_0⟩, f_w3_0, g_w3_0⟩ := id B_w3_0
    go_wp2_with fail
    refine (fmtU_any U hUb _ (Tab.call t2 hb3)).mono ?_
    rintro e w4 ⟨rfl, hb4⟩
    have k1 : (decDigits U).length ≤ 20 := by rw [decDigits_length]; exact nDigits_le20 U hUb
    have k2 : (repeatL [48] (19 - nDigits L)).length ≤ 19 := by rw [repeatL_length]; simp
    have k3 : ¬ 9223372036854775807 < (decDigits U).length + (repeatL [48] (19 - nDigits L)).length := by omega
    have k4 : ¬ 9223372036854775807 < (decDigits U).length + (repeatL [48] (19 - nDigits L)).length + nDigits L := by omega
    go_wp2_with fail
    go_ret
    rw [HD.out]
    exact ⟨ret_str (by rw [ba_app, ba_app]), by (repeat (first | (with_reducible exact Below.refl _ _) | with_reducible assumption | (with_reducible refine below_alloc ?_ _) | (focus ((with_reducible refine below_set ?_ _ _ _ ?_); rotate_left; omega)) | (with_reducible refine Below.drew ?_) | (with_reducible refine below_call ?_ hb4) | (with_reducible refine below_call ?_ hb3) | (with_reducible refine below_call ?_ hb2) | (with_reducible refine below_call ?_ hb1)))⟩
set_option maxHeartbeats 2000000 in
theorem Text_any (h1 l1 n : Int) (w : World) (H1 : IsW h1 l1 n) (htab : Tab w) :
    Calls Tryd.prog 4 #[.agg #[.int .i64 h1, .int .u64 l1]] w (RV (.string ⟨(itoa n).toArray⟩) w) := by
  have hn : n.natAbs ≤ 170141183460469231731687303715884105728 := by have := H1; unfold IsW at this; omega
  have hz : Hid (∀ w, Calls Tryd.prog 9 #[.agg #[.int .i64 h1, .int .u64 l1]] w (RS (n.natAbs : Nat) w)) := fun w => sizeOf_any h1 l1 n w H1
  have hneg := H1.neg
  go_enter Tryd.func4, Tryd.ntmps4
  go_wp2_with fail
  refine (hz.out _).mono ?_
  rintro e w1 ⟨sh, sl, rfl, hs, hb1⟩
  go_wp2_with fail
  refine (textSize_any _ _ _ _ hs hn (Tab.call (Tab.alloc htab _) hb1)).mono ?_
  rintro e w2 ⟨rfl, hb2⟩
  have B_w2_0 : Box w2 (w.heap.size) (.int .i64 h1) (.int .u64 l1) := (by (repeat (first | with_reducible assumption | (focus ((with_reducible refine Box.new ?_); simp; done)) | (with_reducible refine Box.alloc ?_ _) | (with_reducible refine Box.drew ?_) | (with_reducible refine Box.put ?_) | (focus ((with_reducible refine Box.set ?_ _ ?_); rotate_left; omega)) | (focus ((with_reducible apply HasBox.of); with_reducible assumption)) | (focus ((with_reducible refine HasBox.new ?_); simp; done)) | (with_reducible refine HasBox.set ?_ _ _) | (with_reducible refine HasBox.drew ?_) | (with_reducible refine HasBox.alloc ?_ _) | (with_reducible refine Box.call ?_ hb2) | (with_reducible refine HasBox.call ?_ hb2) | (with_reducible refine Box.call ?_ hb1) | (with_reducible refine HasBox.call ?_ hb1)))); obtain ⟨⟨c_w2_0, d_w2_0⟩, f_w2_0, g_w2_0⟩ := id B_w2_0
  by_cases k : h1 < 0
  · have HT : Hid (itoa n = 45 :: decDigits n.natAbs) := by unfold Hid itoa; rw [if_pos (hneg.1 k)]
    have k1 := (pad_dec 39 n.natAbs (by omega) (by rw [ten39]; omega)).2
    have k2 : ¬ 9223372036854775807 < 1 + (decDigits n.natAbs).length := by rw [decDigits_length]; omega
    go_wp2_with fail
    go_ret
    rw [HT.out]
    exact ⟨ret_str (ba_app [45] _), by (repeat (first | (with_reducible exact Below.refl _ _) | with_reducible assumption | (with_reducible refine below_alloc ?_ _) | (focus ((with_reducible refine below_set ?_ _ _ _ ?_); rotate_left; omega)) | (with_reducible refine Below.drew ?_) | (with_reducible refine below_call ?_ hb2) | (with_reducible refine below_call ?_ hb1)))⟩
  · have HT : Hid (itoa n = decDigits n.natAbs) := by unfold Hid itoa; rw [if_neg (by omega)]; congr 1; omega
    go_wp2_with fail
    go_ret
    rw [HT.out]
    exact ⟨rfl, by (repeat (first | (with_reducible exact Below.refl _ _) | with_reducible assumption | (with_reducible refine below_alloc ?_ _) | (focus ((with_reducible refine below_set ?_ _ _ _ ?_); rotate_left; omega)) | (with_reducible refine Below.drew ?_) | (with_reducible refine below_call ?_ hb2) | (with_reducible refine below_call ?_ hb1)))⟩
end Go.Proofs.YtljkapolljgbiaaDoor
