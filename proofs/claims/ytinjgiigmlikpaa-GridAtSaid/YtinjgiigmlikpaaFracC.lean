/-
  Contracts of package frac: Of, Make, Snap. My own text.
-/
import Derived.Test.YtinjgiigmlikpaaFracB
namespace Go.Proofs.Ytinjgiigmlikpaa
open Go.RowKit
set_option linter.unusedVariables false
attribute [local go_sem ↓] Go.wp_at_zero Go.wp_at_succ

/-- a fraction comes back. -/
def RF (n d : Int) (w : World) (e : Ending) (w' : World) : Prop := ∃ a b c f, e = .returned (.agg #[.int .i64 a, .int .u64 b, .int .i64 c, .int .u64 f]) ∧ IsW a b n ∧ IsW c f d ∧ Below w.heap.size w w'
/-- a fraction, and whether there is one. -/
def RFB (is : Bool) (n d : Int) (w : World) (e : Ending) (w' : World) : Prop := ∃ a b c f, e = .returned (.tuple #[.agg #[.int .i64 a, .int .u64 b, .int .i64 c, .int .u64 f], .bool is]) ∧ IsW a b n ∧ IsW c f d ∧ Below w.heap.size w w'
set_option maxHeartbeats 400000 in
theorem fOf_any (k : Int) (w : World) (h0 : -9223372036854775808 ≤ k) (h1 : k < 9223372036854775808) : Calls Try.prog 21 #[.int .i64 k] w (RF k 1 w) := by
  have C0 := Lib.hid (fun w => Of_any k w h0 h1)
  clear h0 h1
  go_enter Try.func21, Try.ntmps21
  go_wp2_with fail
  refine (C0.out _).mono ?_
  rintro e w1 ⟨a, b, rfl, ha, hb1⟩
  go_wp2_with fail
  refine (Of_any 1 _ (by omega) (by omega)).mono ?_
  rintro e w2 ⟨c, f, rfl, hc, hb2⟩
  have B0 : Box4 w2 w.heap.size (.int .i64 0) (.int .u64 0) (.int .i64 0) (.int .u64 0) := by (repeat (first | with_reducible assumption | (focus ((with_reducible refine Box.new ?_); simp; done)) | (focus ((with_reducible refine Box4.new ?_); simp; done)) | (with_reducible refine Box.alloc ?_ _) | (with_reducible refine Box4.alloc ?_ _) | (with_reducible refine Box.drew ?_) | (with_reducible refine Box4.drew ?_) | (with_reducible refine Box.put ?_) | (focus ((with_reducible refine Box.set ?_ _ ?_); rotate_left; omega)) | (focus ((with_reducible refine Box4.set ?_ _ ?_); rotate_left; omega)) | (focus ((with_reducible apply HasBox.of); with_reducible assumption)) | (focus ((with_reducible refine HasBox.new ?_); simp; done)) | (with_reducible refine HasBox.set ?_ _ _) | (with_reducible refine HasBox.drew ?_) | (with_reducible refine HasBox.alloc ?_ _) | (with_reducible refine Box.call ?_ hb2) | (with_reducible refine Box4.call ?_ hb2) | (with_reducible refine HasBox.call ?_ hb2) | (with_reducible refine Box.call ?_ hb1) | (with_reducible refine Box4.call ?_ hb1) | (with_reducible refine HasBox.call ?_ hb1)))
  obtain ⟨⟨p0, p1, p2, p3⟩, q0, q1, q2, q3⟩ := id B0
  go_wp2_with fail
  refine bodyPost_ret (v := .agg #[.int .i64 a, .int .u64 b, .int .i64 c, .int .u64 f]) (by simp only [results, Try.results21]; go_simp) rfl ⟨_, _, _, _, rfl, ha, hc, ?_⟩
  (repeat (first | (with_reducible exact Below.refl _ _) | with_reducible assumption | (with_reducible refine below_alloc ?_ _) | (focus ((with_reducible refine below_set ?_ _ _ _ ?_); rotate_left; omega)) | (with_reducible refine Below.drew ?_) | (with_reducible refine below_call ?_ hb2) | (with_reducible refine below_call ?_ hb1)))
/-- what Make answers. -/
def mkIs (n d : Int) : Bool := decide (0 < d) || (decide (d < 0) && fits (-n) && fits (-d))
set_option maxHeartbeats 1000000 in
theorem Make_pos (h l n h' l' d : Int) (w : World) (H : IsW h l n) (H' : IsW h' l' d) (hd : 0 < d) : Calls Try.prog 13 #[.agg #[.int .i64 h, .int .u64 l], .agg #[.int .i64 h', .int .u64 l']] w (RFB true n d w) := by
  have C0 : Hid (∀ w, Calls Try.prog 24 #[.agg #[.int .i64 h', .int .u64 l']] w (RV (.int .i64 1) w)) := fun w => by have := Sign_any h' l' d w H'; rw [icmp_gt hd] at this; exact this
  go_enter Try.func13, Try.ntmps13
  go_wp2_with fail
  refine (C0.out _).mono ?_
  rintro e w1 ⟨rfl, hb1⟩
  have B_w1_0 : Box w1 (w.heap.size) (.int .i64 h) (.int .u64 l) := (by (repeat (first | with_reducible assumption | (focus ((with_reducible refine Box.new ?_); simp; done)) | (with_reducible refine Box.alloc ?_ _) | (with_reducible refine Box.drew ?_) | (with_reducible refine Box.put ?_) | (focus ((with_reducible refine Box.set ?_ _ ?_); rotate_left; omega)) | (focus ((with_reducible apply HasBox.of); with_reducible assumption)) | (focus ((with_reducible refine HasBox.new ?_); simp; done)) | (with_reducible refine HasBox.set ?_ _ _) | (with_reducible refine HasBox.drew ?_) | (with_reducible refine HasBox.alloc ?_ _) | (with_reducible refine Box.call ?_ hb1) | (with_reducible refine HasBox.call ?_ hb1)))); obtain ⟨⟨c_w1_0, d_w1_0⟩, f_w1_0, g_w1_0⟩ := id B_w1_0; have B_w1_1 : Box w1 (w.heap.size + 1) (.int .i64 h') (.int .u64 l') := (by (repeat (first | with_reducible assumption | (focus ((with_reducible refine Box.new ?_); simp; done)) | (with_reducible refine Box.alloc ?_ _) | (with_reducible refine Box.drew ?_) | (with_reducible refine Box.put ?_) | (focus ((with_reducible refine Box.set ?_ _ ?_); rotate_left; omega)) | (focus ((with_reducible apply HasBox.of); with_reducible assumption)) | (focus ((with_reducible refine HasBox.new ?_); simp; done)) | (with_reducible refine HasBox.set ?_ _ _) | (with_reducible refine HasBox.drew ?_) | (with_reducible refine HasBox.alloc ?_ _) | (with_reducible refine Box.call ?_ hb1) | (with_reducible refine HasBox.call ?_ hb1)))); obtain ⟨⟨c_w1_1, d_w1_1⟩, f_w1_1, g_w1_1⟩ := id B_w1_1
  have B0 : Box4 w1 (w.heap.size + 1 + 1) (.int .i64 0) (.int .u64 0) (.int .i64 0) (.int .u64 0) := by (repeat (first | with_reducible assumption | (focus ((with_reducible refine Box.new ?_); simp; done)) | (focus ((with_reducible refine Box4.new ?_); simp; done)) | (with_reducible refine Box.alloc ?_ _) | (with_reducible refine Box4.alloc ?_ _) | (with_reducible refine Box.drew ?_) | (with_reducible refine Box4.drew ?_) | (with_reducible refine Box.put ?_) | (focus ((with_reducible refine Box.set ?_ _ ?_); rotate_left; omega)) | (focus ((with_reducible refine Box4.set ?_ _ ?_); rotate_left; omega)) | (focus ((with_reducible apply HasBox.of); with_reducible assumption)) | (focus ((with_reducible refine HasBox.new ?_); simp; done)) | (with_reducible refine HasBox.set ?_ _ _) | (with_reducible refine HasBox.drew ?_) | (with_reducible refine HasBox.alloc ?_ _) | (with_reducible refine Box.call ?_ hb1) | (with_reducible refine Box4.call ?_ hb1) | (with_reducible refine HasBox.call ?_ hb1)))
  obtain ⟨⟨p0, p1, p2, p3⟩, q0, q1, q2, q3⟩ := id B0
  go_wp2_with fail
  refine bodyPost_ret (v := .tuple #[.agg #[.int .i64 h, .int .u64 l, .int .i64 h', .int .u64 l'], .bool true]) (by simp only [results, Try.results13]; go_simp) rfl ⟨_, _, _, _, rfl, H, H', ?_⟩
  (repeat (first | (with_reducible exact Below.refl _ _) | with_reducible assumption | (with_reducible refine below_alloc ?_ _) | (focus ((with_reducible refine below_set ?_ _ _ _ ?_); rotate_left; omega)) | (with_reducible refine Below.drew ?_) | (with_reducible refine below_call ?_ hb1)))
set_option maxHeartbeats 1000000 in
theorem Make_zero (h l n h' l' : Int) (w : World) (H : IsW h l n) (H' : IsW h' l' 0) : Calls Try.prog 13 #[.agg #[.int .i64 h, .int .u64 l], .agg #[.int .i64 h', .int .u64 l']] w (RFB false 0 0 w) := by
  have C0 : Hid (∀ w, Calls Try.prog 24 #[.agg #[.int .i64 h', .int .u64 l']] w (RV (.int .i64 0) w)) := fun w => by have := Sign_any h' l' 0 w H'; rw [icmp_eq rfl] at this; exact this
  go_enter Try.func13, Try.ntmps13
  go_wp2_with fail
  refine (C0.out _).mono ?_
  rintro e w1 ⟨rfl, hb1⟩
  have B0 : Box4 w1 (w.heap.size + 1 + 1) (.int .i64 0) (.int .u64 0) (.int .i64 0) (.int .u64 0) := by (repeat (first | with_reducible assumption | (focus ((with_reducible refine Box.new ?_); simp; done)) | (focus ((with_reducible refine Box4.new ?_); simp; done)) | (with_reducible refine Box.alloc ?_ _) | (with_reducible refine Box4.alloc ?_ _) | (with_reducible refine Box.drew ?_) | (with_reducible refine Box4.drew ?_) | (with_reducible refine Box.put ?_) | (focus ((with_reducible refine Box.set ?_ _ ?_); rotate_left; omega)) | (focus ((with_reducible refine Box4.set ?_ _ ?_); rotate_left; omega)) | (focus ((with_reducible apply HasBox.of); with_reducible assumption)) | (focus ((with_reducible refine HasBox.new ?_); simp; done)) | (with_reducible refine HasBox.set ?_ _ _) | (with_reducible refine HasBox.drew ?_) | (with_reducible refine HasBox.alloc ?_ _) | (with_reducible refine Box.call ?_ hb1) | (with_reducible refine Box4.call ?_ hb1) | (with_reducible refine HasBox.call ?_ hb1)))
  obtain ⟨⟨p0, p1, p2, p3⟩, q0, q1, q2, q3⟩ := id B0
  go_wp2_with fail
  refine bodyPost_ret (v := .tuple #[.agg #[.int .i64 0, .int .u64 0, .int .i64 0, .int .u64 0], .bool false]) (by simp only [results, Try.results13]; go_simp) rfl ⟨_, _, _, _, rfl, isW0, isW0, ?_⟩
  (repeat (first | (with_reducible exact Below.refl _ _) | with_reducible assumption | (with_reducible refine below_alloc ?_ _) | (focus ((with_reducible refine below_set ?_ _ _ _ ?_); rotate_left; omega)) | (with_reducible refine Below.drew ?_) | (with_reducible refine below_call ?_ hb1)))
/-- what Make answers, of a d below 0. -/
def RFM (n d : Int) (w : World) (e : Ending) (w' : World) : Prop := RFB (fits (-n) && fits (-d)) (if (fits (-n) && fits (-d)) = true then -n else 0) (if (fits (-n) && fits (-d)) = true then -d else 0) w e w'
theorem rfm_yes {n d : Int} {w w' : World} {a b c f : Int} (f1 : fits (-n) = true) (f2 : fits (-d) = true) (h1 : IsW a b (-n)) (h2 : IsW c f (-d)) (hb : Below w.heap.size w w') : RFM n d w (.returned (.tuple #[.agg #[.int .i64 a, .int .u64 b, .int .i64 c, .int .u64 f], .bool true])) w' := by
  unfold RFM; rw [f1, f2]; exact ⟨a, b, c, f, rfl, h1, h2, hb⟩
theorem rfm_no {n d : Int} {w w' : World} (h : (fits (-n) && fits (-d)) = false) (hb : Below w.heap.size w w') : RFM n d w (.returned (.tuple #[.agg #[.int .i64 0, .int .u64 0, .int .i64 0, .int .u64 0], .bool false])) w' := by
  unfold RFM; rw [h]; exact ⟨0, 0, 0, 0, rfl, isW0, isW0, hb⟩
set_option maxHeartbeats 1000000 in
theorem Make_neg (ha la n h' l' d : Int) (w : World) (H : IsW ha la n) (H' : IsW h' l' d) (hd : d < 0) :
    Calls Try.prog 13 #[.agg #[.int .i64 ha, .int .u64 la], .agg #[.int .i64 h', .int .u64 l']] w (RFM n d w) := by
  have C0 : Hid (∀ w, Calls Try.prog 24 #[.agg #[.int .i64 h', .int .u64 l']] w (RV (.int .i64 (-1)) w)) := fun w => by have := Sign_any h' l' d w H'; rw [icmp_lt hd] at this; exact this
  have hm0 := isW0
  go_enter Try.func13, Try.ntmps13
  go_wp2_with fail
  refine (C0.out _).mono ?_
  rintro e w1 ⟨rfl, hb1⟩
  have B_w1_0 : Box w1 (w.heap.size) (.int .i64 ha) (.int .u64 la) := (by (repeat (first | with_reducible assumption | (focus ((with_reducible refine Box.new ?_); simp; done)) | (with_reducible refine Box.alloc ?_ _) | (with_reducible refine Box.drew ?_) | (with_reducible refine Box.put ?_) | (focus ((with_reducible refine Box.set ?_ _ ?_); rotate_left; omega)) | (focus ((with_reducible apply HasBox.of); with_reducible assumption)) | (focus ((with_reducible refine HasBox.new ?_); simp; done)) | (with_reducible refine HasBox.set ?_ _ _) | (with_reducible refine HasBox.drew ?_) | (with_reducible refine HasBox.alloc ?_ _) | (with_reducible refine Box.call ?_ hb1) | (with_reducible refine HasBox.call ?_ hb1)))); obtain ⟨⟨c_w1_0, d_w1_0⟩, f_w1_0, g_w1_0⟩ := id B_w1_0; have B_w1_1 : Box w1 (w.heap.size + 1) (.int .i64 h') (.int .u64 l') := (by (repeat (first | with_reducible assumption | (focus ((with_reducible refine Box.new ?_); simp; done)) | (with_reducible refine Box.alloc ?_ _) | (with_reducible refine Box.drew ?_) | (with_reducible refine Box.put ?_) | (focus ((with_reducible refine Box.set ?_ _ ?_); rotate_left; omega)) | (focus ((with_reducible apply HasBox.of); with_reducible assumption)) | (focus ((with_reducible refine HasBox.new ?_); simp; done)) | (with_reducible refine HasBox.set ?_ _ _) | (with_reducible refine HasBox.drew ?_) | (with_reducible refine HasBox.alloc ?_ _) | (with_reducible refine Box.call ?_ hb1) | (with_reducible refine HasBox.call ?_ hb1)))); obtain ⟨⟨c_w1_1, d_w1_1⟩, f_w1_1, g_w1_1⟩ := id B_w1_1; have hz_hb1 := Below.size hb1; (try simp at hz_hb1); have ne_hb1_0 : ¬ w1.heap.size = w.heap.size := (by omega); have ne_hb1_1 : ¬ w1.heap.size = w.heap.size + 1 := (by omega); have ne_hb1_2 : ¬ w1.heap.size = w.heap.size + 1 + 1 := (by omega); have en_hb1_0 : ¬ w.heap.size = w1.heap.size := (by omega); have en_hb1_1 : ¬ w.heap.size + 1 = w1.heap.size := (by omega); have en_hb1_2 : ¬ w.heap.size + 1 + 1 = w1.heap.size := (by omega); have lt_hb1_0 : w.heap.size < w1.heap.size := (by omega); have lt_hb1_1 : w.heap.size + 1 < w1.heap.size := (by omega); have lt_hb1_2 : w.heap.size + 1 + 1 < w1.heap.size := (by omega)
  go_wp2_with fail
  refine (Neg_any _ _ _ _ H).mono ?_
  rintro e w2 ⟨na, nb, rfl, hn, hb2⟩
  have B_w2_0 : Box w2 (w.heap.size + 1) (.int .i64 h') (.int .u64 l') := (by (repeat (first | with_reducible assumption | (focus ((with_reducible refine Box.new ?_); simp; done)) | (with_reducible refine Box.alloc ?_ _) | (with_reducible refine Box.drew ?_) | (with_reducible refine Box.put ?_) | (focus ((with_reducible refine Box.set ?_ _ ?_); rotate_left; omega)) | (focus ((with_reducible apply HasBox.of); with_reducible assumption)) | (focus ((with_reducible refine HasBox.new ?_); simp; done)) | (with_reducible refine HasBox.set ?_ _ _) | (with_reducible refine HasBox.drew ?_) | (with_reducible refine HasBox.alloc ?_ _) | (with_reducible refine Box.call ?_ hb2) | (with_reducible refine HasBox.call ?_ hb2) | (with_reducible refine Box.call ?_ hb1) | (with_reducible refine HasBox.call ?_ hb1)))); obtain ⟨⟨c_w2_0, d_w2_0⟩, f_w2_0, g_w2_0⟩ := id B_w2_0; have hz_hb2 := Below.size hb2; (try simp at hz_hb2); have ne_hb2_0 : ¬ w2.heap.size = w.heap.size := (by omega); have ne_hb2_1 : ¬ w2.heap.size = w.heap.size + 1 := (by omega); have ne_hb2_2 : ¬ w2.heap.size = w.heap.size + 1 + 1 := (by omega); have en_hb2_0 : ¬ w.heap.size = w2.heap.size := (by omega); have en_hb2_1 : ¬ w.heap.size + 1 = w2.heap.size := (by omega); have en_hb2_2 : ¬ w.heap.size + 1 + 1 = w2.heap.size := (by omega); have lt_hb2_0 : w.heap.size < w2.heap.size := (by omega); have lt_hb2_1 : w.heap.size + 1 < w2.heap.size := (by omega); have lt_hb2_2 : w.heap.size + 1 + 1 < w2.heap.size := (by omega)
  go_wp2_with fail
  refine (Neg_any _ _ _ _ H').mono ?_
  rintro e w3 ⟨da, db, rfl, hdd, hb3⟩
  have B_w3_0 : Box w3 (w2.heap.size) (.int .i64 na) (.int .u64 nb) := (by (repeat (first | with_reducible assumption | (focus ((with_reducible refine Box.new ?_); simp; done)) | (with_reducible refine Box.alloc ?_ _) | (with_reducible refine Box.drew ?_) | (with_reducible refine Box.put ?_) | (focus ((with_reducible refine Box.set ?_ _ ?_); rotate_left; omega)) | (focus ((with_reducible apply HasBox.of); with_reducible assumption)) | (focus ((with_reducible refine HasBox.new ?_); simp; done)) | (with_reducible refine HasBox.set ?_ _ _) | (with_reducible refine HasBox.drew ?_) | (with_reducible refine HasBox.alloc ?_ _) | (with_reducible refine Box.call ?_ hb3) | (with_reducible refine HasBox.call ?_ hb3) | (with_reducible refine Box.call ?_ hb2) | (with_reducible refine HasBox.call ?_ hb2) | (with_reducible refine Box.call ?_ hb1) | (with_reducible refine HasBox.call ?_ hb1)))); obtain ⟨⟨c_w3_0, d_w3_0⟩, f_w3_0, g_w3_0⟩ := id B_w3_0; have hz_hb3 := Below.size hb3; (try simp at hz_hb3); have ne_hb3_0 : ¬ w3.heap.size = w.heap.size := (by omega); have ne_hb3_1 : ¬ w3.heap.size = w.heap.size + 1 := (by omega); have ne_hb3_2 : ¬ w3.heap.size = w.heap.size + 1 + 1 := (by omega); have en_hb3_0 : ¬ w.heap.size = w3.heap.size := (by omega); have en_hb3_1 : ¬ w.heap.size + 1 = w3.heap.size := (by omega); have en_hb3_2 : ¬ w.heap.size + 1 + 1 = w3.heap.size := (by omega); have lt_hb3_0 : w.heap.size < w3.heap.size := (by omega); have lt_hb3_1 : w.heap.size + 1 < w3.heap.size := (by omega); have lt_hb3_2 : w.heap.size + 1 + 1 < w3.heap.size := (by omega)
  have B0 : Box4 w3 (w.heap.size + 1 + 1) (.int .i64 0) (.int .u64 0) (.int .i64 0) (.int .u64 0) := by (repeat (first | with_reducible assumption | (focus ((with_reducible refine Box.new ?_); simp; done)) | (focus ((with_reducible refine Box4.new ?_); simp; done)) | (with_reducible refine Box.alloc ?_ _) | (with_reducible refine Box4.alloc ?_ _) | (with_reducible refine Box.drew ?_) | (with_reducible refine Box4.drew ?_) | (with_reducible refine Box.put ?_) | (focus ((with_reducible refine Box.set ?_ _ ?_); rotate_left; omega)) | (focus ((with_reducible refine Box4.set ?_ _ ?_); rotate_left; omega)) | (focus ((with_reducible apply HasBox.of); with_reducible assumption)) | (focus ((with_reducible refine HasBox.new ?_); simp; done)) | (with_reducible refine HasBox.set ?_ _ _) | (with_reducible refine HasBox.drew ?_) | (with_reducible refine HasBox.alloc ?_ _) | (with_reducible refine Box.call ?_ hb3) | (with_reducible refine Box4.call ?_ hb3) | (with_reducible refine HasBox.call ?_ hb3) | (with_reducible refine Box.call ?_ hb2) | (with_reducible refine Box4.call ?_ hb2) | (with_reducible refine HasBox.call ?_ hb2) | (with_reducible refine Box.call ?_ hb1) | (with_reducible refine Box4.call ?_ hb1) | (with_reducible refine HasBox.call ?_ hb1)))
  obtain ⟨⟨p0, p1, p2, p3⟩, q0, q1, q2, q3⟩ := id B0
  have l2 := Box.lt B_w3_0; have l3 := Nat.ne_of_lt (Box.lt B_w3_0); have l4 := Nat.ne_of_gt (Box.lt B_w3_0)
  have l5 := B0.lt; have l6 := Nat.ne_of_lt B0.lt; have l7 := Nat.ne_of_gt B0.lt
  by_cases f1 : fits (-n) = true
  · by_cases f2 : fits (-d) = true
    · rw [if_pos f1] at hn
      rw [if_pos f2] at hdd
      have G1 := Lib.hid f1
      have G2 := Lib.hid f2
      rw [f1, f2]
      clear f1 f2
      go_wp2_with fail
      refine bodyPost_ret (v := .tuple #[.agg #[.int .i64 na, .int .u64 nb, .int .i64 da, .int .u64 db], .bool true]) (by simp only [results, Try.results13]; go_simp) rfl (rfm_yes G1.out G2.out hn hdd ?_)
      (repeat (first | (with_reducible exact Below.refl _ _) | with_reducible assumption | (with_reducible refine below_alloc ?_ _) | (focus ((with_reducible refine below_set ?_ _ _ _ ?_); rotate_left; omega)) | (with_reducible refine Below.drew ?_) | (with_reducible refine below_call ?_ hb3) | (with_reducible refine below_call ?_ hb2) | (with_reducible refine below_call ?_ hb1)))
    · have f2' : fits (-d) = false := by simpa using f2
      have G : Hid ((fits (-n) && fits (-d)) = false) := by unfold Hid; rw [f2', Bool.and_false]
      rw [f1, f2']
      clear f1 f2 f2' hn hdd
      go_wp2_with fail
      refine bodyPost_ret (v := .tuple #[.agg #[.int .i64 0, .int .u64 0, .int .i64 0, .int .u64 0], .bool false]) (by simp only [results, Try.results13]; go_simp) rfl (rfm_no G.out ?_)
      (repeat (first | (with_reducible exact Below.refl _ _) | with_reducible assumption | (with_reducible refine below_alloc ?_ _) | (focus ((with_reducible refine below_set ?_ _ _ _ ?_); rotate_left; omega)) | (with_reducible refine Below.drew ?_) | (with_reducible refine below_call ?_ hb3) | (with_reducible refine below_call ?_ hb2) | (with_reducible refine below_call ?_ hb1)))
  · have f1' : fits (-n) = false := by simpa using f1
    have G : Hid ((fits (-n) && fits (-d)) = false) := by unfold Hid; rw [f1', Bool.false_and]
    rw [f1']
    clear f1 f1' hn hdd
    go_wp2_with fail
    refine bodyPost_ret (v := .tuple #[.agg #[.int .i64 0, .int .u64 0, .int .i64 0, .int .u64 0], .bool false]) (by simp only [results, Try.results13]; go_simp) rfl (rfm_no G.out ?_)
    (repeat (first | (with_reducible exact Below.refl _ _) | with_reducible assumption | (with_reducible refine below_alloc ?_ _) | (focus ((with_reducible refine below_set ?_ _ _ _ ?_); rotate_left; omega)) | (with_reducible refine Below.drew ?_) | (with_reducible refine below_call ?_ hb3) | (with_reducible refine below_call ?_ hb2) | (with_reducible refine below_call ?_ hb1)))
end Go.Proofs.Ytinjgiigmlikpaa
