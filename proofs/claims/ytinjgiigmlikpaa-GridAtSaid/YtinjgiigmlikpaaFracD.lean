/-
  Contracts of package frac: Snap. My own text.
-/
import Derived.Test.YtinjgiigmlikpaaFracC
namespace Go.Proofs.Ytinjgiigmlikpaa
open Go.RowKit
set_option linter.unusedVariables false
attribute [local go_sem ↓] Go.wp_at_zero Go.wp_at_succ

theorem Box4.cs {w : World} {b : Nat} {u v x y : Value} (h : Box4 w b u v x y) : w.cell? ⟨b, 0, none⟩ = some u ∧ w.cell? ⟨b, 1, none⟩ = some v ∧ w.cell? ⟨b, 2, none⟩ = some x ∧ w.cell? ⟨b, 3, none⟩ = some y := h.1
/-- the Int n comes back, and true. -/
def RWT (n : Int) (w : World) (e : Ending) (w' : World) : Prop := ∃ H L, e = .returned (.tuple #[.agg #[.int .i64 H, .int .u64 L], .bool true]) ∧ IsW H L n ∧ Below w.heap.size w w'
/-- what Snap tells. -/
def sna (n d : Int) (k : Nat) : Int := if k = 0 then nea n d else nea (n / d) (2 ^ k)
theorem pow100 {k : Nat} (h : k ≤ 100) : fits ((2 : Int) ^ k) = true := by
  have h1 := Nat.pow_le_pow_right (show 0 < 2 by decide) h
  rw [show (2 : Nat) ^ 100 = 1267650600228229401496703205376 by decide] at h1
  have h2 := (pow2_bd k).1
  have e : ((2 : Int) ^ k) = ((2 ^ k : Nat) : Int) := by simp
  unfold fits
  rw [e, decide_eq_true_eq]
  generalize (2 : Nat) ^ k = P at *
  omega
set_option maxHeartbeats 1000000 in
theorem Snap_no (ha la n h' l' d k : Int) (w : World) (H : IsW ha la n) (H' : IsW h' l' d) (hno : ¬ (0 < d) ∨ (k < 0 ∨ 100 < k)) : Calls Try.prog 23 #[.agg #[.int .i64 ha, .int .u64 la, .int .i64 h', .int .u64 l'], .int .i64 k] w (RV (.tuple #[.agg #[.int .i64 0, .int .u64 0], .bool false]) w) := by
  have C0 := Lib.hid (fun w => Right_any ha la h' l' d w H')
  have hcs : decide (0 < d) = false ∨ (decide (0 < d) = true ∧ k < 0) ∨ (decide (0 < d) = true ∧ 0 ≤ k ∧ 100 < k) := by
    by_cases e : 0 < d
    · right
      rcases hno with q | q | q
      · exact absurd e q
      · exact .inl ⟨decide_eq_true e, q⟩
      · exact .inr ⟨decide_eq_true e, by omega, q⟩
    · exact .inl (decide_eq_false e)
  clear hno
  rcases hcs with e | ⟨e, q⟩ | ⟨e, q, q'⟩
  · have C1 : Hid (∀ w, Calls Try.prog 19 #[.agg #[.int .i64 ha, .int .u64 la, .int .i64 h', .int .u64 l']] w (RV (.bool false) w)) := fun w => by have := C0.out w; rw [e] at this; exact this
    clear e C0
    go_enter Try.func23, Try.ntmps23
    go_wp2_with (go_at_call 19; ((with_reducible refine (C1.out _).mono ?_); rintro e w1 ⟨rfl, hb1⟩; have B_w1_0 : Box w1 (w.heap.size + 1) (.int .i64 0) (.int .u64 0) := (by (repeat (first | with_reducible assumption | (focus ((with_reducible refine Box.new ?_); simp; done)) | (with_reducible refine Box.alloc ?_ _) | (with_reducible refine Box.drew ?_) | (with_reducible refine Box.put ?_) | (focus ((with_reducible refine Box.set ?_ _ ?_); rotate_left; omega)) | (focus ((with_reducible apply HasBox.of); with_reducible assumption)) | (focus ((with_reducible refine HasBox.new ?_); simp; done)) | (with_reducible refine HasBox.set ?_ _ _) | (with_reducible refine HasBox.drew ?_) | (with_reducible refine HasBox.alloc ?_ _) | (with_reducible refine Box.call ?_ hb1) | (with_reducible refine HasBox.call ?_ hb1)))); obtain ⟨⟨c_w1_0, d_w1_0⟩, f_w1_0, g_w1_0⟩ := id B_w1_0))
    refine bodyPost_ret (v := .tuple #[.agg #[.int .i64 0, .int .u64 0], .bool false]) (by simp only [results, Try.results23]; go_simp) rfl ⟨rfl, ?_⟩
    (repeat (first | (with_reducible exact Below.refl _ _) | with_reducible assumption | (with_reducible refine below_alloc ?_ _) | (focus ((with_reducible refine below_set ?_ _ _ _ ?_); rotate_left; omega)) | (with_reducible refine Below.drew ?_) | (with_reducible refine below_call ?_ hb1)))
  · have C1 : Hid (∀ w, Calls Try.prog 19 #[.agg #[.int .i64 ha, .int .u64 la, .int .i64 h', .int .u64 l']] w (RV (.bool true) w)) := fun w => by have := C0.out w; rw [e] at this; exact this
    have dk : decide (k < 0) = true := decide_eq_true q
    clear e C0
    go_enter Try.func23, Try.ntmps23
    go_wp2_with (go_at_call 19; ((with_reducible refine (C1.out _).mono ?_); rintro e w1 ⟨rfl, hb1⟩; have B_w1_0 : Box w1 (w.heap.size + 1) (.int .i64 0) (.int .u64 0) := (by (repeat (first | with_reducible assumption | (focus ((with_reducible refine Box.new ?_); simp; done)) | (with_reducible refine Box.alloc ?_ _) | (with_reducible refine Box.drew ?_) | (with_reducible refine Box.put ?_) | (focus ((with_reducible refine Box.set ?_ _ ?_); rotate_left; omega)) | (focus ((with_reducible apply HasBox.of); with_reducible assumption)) | (focus ((with_reducible refine HasBox.new ?_); simp; done)) | (with_reducible refine HasBox.set ?_ _ _) | (with_reducible refine HasBox.drew ?_) | (with_reducible refine HasBox.alloc ?_ _) | (with_reducible refine Box.call ?_ hb1) | (with_reducible refine HasBox.call ?_ hb1)))); obtain ⟨⟨c_w1_0, d_w1_0⟩, f_w1_0, g_w1_0⟩ := id B_w1_0))
    refine bodyPost_ret (v := .tuple #[.agg #[.int .i64 0, .int .u64 0], .bool false]) (by simp only [results, Try.results23]; go_simp) rfl ⟨rfl, ?_⟩
    (repeat (first | (with_reducible exact Below.refl _ _) | with_reducible assumption | (with_reducible refine below_alloc ?_ _) | (focus ((with_reducible refine below_set ?_ _ _ _ ?_); rotate_left; omega)) | (with_reducible refine Below.drew ?_) | (with_reducible refine below_call ?_ hb1)))
  · have C1 : Hid (∀ w, Calls Try.prog 19 #[.agg #[.int .i64 ha, .int .u64 la, .int .i64 h', .int .u64 l']] w (RV (.bool true) w)) := fun w => by have := C0.out w; rw [e] at this; exact this
    have dk : decide (k < 0) = false := decide_eq_false (by omega)
    clear e C0
    go_enter Try.func23, Try.ntmps23
    go_wp2_with (go_at_call 19; ((with_reducible refine (C1.out _).mono ?_); rintro e w1 ⟨rfl, hb1⟩; have B_w1_0 : Box w1 (w.heap.size + 1) (.int .i64 0) (.int .u64 0) := (by (repeat (first | with_reducible assumption | (focus ((with_reducible refine Box.new ?_); simp; done)) | (with_reducible refine Box.alloc ?_ _) | (with_reducible refine Box.drew ?_) | (with_reducible refine Box.put ?_) | (focus ((with_reducible refine Box.set ?_ _ ?_); rotate_left; omega)) | (focus ((with_reducible apply HasBox.of); with_reducible assumption)) | (focus ((with_reducible refine HasBox.new ?_); simp; done)) | (with_reducible refine HasBox.set ?_ _ _) | (with_reducible refine HasBox.drew ?_) | (with_reducible refine HasBox.alloc ?_ _) | (with_reducible refine Box.call ?_ hb1) | (with_reducible refine HasBox.call ?_ hb1)))); obtain ⟨⟨c_w1_0, d_w1_0⟩, f_w1_0, g_w1_0⟩ := id B_w1_0))
    refine bodyPost_ret (v := .tuple #[.agg #[.int .i64 0, .int .u64 0], .bool false]) (by simp only [results, Try.results23]; go_simp) rfl ⟨rfl, ?_⟩
    (repeat (first | (with_reducible exact Below.refl _ _) | with_reducible assumption | (with_reducible refine below_alloc ?_ _) | (focus ((with_reducible refine below_set ?_ _ _ _ ?_); rotate_left; omega)) | (with_reducible refine Below.drew ?_) | (with_reducible refine below_call ?_ hb1)))
set_option maxHeartbeats 1000000 in
theorem Snap_zero (ha la n h' l' d : Int) (w : World) (H : IsW ha la n) (H' : IsW h' l' d) (hd : 0 < d) : Calls Try.prog 23 #[.agg #[.int .i64 ha, .int .u64 la, .int .i64 h', .int .u64 l'], .int .i64 0] w (RWT (nea n d) w) := by
  have C1 : Hid (∀ w, Calls Try.prog 19 #[.agg #[.int .i64 ha, .int .u64 la, .int .i64 h', .int .u64 l']] w (RV (.bool true) w)) := fun w => by have := Right_any ha la h' l' d w H'; rw [decide_eq_true hd] at this; exact this
  have C2 := Lib.hid (fun w => nearest_any ha la n h' l' d w H H' hd)
  go_enter Try.func23, Try.ntmps23
  go_wp2_with (first
    | (go_at_call 19; ((with_reducible refine (C1.out _).mono ?_); rintro e w1 ⟨rfl, hb1⟩; have Q1 : Box4 w1 w.heap.size (.int .i64 ha) (.int .u64 la) (.int .i64 h') (.int .u64 l') := (by (repeat (first | with_reducible assumption | (focus ((with_reducible refine Box.new ?_); simp; done)) | (focus ((with_reducible refine Box4.new ?_); simp; done)) | (with_reducible refine Box.alloc ?_ _) | (with_reducible refine Box4.alloc ?_ _) | (with_reducible refine Box.drew ?_) | (with_reducible refine Box4.drew ?_) | (with_reducible refine Box.put ?_) | (focus ((with_reducible refine Box.set ?_ _ ?_); rotate_left; omega)) | (focus ((with_reducible refine Box4.set ?_ _ ?_); rotate_left; omega)) | (focus ((with_reducible apply HasBox.of); with_reducible assumption)) | (focus ((with_reducible refine HasBox.new ?_); simp; done)) | (with_reducible refine HasBox.set ?_ _ _) | (with_reducible refine HasBox.drew ?_) | (with_reducible refine HasBox.alloc ?_ _) | (with_reducible refine Box.call ?_ hb1) | (with_reducible refine Box4.call ?_ hb1) | (with_reducible refine HasBox.call ?_ hb1)))); obtain ⟨⟨p0, p1, p2, p3⟩, q0, q1, q2, q3⟩ := id Q1))
    | (go_at_call 51; ((with_reducible refine (C2.out _).mono ?_); rintro e w2 ⟨ra, rb, rfl, hr, hb2⟩; have B_w2_0 : Box w2 (w.heap.size + 1) (.int .i64 0) (.int .u64 0) := (by (repeat (first | with_reducible assumption | (focus ((with_reducible refine Box.new ?_); simp; done)) | (with_reducible refine Box.alloc ?_ _) | (with_reducible refine Box.drew ?_) | (with_reducible refine Box.put ?_) | (focus ((with_reducible refine Box.set ?_ _ ?_); rotate_left; omega)) | (focus ((with_reducible apply HasBox.of); with_reducible assumption)) | (focus ((with_reducible refine HasBox.new ?_); simp; done)) | (with_reducible refine HasBox.set ?_ _ _) | (with_reducible refine HasBox.drew ?_) | (with_reducible refine HasBox.alloc ?_ _) | (with_reducible refine Box.call ?_ hb2) | (with_reducible refine HasBox.call ?_ hb2) | (with_reducible refine Box.call ?_ hb1) | (with_reducible refine HasBox.call ?_ hb1)))); obtain ⟨⟨c_w2_0, d_w2_0⟩, f_w2_0, g_w2_0⟩ := id B_w2_0)))
  refine bodyPost_ret (v := .tuple #[.agg #[.int .i64 ra, .int .u64 rb], .bool true]) (by simp only [results, Try.results23]; go_simp) rfl ⟨_, _, rfl, hr, ?_⟩
  (repeat (first | (with_reducible exact Below.refl _ _) | with_reducible assumption | (with_reducible refine below_alloc ?_ _) | (focus ((with_reducible refine below_set ?_ _ _ _ ?_); rotate_left; omega)) | (with_reducible refine Below.drew ?_) | (with_reducible refine below_call ?_ hb2) | (with_reducible refine below_call ?_ hb1)))
set_option maxHeartbeats 2000000 in
theorem Snap_pos (ha la n h' l' d : Int) (k : Nat) (w : World) (H : IsW ha la n) (H' : IsW h' l' d) (hd : 0 < d) (k0 : 0 < k) (k1 : k ≤ 100) : Calls Try.prog 23 #[.agg #[.int .i64 ha, .int .u64 la, .int .i64 h', .int .u64 l'], .int .i64 k] w (RWT (nea (n / d) (2 ^ k)) w) := by
  have C1 : Hid (∀ w, Calls Try.prog 19 #[.agg #[.int .i64 ha, .int .u64 la, .int .i64 h', .int .u64 l']] w (RV (.bool true) w)) := fun w => by have := Right_any ha la h' l' d w H'; rw [decide_eq_true hd] at this; exact this
  have C2 : Hid (∀ a b w, IsW a b 1 → Calls Try.prog 27 #[.agg #[.int .i64 a, .int .u64 b], .int .i64 k] w (RWT (2 ^ k) w)) := fun a b w h => (Shl_any a b 1 k w h (by omega) (by omega)).mono fun e w' ⟨p, q, he, hi, hb⟩ => by
    rw [Int.one_mul, Int.toNat_natCast] at he hi
    rw [pow100 k1] at he hi
    exact ⟨p, q, he, hi, hb⟩
  have C3 := Lib.hid (fun w => Floor_yes ha la n h' l' d w H H' hd)
  have C4 : Hid (∀ a b a' b' w, IsW a b (n / d) → IsW a' b' (2 ^ k) → Calls Try.prog 51 #[.agg #[.int .i64 a, .int .u64 b], .agg #[.int .i64 a', .int .u64 b']] w (RW (nea (n / d) (2 ^ k)) w)) := fun a b a' b' w h h' => nearest_any a b _ a' b' _ w h h' (pow2_bd k).1
  generalize hE : nea (n / d) (2 ^ k) = E at C4 ⊢
  clear hE
  have kz : ((k : Int) == 0) = false := by simp; omega
  go_enter Try.func23, Try.ntmps23
  go_wp2_with fail
  refine (C1.out _).mono ?_
  rintro e w1 ⟨rfl, hb1⟩
  have n1 := Lib.hid hb1.size
  go_wp2_with fail
  refine (Of_any 1 _ (by omega) (by omega)).mono ?_
  rintro e w2 ⟨oa, ob, rfl, ho, hb2⟩
  go_wp2_with fail
  refine (C2.out _ _ _ ho).mono ?_
  rintro e w3 ⟨ua, ub, rfl, hu, hb3⟩
  have Q1 : Box4 w3 w.heap.size (.int .i64 ha) (.int .u64 la) (.int .i64 h') (.int .u64 l') := (by (repeat (first | with_reducible assumption | (focus ((with_reducible refine Box.new ?_); simp; done)) | (focus ((with_reducible refine Box4.new ?_); simp; done)) | (with_reducible refine Box.alloc ?_ _) | (with_reducible refine Box4.alloc ?_ _) | (with_reducible refine Box.drew ?_) | (with_reducible refine Box4.drew ?_) | (with_reducible refine Box.put ?_) | (focus ((with_reducible refine Box.set ?_ _ ?_); rotate_left; omega)) | (focus ((with_reducible refine Box4.set ?_ _ ?_); rotate_left; omega)) | (focus ((with_reducible apply HasBox.of); with_reducible assumption)) | (focus ((with_reducible refine HasBox.new ?_); simp; done)) | (with_reducible refine HasBox.set ?_ _ _) | (with_reducible refine HasBox.drew ?_) | (with_reducible refine HasBox.alloc ?_ _) | (with_reducible refine Box.call ?_ hb3) | (with_reducible refine Box4.call ?_ hb3) | (with_reducible refine HasBox.call ?_ hb3) | (with_reducible refine Box.call ?_ hb2) | (with_reducible refine Box4.call ?_ hb2) | (with_reducible refine HasBox.call ?_ hb2) | (with_reducible refine Box.call ?_ hb1) | (with_reducible refine Box4.call ?_ hb1) | (with_reducible refine HasBox.call ?_ hb1))))
  have R1 : Box w3 (w.heap.size + 1) (.int .i64 0) (.int .u64 0) := (by (repeat (first | with_reducible assumption | (focus ((with_reducible refine Box.new ?_); simp; done)) | (focus ((with_reducible refine Box4.new ?_); simp; done)) | (with_reducible refine Box.alloc ?_ _) | (with_reducible refine Box4.alloc ?_ _) | (with_reducible refine Box.drew ?_) | (with_reducible refine Box4.drew ?_) | (with_reducible refine Box.put ?_) | (focus ((with_reducible refine Box.set ?_ _ ?_); rotate_left; omega)) | (focus ((with_reducible refine Box4.set ?_ _ ?_); rotate_left; omega)) | (focus ((with_reducible apply HasBox.of); with_reducible assumption)) | (focus ((with_reducible refine HasBox.new ?_); simp; done)) | (with_reducible refine HasBox.set ?_ _ _) | (with_reducible refine HasBox.drew ?_) | (with_reducible refine HasBox.alloc ?_ _) | (with_reducible refine Box.call ?_ hb3) | (with_reducible refine Box4.call ?_ hb3) | (with_reducible refine HasBox.call ?_ hb3) | (with_reducible refine Box.call ?_ hb2) | (with_reducible refine Box4.call ?_ hb2) | (with_reducible refine HasBox.call ?_ hb2) | (with_reducible refine Box.call ?_ hb1) | (with_reducible refine Box4.call ?_ hb1) | (with_reducible refine HasBox.call ?_ hb1))))
  have bl3 : Below w.heap.size w w3 := (by (repeat (first | (with_reducible exact Below.refl _ _) | with_reducible assumption | (with_reducible refine below_alloc ?_ _) | (focus ((with_reducible refine below_set ?_ _ _ _ ?_); rotate_left; omega)) | (with_reducible refine Below.drew ?_) | (with_reducible refine below_call ?_ hb3) | (with_reducible refine below_call ?_ hb2) | (with_reducible refine below_call ?_ hb1))))
  clear hb1 hb2 hb3 n1
  have l1 := Q1.lt; have l2 := R1.lt
  have e1 : ¬ (w.heap.size = w3.heap.size) := by omega
  have e2 : ¬ (w.heap.size + 1 = w3.heap.size) := by omega
  have e3 : ¬ (w3.heap.size = w.heap.size) := by omega
  have e4 : ¬ (w3.heap.size = w.heap.size + 1) := by omega
  have e5 : ¬ (w.heap.size + 1 = w.heap.size) := by omega
  obtain ⟨⟨p0, p1, p2, p3⟩, q0, q1, q2, q3⟩ := id Q1
  go_wp2_with fail
  have U0 : Box (w3.alloc (.cells #[.int .i64 ua, .int .u64 ub] 24)).drew w3.heap.size (.int .i64 ua) (.int .u64 ub) := (by (repeat (first | with_reducible assumption | (focus ((with_reducible refine Box.new ?_); simp; done)) | (focus ((with_reducible refine Box4.new ?_); simp; done)) | (with_reducible refine Box.alloc ?_ _) | (with_reducible refine Box4.alloc ?_ _) | (with_reducible refine Box.drew ?_) | (with_reducible refine Box4.drew ?_) | (with_reducible refine Box.put ?_) | (focus ((with_reducible refine Box.set ?_ _ ?_); rotate_left; omega)) | (focus ((with_reducible refine Box4.set ?_ _ ?_); rotate_left; omega)) | (focus ((with_reducible apply HasBox.of); with_reducible assumption)) | (focus ((with_reducible refine HasBox.new ?_); simp; done)) | (with_reducible refine HasBox.set ?_ _ _) | (with_reducible refine HasBox.drew ?_) | (with_reducible refine HasBox.alloc ?_ _))))
  have Q2 := (Q1.alloc (.cells #[.int .i64 ua, .int .u64 ub] 24)).drew
  have R2 := (R1.alloc (.cells #[.int .i64 ua, .int .u64 ub] 24)).drew
  go_region_held3 (fun w' => (w'.cell? ⟨w.heap.size, 0, none⟩ = some (.int .i64 ha) ∧ w'.cell? ⟨w.heap.size, 1, none⟩ = some (.int .u64 la) ∧ w'.cell? ⟨w.heap.size, 2, none⟩ = some (.int .i64 h') ∧ w'.cell? ⟨w.heap.size, 3, none⟩ = some (.int .u64 l')) ∧ (w'.cell? ⟨w3.heap.size, 0, none⟩ = some (.int .i64 ua) ∧ w'.cell? ⟨w3.heap.size, 1, none⟩ = some (.int .u64 ub)))
    (first | (refine And.intro (Box4.cs ?_) (Box.both ?_) <;> ((repeat (first | with_reducible assumption | (focus ((with_reducible refine Box.new ?_); simp; done)) | (focus ((with_reducible refine Box4.new ?_); simp; done)) | (with_reducible refine Box.alloc ?_ _) | (with_reducible refine Box4.alloc ?_ _) | (with_reducible refine Box.drew ?_) | (with_reducible refine Box4.drew ?_) | (with_reducible refine Box.put ?_) | (focus ((with_reducible refine Box.set ?_ _ ?_); rotate_left; omega)) | (focus ((with_reducible refine Box4.set ?_ _ ?_); rotate_left; omega)) | (focus ((with_reducible apply HasBox.of); with_reducible assumption)) | (focus ((with_reducible refine HasBox.new ?_); simp; done)) | (with_reducible refine HasBox.set ?_ _ _) | (with_reducible refine HasBox.drew ?_) | (with_reducible refine HasBox.alloc ?_ _) | (with_reducible refine Box.call ?_ hb5) | (with_reducible refine Box4.call ?_ hb5) | (with_reducible refine HasBox.call ?_ hb5) | (with_reducible refine Box.call ?_ hb4) | (with_reducible refine Box4.call ?_ hb4) | (with_reducible refine HasBox.call ?_ hb4))); done)) | go_keep)
    (first
      | (go_at_call 50; ((with_reducible refine (C3.out _).mono ?_); rintro e w4 ⟨fa, fb, rfl, hf, hb4⟩))
      | (go_at_call 51; ((with_reducible refine (C4.out _ _ _ _ _ hf hu).mono ?_); rintro e w5 ⟨ra, rb, rfl, hr, hb5⟩; have R5 := (R2.call hb4).call hb5; obtain ⟨⟨t0, t1⟩, t2, t3⟩ := id R5)))
  all_goals
    go_wp2_with fail
    refine bodyPost_ret (v := .tuple #[.agg #[.int .i64 ra, .int .u64 rb], .bool true]) (by simp only [results, Try.results23]; go_simp) rfl ⟨_, _, rfl, hr, ?_⟩
    (repeat (first | (with_reducible exact Below.refl _ _) | with_reducible assumption | (with_reducible refine below_alloc ?_ _) | (focus ((with_reducible refine below_set ?_ _ _ _ ?_); rotate_left; omega)) | (with_reducible refine Below.drew ?_) | (with_reducible refine below_call ?_ hb5) | (with_reducible refine below_call ?_ hb4)))
theorem Snap_yes (ha la n h' l' d : Int) (k : Nat) (w : World) (H : IsW ha la n) (H' : IsW h' l' d) (hd : 0 < d) (k1 : k ≤ 100) : Calls Try.prog 23 #[.agg #[.int .i64 ha, .int .u64 la, .int .i64 h', .int .u64 l'], .int .i64 k] w (RWT (sna n d k) w) := by
  unfold sna
  rcases k with _ | k
  · rw [if_pos rfl]; exact Snap_zero ha la n h' l' d w H H' hd
  · rw [if_neg (by omega)]; exact Snap_pos ha la n h' l' d (k + 1) w H H' hd (by omega) k1
end Go.Proofs.Ytinjgiigmlikpaa
