/-
  Contracts of package grid: nearestRung, Snap, side, notTooFar. My own text.
  Contracts of package grid: Sides, Of, snapNear, At. My own text.
  Contracts of package grid: snapNear, At. My own text.
-/
import Derived.Test.YtfcehanpmbeegaaDivD
import Derived.Test.YtfcehanpmbeegaaFracA
namespace Go.Proofs.Ytfcehanpmbeegaa
open Go.RowKit
set_option linter.unusedVariables false

/-- r is the rung nearest to k. -/
def IsR (k : Int) (r : Nat) : Prop := r ≤ 28 ∧ ((k < 0 ∧ r = 0) ∨ (28 < k ∧ r = 28) ∨ (r : Int) = k)
theorem isR_ex (k : Int) : ∃ r, IsR k r := by
  by_cases h : k < 0
  · exact ⟨0, by omega, .inl ⟨h, rfl⟩⟩
  · by_cases h' : 28 < k
    · exact ⟨28, by omega, .inr (.inl ⟨h', rfl⟩)⟩
    · exact ⟨k.toNat, by omega, .inr (.inr (by omega))⟩
theorem isR_min {k : Int} {r : Nat} (h : IsR k r) : (if (if k < 0 then 0 else k) ≤ 28 then (if k < 0 then 0 else k) else 28) = (r : Int) := by
  obtain ⟨h0, h1⟩ := h
  repeat' split
  all_goals omega
theorem isR_nat {r : Nat} (h : r ≤ 28) : IsR r r := ⟨h, .inr (.inr rfl)⟩
theorem rv_int {a b : Int} {w w' : World} (e : a = b) (h : Below w.heap.size w w') : RV (.int .i64 b) w (.returned (.int .i64 a)) w' := ⟨by rw [e], h⟩
theorem rv_bool {a b : Bool} {w w' : World} (e : a = b) (h : Below w.heap.size w w') : RV (.bool b) w (.returned (.bool a)) w' := ⟨by rw [e], h⟩
set_option maxHeartbeats 400000 in
theorem nearestRung_any (k : Int) (r : Nat) (w : World) (h : IsR k r) : Calls Try.prog 59 #[.int .i64 k] w (RV (.int .i64 r) w) := by
  have HI := Lib.hid h
  clear h
  go_enter Try.func59, Try.ntmps59
  go_wp2
  all_goals
    go_ret
    refine rv_int ?_ (Below.refl _ _)
    have h1 := HI.out
    unfold IsR at h1
    omega
theorem wrap64_mid (n : Int) (h : -9223372036854775808 ≤ n ∧ n ≤ 9223372036854775807) : wrap64 n = n := by unfold wrap64; omega
theorem pow28 {r : Nat} (h : r ≤ 28) : (1 : Int) ≤ 2 ^ r ∧ (2 : Int) ^ r ≤ 268435456 := by
  have h1 := Nat.pow_le_pow_right (show 0 < 2 by decide) h
  have h2 := Nat.pow_pos (show 0 < 2 by decide) (n := r)
  have e : ((2 : Int) ^ r) = ((2 ^ r : Nat) : Int) := by simp
  rw [show (2 : Nat) ^ 28 = 268435456 by decide] at h1
  rw [e]
  omega
/-- the number of the pixels in which places with x v are. -/
def gsn (v : Int) (r : Nat) : Int := (2 * v + 2 ^ r) / (2 * 2 ^ r)
theorem gsn_zero (v : Int) : gsn v 0 = v := by unfold gsn; omega
theorem gsn_succ (v : Int) (r : Nat) : gsn v (r + 1) = v / 2 ^ (r + 1) + v / 2 ^ r % 2 := by
  unfold gsn
  have hp : (0 : Int) < 2 ^ r := Int.pow_pos (by decide)
  rw [Int.pow_succ]
  generalize (2 : Int) ^ r = P at *
  have e1 : (2 * v + P * 2) / (2 * (P * 2)) = (v + P) / (P * 2) := by
    rw [show 2 * v + P * 2 = 2 * (v + P) by omega, Int.mul_ediv_mul_of_pos _ _ (by decide)]
  rw [e1, ← Int.ediv_ediv_of_nonneg (by omega), ← Int.ediv_ediv_of_nonneg (by omega), show v + P = v + 1 * P by omega, Int.add_mul_ediv_right _ _ (by omega)]
  omega
theorem and1 (x : Int) : bits BinOp.and IntKind.i64 x 1 = x % 2 := by
  unfold bits
  have h : (BitVec.ofInt 64 x &&& BitVec.ofInt 64 1).toNat = (x % 2).toNat := by
    rw [BitVec.toNat_and, BitVec.toNat_ofInt, BitVec.toNat_ofInt, show ((1 : Int) % ((2 ^ 64 : Nat) : Int)).toNat = 1 by decide, Nat.and_one_is_mod]
    omega
  show IntKind.i64.wrap ((BitVec.ofInt 64 x &&& BitVec.ofInt 64 1).toNat : Int) = x % 2
  rw [h]
  have h2 : ((x % 2).toNat : Int) = x % 2 := by omega
  rw [h2]
  rcases (show x % 2 = 0 ∨ x % 2 = 1 by omega) with e | e <;> rw [e] <;> decide
theorem snap_in {v : Int} (r : Nat) (v0 : -9223372036854775808 ≤ v) (v1 : v < 9223372036854775808) : wrap64 (v / 2 ^ (r + 1) + v / 2 ^ r % 2) = gsn v (r + 1) := by
  rw [gsn_succ]
  refine wrap64_mid _ ?_
  have hp : (0 : Int) < 2 ^ r := Int.pow_pos (by decide)
  rw [Int.pow_succ, ← Int.ediv_ediv_of_nonneg (by omega)]
  have h1 : -9223372036854775808 ≤ v / 2 ^ r := by
    rw [Int.le_ediv_iff_mul_le hp]
    have := Int.mul_le_mul_of_nonneg_left (show (1 : Int) ≤ 2 ^ r by omega) (show (0 : Int) ≤ 9223372036854775808 by omega)
    omega
  have h2 : v / 2 ^ r ≤ 9223372036854775807 := by
    by_cases h : 0 ≤ v
    · have := Int.ediv_le_self (2 ^ r) h
      omega
    · have := Int.ediv_neg_of_neg_of_pos (show v < 0 by omega) hp
      omega
  generalize v / 2 ^ r = q at *
  omega
set_option maxHeartbeats 400000 in
theorem gSnap_zero (v k : Int) (w : World) (h : IsR k 0) : Calls Try.prog 42 #[.int .i64 v, .int .i64 k] w (RV (.int .i64 v) w) := by
  have HI := Lib.hid (fun w => nearestRung_any k 0 w h)
  clear h
  go_enter Try.func42, Try.ntmps42
  go_wp2_with (go_at_call 59; ((with_reducible refine (HI.out _).mono ?_); rintro e w1 ⟨rfl, hb⟩))
  go_ret
  exact rv_int rfl (by (repeat (first | (with_reducible exact Below.refl _ _) | with_reducible assumption | (with_reducible refine below_alloc ?_ _) | (focus ((with_reducible refine below_set ?_ _ _ _ ?_); rotate_left; omega)) | (with_reducible refine Below.drew ?_) | (with_reducible refine below_call ?_ hb))))
set_option maxHeartbeats 400000 in
theorem gSnap_pos (v k : Int) (r : Nat) (w : World) (h : IsR k (r + 1)) (v0 : -9223372036854775808 ≤ v) (v1 : v < 9223372036854775808) : Calls Try.prog 42 #[.int .i64 v, .int .i64 k] w (RV (.int .i64 (gsn v (r + 1))) w) := by
  have HI := Lib.hid (fun w => nearestRung_any k (r + 1) w h)
  have HS := Lib.hid (snap_in r v0 v1)
  have hr : r < 28 := by unfold IsR at h; omega
  clear h v0 v1
  go_enter Try.func42, Try.ntmps42
  go_wp2_with (go_at_call 59; ((with_reducible refine (HI.out _).mono ?_); rintro e w1 ⟨rfl, hb⟩))
  go_region
  go_wp2
  go_ret
  exact rv_int (by rw [and1]; exact HS.out) (by (repeat (first | (with_reducible exact Below.refl _ _) | with_reducible assumption | (with_reducible refine below_alloc ?_ _) | (focus ((with_reducible refine below_set ?_ _ _ _ ?_); rotate_left; omega)) | (with_reducible refine Below.drew ?_) | (with_reducible refine below_call ?_ hb))))
theorem gSnap_any (v k : Int) (r : Nat) (w : World) (h : IsR k r) (v0 : -9223372036854775808 ≤ v) (v1 : v < 9223372036854775808) : Calls Try.prog 42 #[.int .i64 v, .int .i64 k] w (RV (.int .i64 (gsn v r)) w) := by
  rcases r with _ | r
  · rw [gsn_zero]; exact gSnap_zero v k w h
  · exact gSnap_pos v k r w h v0 v1
theorem wrap_pow {r : Nat} (h : r ≤ 28) : wrap64 (2 ^ r) = 2 ^ r := wrap64_mid _ (by have := pow28 h; omega)
set_option maxHeartbeats 400000 in
theorem side_any (k : Int) (r : Nat) (w : World) (h : IsR k r) : Calls Try.prog 44 #[.int .i64 k] w (RV (.int .i64 (2 ^ r)) w) := by
  have HI := Lib.hid (fun w => nearestRung_any k r w h)
  have hr : r ≤ 28 := h.1
  clear h
  go_enter Try.func44, Try.ntmps44
  go_wp2_with (go_at_call 59; ((with_reducible refine (HI.out _).mono ?_); rintro e w1 ⟨rfl, hb⟩))
  go_ret
  exact rv_int (wrap_pow hr) (by (repeat (first | (with_reducible exact Below.refl _ _) | with_reducible assumption | (with_reducible refine below_alloc ?_ _) | (focus ((with_reducible refine below_set ?_ _ _ _ ?_); rotate_left; omega)) | (with_reducible refine Below.drew ?_) | (with_reducible refine below_call ?_ hb))))
/-- a closure over the bound m comes back. -/
def RC (m : Int) (w : World) (e : Ending) (w' : World) : Prop := ∃ b, e = .returned (.func (Fn.func 60) #[] #[.pointer (some ⟨b, 0, none⟩)]) ∧ w'.cell? ⟨b, 0, none⟩ = some (.int .i64 m) ∧ Below w.heap.size w w'
set_option maxHeartbeats 400000 in
theorem notTooFar_any (k : Int) (r : Nat) (w : World) (h : IsR k r) : Calls Try.prog 45 #[.int .i64 k] w (RC (134217728 / 2 ^ r) w) := by
  have HI := Lib.hid (fun w => nearestRung_any k r w h)
  have hr : r ≤ 28 := h.1
  clear h
  go_enter Try.func45, Try.ntmps45
  go_wp2_with (go_at_call 59; ((with_reducible refine (HI.out _).mono ?_); rintro e w1 ⟨rfl, hb⟩))
  go_ret
  exact ⟨_, rfl, by go_simp, by (repeat (first | (with_reducible exact Below.refl _ _) | with_reducible assumption | (with_reducible refine below_alloc ?_ _) | (focus ((with_reducible refine below_set ?_ _ _ _ ?_); rotate_left; omega)) | (with_reducible refine Below.drew ?_) | (with_reducible refine below_call ?_ hb)))⟩
/-- is n from -m to m? -/
def wi (m n : Int) : Bool := decide (-m ≤ n) && decide (n ≤ m)
set_option maxHeartbeats 400000 in
theorem near_any (b : Nat) (m n : Int) (w : World) (hc : w.cell? ⟨b, 0, none⟩ = some (.int .i64 m)) (m0 : 0 ≤ m) (m1 : m ≤ 134217728) : Calls Try.prog 60 #[.int .i64 n, .pointer (some ⟨b, 0, none⟩)] w (RV (.bool (wi m n)) w) := by
  go_enter Try.func60, Try.ntmps60
  go_wp2
  · go_ret
    exact rv_bool (by unfold wi; rw [decide_eq_true (show -m ≤ n by assumption)]; rfl) (Below.refl _ _)
  · go_ret
    exact rv_bool (by unfold wi; rw [decide_eq_false (show ¬ (-m ≤ n) by omega)]; rfl) (Below.refl _ _)
/-- is the center of the pixel (x, y) not too far? -/
def inB (r : Nat) (x y : Int) : Bool := wi (134217728 / 2 ^ r) x && wi (134217728 / 2 ^ r) y
theorem far_bd (r : Nat) : (0 : Int) ≤ 134217728 / 2 ^ r ∧ (134217728 : Int) / 2 ^ r ≤ 134217728 := by
  have hp : (0 : Int) < 2 ^ r := Int.pow_pos (by decide)
  exact ⟨Int.ediv_nonneg (by decide) (by omega), Int.ediv_le_self _ (by decide)⟩
theorem wi_mul (r : Nat) (n : Int) : wi (134217728 / 2 ^ r) n = decide (-134217728 ≤ 2 ^ r * n ∧ 2 ^ r * n ≤ 134217728) := by
  have hp : (0 : Int) < 2 ^ r := Int.pow_pos (by decide)
  unfold wi
  rw [Bool.eq_iff_iff, Bool.and_eq_true, decide_eq_true_eq, decide_eq_true_eq, decide_eq_true_eq, Int.mul_comm]
  generalize (2 : Int) ^ r = P at *
  have h1 := Int.le_ediv_iff_mul_le (a := n) (b := 134217728) hp
  have h2 := Int.le_ediv_iff_mul_le (a := -n) (b := 134217728) hp
  rw [Int.neg_mul] at h2
  constructor
  · intro ⟨q1, q2⟩
    exact ⟨by have := h2.1 (by omega); omega, h1.1 q2⟩
  · intro ⟨q1, q2⟩
    exact ⟨by have := h2.2 (by omega); omega, h1.2 q2⟩
theorem inB_mul (r : Nat) (x y : Int) : inB r x y = true ↔ (-134217728 ≤ 2 ^ r * x ∧ 2 ^ r * x ≤ 134217728) ∧ (-134217728 ≤ 2 ^ r * y ∧ 2 ^ r * y ≤ 134217728) := by
  unfold inB
  rw [wi_mul, wi_mul, Bool.and_eq_true, decide_eq_true_eq, decide_eq_true_eq]
set_option maxHeartbeats 400000 in
theorem In_any (x y k : Int) (r : Nat) (w : World) (h : IsR k r) : Calls Try.prog 22 #[.agg #[.int .i64 x, .int .i64 y], .int .i64 k] w (RV (.bool (inB r x y)) w) := by
  have HI := Lib.hid (fun w => notTooFar_any k r w h)
  obtain ⟨m0, m1⟩ := far_bd r
  have HU := Lib.hid (show inB r x y = (wi (134217728 / 2 ^ r) x && wi (134217728 / 2 ^ r) y) from rfl)
  clear h
  generalize (134217728 : Int) / 2 ^ r = M at *
  have HX := Lib.hid m0
  have HY := Lib.hid m1
  clear m0 m1
  go_enter Try.func22, Try.ntmps22
  go_wp2_with (first
    | (go_at_call 45; ((with_reducible refine (HI.out _).mono ?_); rintro e w1 ⟨b, rfl, hc, hb⟩; have B_w1_0 : Box w1 (w.heap.size) (.int .i64 x) (.int .i64 y) := (by (repeat (first | with_reducible assumption | (focus ((with_reducible refine Box.new ?_); simp; done)) | (with_reducible refine Box.alloc ?_ _) | (with_reducible refine Box.drew ?_) | (with_reducible refine Box.put ?_) | (focus ((with_reducible refine Box.set ?_ _ ?_); rotate_left; omega)) | (focus ((with_reducible apply HasBox.of); with_reducible assumption)) | (focus ((with_reducible refine HasBox.new ?_); simp; done)) | (with_reducible refine HasBox.set ?_ _ _) | (with_reducible refine HasBox.drew ?_) | (with_reducible refine HasBox.alloc ?_ _) | (with_reducible refine Box.call ?_ hb) | (with_reducible refine HasBox.call ?_ hb)))); obtain ⟨⟨c_w1_0, d_w1_0⟩, f_w1_0, g_w1_0⟩ := id B_w1_0))
    | (go_at_call 60; ((with_reducible refine (near_any b M x _ hc HX.out HY.out).mono ?_); rintro e w2 ⟨rfl, hb2⟩; have hc2 := (hb2.cell (p := ⟨b, 0, none⟩) (World.block_lt_of_cell? _ _ hc)).trans hc; clear hc; have B_w2_0 : Box w2 (w.heap.size) (.int .i64 x) (.int .i64 y) := (by (repeat (first | with_reducible assumption | (focus ((with_reducible refine Box.new ?_); simp; done)) | (with_reducible refine Box.alloc ?_ _) | (with_reducible refine Box.drew ?_) | (with_reducible refine Box.put ?_) | (focus ((with_reducible refine Box.set ?_ _ ?_); rotate_left; omega)) | (focus ((with_reducible apply HasBox.of); with_reducible assumption)) | (focus ((with_reducible refine HasBox.new ?_); simp; done)) | (with_reducible refine HasBox.set ?_ _ _) | (with_reducible refine HasBox.drew ?_) | (with_reducible refine HasBox.alloc ?_ _) | (with_reducible refine Box.call ?_ hb2) | (with_reducible refine HasBox.call ?_ hb2)))); obtain ⟨⟨c_w2_0, d_w2_0⟩, f_w2_0, g_w2_0⟩ := id B_w2_0))
    | (go_at_call 60; ((with_reducible refine (near_any b M y _ hc2 HX.out HY.out).mono ?_); rintro e w3 ⟨rfl, hb3⟩)))
  · go_ret
    exact rv_bool (by rw [HU.out]; simp_all) (by (repeat (first | (with_reducible exact Below.refl _ _) | with_reducible assumption | (with_reducible refine below_alloc ?_ _) | (focus ((with_reducible refine below_set ?_ _ _ _ ?_); rotate_left; omega)) | (with_reducible refine Below.drew ?_) | (with_reducible refine below_call ?_ hb3) | (with_reducible refine below_call ?_ hb2) | (with_reducible refine below_call ?_ hb))))
  · go_ret
    exact rv_bool (by rw [HU.out]; simp_all) (by (repeat (first | (with_reducible exact Below.refl _ _) | with_reducible assumption | (with_reducible refine below_alloc ?_ _) | (focus ((with_reducible refine below_set ?_ _ _ _ ?_); rotate_left; omega)) | (with_reducible refine Below.drew ?_) | (with_reducible refine below_call ?_ hb2) | (with_reducible refine below_call ?_ hb))))
set_option maxHeartbeats 400000 in
theorem Center_no (x y k : Int) (r : Nat) (w : World) (h : IsR k r) (hn : inB r x y = false) : Calls Try.prog 43 #[.agg #[.int .i64 x, .int .i64 y], .int .i64 k] w (RV (.agg #[.int .i64 0, .int .i64 0]) w) := by
  have HI : Hid (∀ w, Calls Try.prog 22 #[.agg #[.int .i64 x, .int .i64 y], .int .i64 k] w (RV (.bool false) w)) := fun w => by have := In_any x y k r w h; rw [hn] at this; exact this
  clear h hn
  go_enter Try.func43, Try.ntmps43
  go_wp2_with (first
    | (go_at_call 22; ((with_reducible refine (HI.out _).mono ?_); rintro e w1 ⟨rfl, hb⟩; have B_w1_0 : Box w1 (w.heap.size + 1) (.int .i64 0) (.int .i64 0) := (by (repeat (first | with_reducible assumption | (focus ((with_reducible refine Box.new ?_); simp; done)) | (with_reducible refine Box.alloc ?_ _) | (with_reducible refine Box.drew ?_) | (with_reducible refine Box.put ?_) | (focus ((with_reducible refine Box.set ?_ _ ?_); rotate_left; omega)) | (focus ((with_reducible apply HasBox.of); with_reducible assumption)) | (focus ((with_reducible refine HasBox.new ?_); simp; done)) | (with_reducible refine HasBox.set ?_ _ _) | (with_reducible refine HasBox.drew ?_) | (with_reducible refine HasBox.alloc ?_ _) | (with_reducible refine Box.call ?_ hb) | (with_reducible refine HasBox.call ?_ hb)))); obtain ⟨⟨c_w1_0, d_w1_0⟩, f_w1_0, g_w1_0⟩ := id B_w1_0)))
  refine bodyPost_ret (v := .agg #[.int .i64 0, .int .i64 0]) (by simp only [results, Try.results43]; go_simp) rfl ⟨rfl, ?_⟩
  (repeat (first | (with_reducible exact Below.refl _ _) | with_reducible assumption | (with_reducible refine below_alloc ?_ _) | (focus ((with_reducible refine below_set ?_ _ _ _ ?_); rotate_left; omega)) | (with_reducible refine Below.drew ?_) | (with_reducible refine below_call ?_ hb)))
theorem center_wrap {r : Nat} {x y : Int} (h : inB r x y = true) : wrap64 (2 ^ r * x) = 2 ^ r * x ∧ wrap64 (2 ^ r * y) = 2 ^ r * y := by
  have h1 := (inB_mul r x y).1 h
  exact ⟨wrap64_mid _ (by omega), wrap64_mid _ (by omega)⟩
theorem rv_two {a b c d : Int} {w w' : World} (e1 : a = c) (e2 : b = d) (h : Below w.heap.size w w') : RV (.agg #[.int .i64 c, .int .i64 d]) w (.returned (.agg #[.int .i64 a, .int .i64 b])) w' := ⟨by rw [e1, e2], h⟩
set_option maxHeartbeats 400000 in
theorem Center_yes (x y k : Int) (r : Nat) (w : World) (h : IsR k r) (hn : inB r x y = true) : Calls Try.prog 43 #[.agg #[.int .i64 x, .int .i64 y], .int .i64 k] w (RV (.agg #[.int .i64 (2 ^ r * x), .int .i64 (2 ^ r * y)]) w) := by
  have HI : Hid (∀ w, Calls Try.prog 22 #[.agg #[.int .i64 x, .int .i64 y], .int .i64 k] w (RV (.bool true) w)) := fun w => by have := In_any x y k r w h; rw [hn] at this; exact this
  have HS := Lib.hid (fun w => side_any k r w h)
  have HC := Lib.hid (center_wrap hn)
  clear h hn
  generalize hP : (2 : Int) ^ r = P at *
  clear hP
  go_enter Try.func43, Try.ntmps43
  go_wp2_with (first
    | (go_at_call 22; ((with_reducible refine (HI.out _).mono ?_); rintro e w1 ⟨rfl, hb⟩; have B_w1_0 : Box w1 (w.heap.size + 1) (.int .i64 0) (.int .i64 0) := (by (repeat (first | with_reducible assumption | (focus ((with_reducible refine Box.new ?_); simp; done)) | (with_reducible refine Box.alloc ?_ _) | (with_reducible refine Box.drew ?_) | (with_reducible refine Box.put ?_) | (focus ((with_reducible refine Box.set ?_ _ ?_); rotate_left; omega)) | (focus ((with_reducible apply HasBox.of); with_reducible assumption)) | (focus ((with_reducible refine HasBox.new ?_); simp; done)) | (with_reducible refine HasBox.set ?_ _ _) | (with_reducible refine HasBox.drew ?_) | (with_reducible refine HasBox.alloc ?_ _) | (with_reducible refine Box.call ?_ hb) | (with_reducible refine HasBox.call ?_ hb)))); obtain ⟨⟨c_w1_0, d_w1_0⟩, f_w1_0, g_w1_0⟩ := id B_w1_0; have B_w1_1 : Box w1 (w.heap.size) (.int .i64 x) (.int .i64 y) := (by (repeat (first | with_reducible assumption | (focus ((with_reducible refine Box.new ?_); simp; done)) | (with_reducible refine Box.alloc ?_ _) | (with_reducible refine Box.drew ?_) | (with_reducible refine Box.put ?_) | (focus ((with_reducible refine Box.set ?_ _ ?_); rotate_left; omega)) | (focus ((with_reducible apply HasBox.of); with_reducible assumption)) | (focus ((with_reducible refine HasBox.new ?_); simp; done)) | (with_reducible refine HasBox.set ?_ _ _) | (with_reducible refine HasBox.drew ?_) | (with_reducible refine HasBox.alloc ?_ _) | (with_reducible refine Box.call ?_ hb) | (with_reducible refine HasBox.call ?_ hb)))); obtain ⟨⟨c_w1_1, d_w1_1⟩, f_w1_1, g_w1_1⟩ := id B_w1_1))
    | (go_at_call 44; ((with_reducible refine (HS.out _).mono ?_); rintro e w2 ⟨rfl, hb2⟩; have B_w2_0 : Box w2 (w.heap.size + 1) (.int .i64 0) (.int .i64 0) := (by (repeat (first | with_reducible assumption | (focus ((with_reducible refine Box.new ?_); simp; done)) | (with_reducible refine Box.alloc ?_ _) | (with_reducible refine Box.drew ?_) | (with_reducible refine Box.put ?_) | (focus ((with_reducible refine Box.set ?_ _ ?_); rotate_left; omega)) | (focus ((with_reducible apply HasBox.of); with_reducible assumption)) | (focus ((with_reducible refine HasBox.new ?_); simp; done)) | (with_reducible refine HasBox.set ?_ _ _) | (with_reducible refine HasBox.drew ?_) | (with_reducible refine HasBox.alloc ?_ _) | (with_reducible refine Box.call ?_ hb2) | (with_reducible refine HasBox.call ?_ hb2)))); obtain ⟨⟨c_w2_0, d_w2_0⟩, f_w2_0, g_w2_0⟩ := id B_w2_0; have B_w2_1 : Box w2 (w.heap.size) (.int .i64 x) (.int .i64 y) := (by (repeat (first | with_reducible assumption | (focus ((with_reducible refine Box.new ?_); simp; done)) | (with_reducible refine Box.alloc ?_ _) | (with_reducible refine Box.drew ?_) | (with_reducible refine Box.put ?_) | (focus ((with_reducible refine Box.set ?_ _ ?_); rotate_left; omega)) | (focus ((with_reducible apply HasBox.of); with_reducible assumption)) | (focus ((with_reducible refine HasBox.new ?_); simp; done)) | (with_reducible refine HasBox.set ?_ _ _) | (with_reducible refine HasBox.drew ?_) | (with_reducible refine HasBox.alloc ?_ _) | (with_reducible refine Box.call ?_ hb2) | (with_reducible refine HasBox.call ?_ hb2)))); obtain ⟨⟨c_w2_1, d_w2_1⟩, f_w2_1, g_w2_1⟩ := id B_w2_1)))
  refine bodyPost_ret (v := .agg #[.int .i64 (wrap64 (P * x)), .int .i64 (wrap64 (P * y))]) (by simp only [results, Try.results43]; go_simp) rfl (rv_two HC.out.1 HC.out.2 ?_)
  (repeat (first | (with_reducible exact Below.refl _ _) | with_reducible assumption | (with_reducible refine below_alloc ?_ _) | (focus ((with_reducible refine below_set ?_ _ _ _ ?_); rotate_left; omega)) | (with_reducible refine Below.drew ?_) | (with_reducible refine below_call ?_ hb2) | (with_reducible refine below_call ?_ hb)))
set_option maxHeartbeats 400000 in
theorem gRight_any (k : Int) (w : World) : Calls Try.prog 39 #[.int .i64 k] w (RV (.bool (decide (0 ≤ k) && decide (k ≤ 28))) w) := by
  go_enter Try.func39, Try.ntmps39
  go_wp2
  · go_ret
    exact rv_bool (by rw [decide_eq_true (show 0 ≤ k by assumption)]; rfl) (Below.refl _ _)
  · go_ret
    exact rv_bool (by rw [decide_eq_false (show ¬ (0 ≤ k) by omega)]; rfl) (Below.refl _ _)
set_option maxHeartbeats 400000 in
theorem Compare_any (n m : Int) (w : World) : Calls Try.prog 63 #[.int .i64 n, .int .i64 m] w (RV (.int .i64 (icmp n m)) w) := by
  go_enter Try.func63, Try.ntmps63
  go_wp2
  all_goals
    go_ret
    refine rv_int ?_ (Below.refl _ _)
    unfold icmp
    repeat' split
    all_goals omega
/-- how two pixels compare. -/
def pcmp (x y x' y' : Int) : Int := if x = x' then icmp y y' else icmp x x'
end Go.Proofs.Ytfcehanpmbeegaa
namespace Go.Proofs.Ytfcehanpmbeegaa
open Go.RowKit
set_option linter.unusedVariables false
set_option linter.unusedSimpArgs false
attribute [local go_sem ↓] Go.wp_at_zero Go.wp_at_succ

/-- two pairs come back. -/
def RP (a b c d : Int) (w : World) (e : Ending) (w' : World) : Prop := e = .returned (.tuple #[.agg #[.int .i64 a, .int .i64 b], .agg #[.int .i64 c, .int .i64 d]]) ∧ Below w.heap.size w w'
set_option maxHeartbeats 400000 in
theorem Sides_no (x y k : Int) (r : Nat) (w : World) (h : IsR k r) (hn : inB r x y = false) : Calls Try.prog 21 #[.agg #[.int .i64 x, .int .i64 y], .int .i64 k] w (RP 0 0 0 0 w) := by
  have HI : Hid (∀ w, Calls Try.prog 22 #[.agg #[.int .i64 x, .int .i64 y], .int .i64 k] w (RV (.bool false) w)) := fun w => by have := In_any x y k r w h; rw [hn] at this; exact this
  clear h hn
  go_enter Try.func21, Try.ntmps21
  go_wp2_with (first
    | (go_at_call 22; ((with_reducible refine (HI.out _).mono ?_); rintro e w1 ⟨rfl, hb⟩; have B_w1_0 : Box w1 (w.heap.size + 1) (.int .i64 0) (.int .i64 0) := (by (repeat (first | with_reducible assumption | (focus ((with_reducible refine Box.new ?_); simp; done)) | (with_reducible refine Box.alloc ?_ _) | (with_reducible refine Box.drew ?_) | (with_reducible refine Box.put ?_) | (focus ((with_reducible refine Box.set ?_ _ ?_); rotate_left; omega)) | (focus ((with_reducible apply HasBox.of); with_reducible assumption)) | (focus ((with_reducible refine HasBox.new ?_); simp; done)) | (with_reducible refine HasBox.set ?_ _ _) | (with_reducible refine HasBox.drew ?_) | (with_reducible refine HasBox.alloc ?_ _) | (with_reducible refine Box.call ?_ hb) | (with_reducible refine HasBox.call ?_ hb)))); obtain ⟨⟨c_w1_0, d_w1_0⟩, f_w1_0, g_w1_0⟩ := id B_w1_0; have B_w1_1 : Box w1 (w.heap.size + 1 + 1) (.int .i64 0) (.int .i64 0) := (by (repeat (first | with_reducible assumption | (focus ((with_reducible refine Box.new ?_); simp; done)) | (with_reducible refine Box.alloc ?_ _) | (with_reducible refine Box.drew ?_) | (with_reducible refine Box.put ?_) | (focus ((with_reducible refine Box.set ?_ _ ?_); rotate_left; omega)) | (focus ((with_reducible apply HasBox.of); with_reducible assumption)) | (focus ((with_reducible refine HasBox.new ?_); simp; done)) | (with_reducible refine HasBox.set ?_ _ _) | (with_reducible refine HasBox.drew ?_) | (with_reducible refine HasBox.alloc ?_ _) | (with_reducible refine Box.call ?_ hb) | (with_reducible refine HasBox.call ?_ hb)))); obtain ⟨⟨c_w1_1, d_w1_1⟩, f_w1_1, g_w1_1⟩ := id B_w1_1)))
  refine bodyPost_ret (v := .tuple #[.agg #[.int .i64 0, .int .i64 0], .agg #[.int .i64 0, .int .i64 0]]) (by simp only [results, Try.results21]; go_simp) rfl ⟨rfl, ?_⟩
  (repeat (first | (with_reducible exact Below.refl _ _) | with_reducible assumption | (with_reducible refine below_alloc ?_ _) | (focus ((with_reducible refine below_set ?_ _ _ _ ?_); rotate_left; omega)) | (with_reducible refine Below.drew ?_) | (with_reducible refine below_call ?_ hb)))
theorem sides_wrap {r : Nat} {x y : Int} (hr : r ≤ 28) (h : inB r x y = true) : (wrap64 (wrap64 (2 * (2 ^ r * x)) - 2 ^ r) = 2 * (2 ^ r * x) - 2 ^ r ∧ wrap64 (wrap64 (2 * (2 ^ r * y)) - 2 ^ r) = 2 * (2 ^ r * y) - 2 ^ r) ∧ wrap64 (wrap64 (2 * (2 ^ r * x)) + 2 ^ r) = 2 * (2 ^ r * x) + 2 ^ r ∧ wrap64 (wrap64 (2 * (2 ^ r * y)) + 2 ^ r) = 2 * (2 ^ r * y) + 2 ^ r := by
  have h1 := (inB_mul r x y).1 h
  have h2 := pow28 hr
  rw [wrap64_mid (2 * (2 ^ r * x)) (by omega), wrap64_mid (2 * (2 ^ r * y)) (by omega)]
  exact ⟨⟨wrap64_mid _ (by omega), wrap64_mid _ (by omega)⟩, wrap64_mid _ (by omega), wrap64_mid _ (by omega)⟩
theorem rp_of {a b c d a' b' c' d' : Int} {w w' : World} (h : (a = a' ∧ b = b') ∧ c = c' ∧ d = d') (hb : Below w.heap.size w w') : RP a' b' c' d' w (.returned (.tuple #[.agg #[.int .i64 a, .int .i64 b], .agg #[.int .i64 c, .int .i64 d]])) w' := by
  obtain ⟨⟨rfl, rfl⟩, rfl, rfl⟩ := h
  exact ⟨rfl, hb⟩
set_option maxHeartbeats 1000000 in
theorem Sides_yes (x y k : Int) (r : Nat) (w : World) (h : IsR k r) (hn : inB r x y = true) : Calls Try.prog 21 #[.agg #[.int .i64 x, .int .i64 y], .int .i64 k] w (RP (2 * (2 ^ r * x) - 2 ^ r) (2 * (2 ^ r * y) - 2 ^ r) (2 * (2 ^ r * x) + 2 ^ r) (2 * (2 ^ r * y) + 2 ^ r) w) := by
  have HI : Hid (∀ w, Calls Try.prog 22 #[.agg #[.int .i64 x, .int .i64 y], .int .i64 k] w (RV (.bool true) w)) := fun w => by have := In_any x y k r w h; rw [hn] at this; exact this
  have HS := Lib.hid (fun w => side_any k r w h)
  have HC := Lib.hid (fun w => Center_yes x y k r w h hn)
  have HW := Lib.hid (sides_wrap h.1 hn)
  clear h hn
  generalize (2 : Int) ^ r = P at *
  generalize P * x = X at *
  generalize P * y = Y at *
  go_enter Try.func21, Try.ntmps21
  go_wp2_with (first
    | (go_at_call 22; ((with_reducible refine (HI.out _).mono ?_); rintro e w1 ⟨rfl, hb⟩; have B_w1_0 : Box w1 (w.heap.size) (.int .i64 x) (.int .i64 y) := (by (repeat (first | with_reducible assumption | (focus ((with_reducible refine Box.new ?_); simp; done)) | (with_reducible refine Box.alloc ?_ _) | (with_reducible refine Box.drew ?_) | (with_reducible refine Box.put ?_) | (focus ((with_reducible refine Box.set ?_ _ ?_); rotate_left; omega)) | (focus ((with_reducible apply HasBox.of); with_reducible assumption)) | (focus ((with_reducible refine HasBox.new ?_); simp; done)) | (with_reducible refine HasBox.set ?_ _ _) | (with_reducible refine HasBox.drew ?_) | (with_reducible refine HasBox.alloc ?_ _) | (with_reducible refine Box.call ?_ hb) | (with_reducible refine HasBox.call ?_ hb)))); obtain ⟨⟨c_w1_0, d_w1_0⟩, f_w1_0, g_w1_0⟩ := id B_w1_0; have B_w1_1 : Box w1 (w.heap.size + 1) (.int .i64 0) (.int .i64 0) := (by (repeat (first | with_reducible assumption | (focus ((with_reducible refine Box.new ?_); simp; done)) | (with_reducible refine Box.alloc ?_ _) | (with_reducible refine Box.drew ?_) | (with_reducible refine Box.put ?_) | (focus ((with_reducible refine Box.set ?_ _ ?_); rotate_left; omega)) | (focus ((with_reducible apply HasBox.of); with_reducible assumption)) | (focus ((with_reducible refine HasBox.new ?_); simp; done)) | (with_reducible refine HasBox.set ?_ _ _) | (with_reducible refine HasBox.drew ?_) | (with_reducible refine HasBox.alloc ?_ _) | (with_reducible refine Box.call ?_ hb) | (with_reducible refine HasBox.call ?_ hb)))); obtain ⟨⟨c_w1_1, d_w1_1⟩, f_w1_1, g_w1_1⟩ := id B_w1_1; have B_w1_2 : Box w1 (w.heap.size + 1 + 1) (.int .i64 0) (.int .i64 0) := (by (repeat (first | with_reducible assumption | (focus ((with_reducible refine Box.new ?_); simp; done)) | (with_reducible refine Box.alloc ?_ _) | (with_reducible refine Box.drew ?_) | (with_reducible refine Box.put ?_) | (focus ((with_reducible refine Box.set ?_ _ ?_); rotate_left; omega)) | (focus ((with_reducible apply HasBox.of); with_reducible assumption)) | (focus ((with_reducible refine HasBox.new ?_); simp; done)) | (with_reducible refine HasBox.set ?_ _ _) | (with_reducible refine HasBox.drew ?_) | (with_reducible refine HasBox.alloc ?_ _) | (with_reducible refine Box.call ?_ hb) | (with_reducible refine HasBox.call ?_ hb)))); obtain ⟨⟨c_w1_2, d_w1_2⟩, f_w1_2, g_w1_2⟩ := id B_w1_2))
    | (go_at_call 43; ((with_reducible refine (HC.out _).mono ?_); rintro e w2 ⟨rfl, hb2⟩; have B_w2_0 : Box w2 (w.heap.size + 1) (.int .i64 0) (.int .i64 0) := (by (repeat (first | with_reducible assumption | (focus ((with_reducible refine Box.new ?_); simp; done)) | (with_reducible refine Box.alloc ?_ _) | (with_reducible refine Box.drew ?_) | (with_reducible refine Box.put ?_) | (focus ((with_reducible refine Box.set ?_ _ ?_); rotate_left; omega)) | (focus ((with_reducible apply HasBox.of); with_reducible assumption)) | (focus ((with_reducible refine HasBox.new ?_); simp; done)) | (with_reducible refine HasBox.set ?_ _ _) | (with_reducible refine HasBox.drew ?_) | (with_reducible refine HasBox.alloc ?_ _) | (with_reducible refine Box.call ?_ hb2) | (with_reducible refine HasBox.call ?_ hb2)))); obtain ⟨⟨c_w2_0, d_w2_0⟩, f_w2_0, g_w2_0⟩ := id B_w2_0; have B_w2_1 : Box w2 (w.heap.size + 1 + 1) (.int .i64 0) (.int .i64 0) := (by (repeat (first | with_reducible assumption | (focus ((with_reducible refine Box.new ?_); simp; done)) | (with_reducible refine Box.alloc ?_ _) | (with_reducible refine Box.drew ?_) | (with_reducible refine Box.put ?_) | (focus ((with_reducible refine Box.set ?_ _ ?_); rotate_left; omega)) | (focus ((with_reducible apply HasBox.of); with_reducible assumption)) | (focus ((with_reducible refine HasBox.new ?_); simp; done)) | (with_reducible refine HasBox.set ?_ _ _) | (with_reducible refine HasBox.drew ?_) | (with_reducible refine HasBox.alloc ?_ _) | (with_reducible refine Box.call ?_ hb2) | (with_reducible refine HasBox.call ?_ hb2)))); obtain ⟨⟨c_w2_1, d_w2_1⟩, f_w2_1, g_w2_1⟩ := id B_w2_1))
    | (go_at_call 44; ((with_reducible refine (HS.out _).mono ?_); rintro e w3 ⟨rfl, hb3⟩; have B_w3_0 : Box w3 (w.heap.size + 1) (.int .i64 0) (.int .i64 0) := (by (repeat (first | with_reducible assumption | (focus ((with_reducible refine Box.new ?_); simp; done)) | (with_reducible refine Box.alloc ?_ _) | (with_reducible refine Box.drew ?_) | (with_reducible refine Box.put ?_) | (focus ((with_reducible refine Box.set ?_ _ ?_); rotate_left; omega)) | (focus ((with_reducible apply HasBox.of); with_reducible assumption)) | (focus ((with_reducible refine HasBox.new ?_); simp; done)) | (with_reducible refine HasBox.set ?_ _ _) | (with_reducible refine HasBox.drew ?_) | (with_reducible refine HasBox.alloc ?_ _) | (with_reducible refine Box.call ?_ hb3) | (with_reducible refine HasBox.call ?_ hb3)))); obtain ⟨⟨c_w3_0, d_w3_0⟩, f_w3_0, g_w3_0⟩ := id B_w3_0; have B_w3_1 : Box w3 (w.heap.size + 1 + 1) (.int .i64 0) (.int .i64 0) := (by (repeat (first | with_reducible assumption | (focus ((with_reducible refine Box.new ?_); simp; done)) | (with_reducible refine Box.alloc ?_ _) | (with_reducible refine Box.drew ?_) | (with_reducible refine Box.put ?_) | (focus ((with_reducible refine Box.set ?_ _ ?_); rotate_left; omega)) | (focus ((with_reducible apply HasBox.of); with_reducible assumption)) | (focus ((with_reducible refine HasBox.new ?_); simp; done)) | (with_reducible refine HasBox.set ?_ _ _) | (with_reducible refine HasBox.drew ?_) | (with_reducible refine HasBox.alloc ?_ _) | (with_reducible refine Box.call ?_ hb3) | (with_reducible refine HasBox.call ?_ hb3)))); obtain ⟨⟨c_w3_1, d_w3_1⟩, f_w3_1, g_w3_1⟩ := id B_w3_1; have l1 := B_w3_1.lt; have l0 := B_w3_0.lt; have e1 : ¬ (w.heap.size + 1 = w3.heap.size) := (by omega); have e2 : ¬ (w3.heap.size = w.heap.size + 1) := (by omega); have e3 : ¬ (w.heap.size + 1 + 1 = w3.heap.size) := (by omega); have e4 : ¬ (w3.heap.size = w.heap.size + 1 + 1) := (by omega); clear B_w1_0 c_w1_0 d_w1_0 f_w1_0 g_w1_0 B_w1_1 c_w1_1 d_w1_1 f_w1_1 g_w1_1 B_w1_2 c_w1_2 d_w1_2 f_w1_2 g_w1_2 B_w2_0 c_w2_0 d_w2_0 f_w2_0 g_w2_0 B_w2_1 c_w2_1 d_w2_1 f_w2_1 g_w2_1)))
  go_region
  go_wp2
  refine bodyPost_ret (v := .tuple #[.agg #[.int .i64 (wrap64 (wrap64 (2 * X) - P)), .int .i64 (wrap64 (wrap64 (2 * Y) - P))], .agg #[.int .i64 (wrap64 (wrap64 (2 * X) + P)), .int .i64 (wrap64 (wrap64 (2 * Y) + P))]]) (by simp only [results, Try.results21]; go_simp) rfl (rp_of HW.out ?_)
  (repeat (first | (with_reducible exact Below.refl _ _) | with_reducible assumption | (with_reducible refine below_alloc ?_ _) | (focus ((with_reducible refine below_set ?_ _ _ _ ?_); rotate_left; omega)) | (with_reducible refine Below.drew ?_) | (with_reducible refine below_call ?_ hb3) | (with_reducible refine below_call ?_ hb2) | (with_reducible refine below_call ?_ hb)))
set_option maxHeartbeats 1000000 in
theorem gOf_any (x y k : Int) (r : Nat) (w : World) (h : IsR k r) (x0 : -9223372036854775808 ≤ x) (x1 : x < 9223372036854775808) (y0 : -9223372036854775808 ≤ y) (y1 : y < 9223372036854775808) : Calls Try.prog 20 #[.agg #[.int .i64 x, .int .i64 y], .int .i64 k] w (RV (.agg #[.int .i64 (gsn x r), .int .i64 (gsn y r)]) w) := by
  have S1 := Lib.hid (fun w => gSnap_any x k r w h x0 x1)
  have S2 := Lib.hid (fun w => gSnap_any y k r w h y0 y1)
  clear h x0 x1 y0 y1
  generalize gsn x r = X at *
  generalize gsn y r = Y at *
  go_enter Try.func20, Try.ntmps20
  go_wp2_with fail
  have Z0 : Box ((w.alloc (.cells #[.int .i64 x, .int .i64 y] 23)).alloc (.cells #[.int .i64 0, .int .i64 0] 30)).drew w.heap.size (.int .i64 x) (.int .i64 y) := (by (repeat (first | with_reducible assumption | (focus ((with_reducible refine Box.new ?_); simp; done)) | (focus ((with_reducible refine Box4.new ?_); simp; done)) | (with_reducible refine Box.alloc ?_ _) | (with_reducible refine Box4.alloc ?_ _) | (with_reducible refine Box.drew ?_) | (with_reducible refine Box4.drew ?_) | (with_reducible refine Box.put ?_) | (focus ((with_reducible refine Box.set ?_ _ ?_); rotate_left; omega)) | (focus ((with_reducible refine Box4.set ?_ _ ?_); rotate_left; omega)) | (focus ((with_reducible apply HasBox.of); with_reducible assumption)) | (focus ((with_reducible refine HasBox.new ?_); simp; done)) | (with_reducible refine HasBox.set ?_ _ _) | (with_reducible refine HasBox.drew ?_) | (with_reducible refine HasBox.alloc ?_ _))))
  have Z1 : Box ((w.alloc (.cells #[.int .i64 x, .int .i64 y] 23)).alloc (.cells #[.int .i64 0, .int .i64 0] 30)).drew (w.heap.size + 1) (.int .i64 0) (.int .i64 0) := (by (repeat (first | with_reducible assumption | (focus ((with_reducible refine Box.new ?_); simp; done)) | (focus ((with_reducible refine Box4.new ?_); simp; done)) | (with_reducible refine Box.alloc ?_ _) | (with_reducible refine Box4.alloc ?_ _) | (with_reducible refine Box.drew ?_) | (with_reducible refine Box4.drew ?_) | (with_reducible refine Box.put ?_) | (focus ((with_reducible refine Box.set ?_ _ ?_); rotate_left; omega)) | (focus ((with_reducible refine Box4.set ?_ _ ?_); rotate_left; omega)) | (focus ((with_reducible apply HasBox.of); with_reducible assumption)) | (focus ((with_reducible refine HasBox.new ?_); simp; done)) | (with_reducible refine HasBox.set ?_ _ _) | (with_reducible refine HasBox.drew ?_) | (with_reducible refine HasBox.alloc ?_ _))))
  go_region_held3 (fun w' => w'.cell? ⟨w.heap.size, 0, none⟩ = some (.int .i64 x) ∧ w'.cell? ⟨w.heap.size, 1, none⟩ = some (.int .i64 y)) (first | ((refine Box.both ?_); ((repeat (first | with_reducible assumption | (focus ((with_reducible refine Box.new ?_); simp; done)) | (focus ((with_reducible refine Box4.new ?_); simp; done)) | (with_reducible refine Box.alloc ?_ _) | (with_reducible refine Box4.alloc ?_ _) | (with_reducible refine Box.drew ?_) | (with_reducible refine Box4.drew ?_) | (with_reducible refine Box.put ?_) | (focus ((with_reducible refine Box.set ?_ _ ?_); rotate_left; omega)) | (focus ((with_reducible refine Box4.set ?_ _ ?_); rotate_left; omega)) | (focus ((with_reducible apply HasBox.of); with_reducible assumption)) | (focus ((with_reducible refine HasBox.new ?_); simp; done)) | (with_reducible refine HasBox.set ?_ _ _) | (with_reducible refine HasBox.drew ?_) | (with_reducible refine HasBox.alloc ?_ _) | (with_reducible refine Box.call ?_ hb2) | (with_reducible refine Box4.call ?_ hb2) | (with_reducible refine HasBox.call ?_ hb2) | (with_reducible refine Box.call ?_ hb1) | (with_reducible refine Box4.call ?_ hb1) | (with_reducible refine HasBox.call ?_ hb1))); done)) | go_keep)
    (first
      | (go_at_call 42; ((with_reducible refine (S1.out _).mono ?_); rintro e w1 ⟨rfl, hb1⟩))
      | (go_at_call 42; ((with_reducible refine (S2.out _).mono ?_); rintro e w2 ⟨rfl, hb2⟩; have U1 := (Z1.call hb1).call hb2; obtain ⟨⟨t0, t1⟩, t2, t3⟩ := id U1)))
  all_goals
    go_wp2_with fail
    refine bodyPost_ret (v := .agg #[.int .i64 X, .int .i64 Y]) (by simp only [results, Try.results20]; go_simp) rfl ⟨rfl, ?_⟩
    (repeat (first | (with_reducible exact Below.refl _ _) | with_reducible assumption | (with_reducible refine below_alloc ?_ _) | (focus ((with_reducible refine below_set ?_ _ _ _ ?_); rotate_left; omega)) | (with_reducible refine Below.drew ?_) | (with_reducible refine below_call ?_ hb2) | (with_reducible refine below_call ?_ hb1)))
end Go.Proofs.Ytfcehanpmbeegaa
namespace Go.Proofs.Ytfcehanpmbeegaa
open Go.RowKit
set_option linter.unusedVariables false
set_option linter.unusedSimpArgs false
attribute [local go_sem ↓] Go.wp_at_zero Go.wp_at_succ

/-- the Int z comes back, and s. -/
def RWB (s : Bool) (z : Int) (w : World) (e : Ending) (w' : World) : Prop := ∃ H L, e = .returned (.tuple #[.agg #[.int .i64 H, .int .u64 L], .bool s]) ∧ IsW H L z ∧ Below w.heap.size w w'
/-- a number comes back, and b. -/
def RT2 (v : Int) (b : Bool) (w : World) (e : Ending) (w' : World) : Prop := e = .returned (.tuple #[.int .i64 v, .bool b]) ∧ Below w.heap.size w w'
/-- behind the first statement: what was snapped, in a block of its own. -/
def SnC (w : World) (s : Bool) (z : Int) (u v : Value) (W : World) : Prop := ∃ g ga gb, u = .pointer (some ⟨g, 0, none⟩) ∧ v = .bool s ∧ IsW ga gb z ∧ Box W g (.int .i64 ga) (.int .u64 gb) ∧ Below w.heap.size w W
theorem wi_small {r : Nat} {z : Int} (h : wi (134217728 / 2 ^ r) z = true) : small z = true := by
  obtain ⟨m0, m1⟩ := far_bd r
  unfold wi at h
  rw [Bool.and_eq_true, decide_eq_true_eq, decide_eq_true_eq] at h
  unfold small
  rw [decide_eq_true_eq]
  omega
end Go.Proofs.Ytfcehanpmbeegaa
