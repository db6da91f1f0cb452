/-
  Contracts of package grid: nearestRung, Snap, side, notTooFar. My own text.
  Contracts of package grid: Sides, Of, snapNear, At. My own text.
  Contracts of package grid: snapNear, At. My own text.
-/
import Derived.Test.YtpopeipcjpfbaaaDivD
import Derived.Test.YtpopeipcjpfbaaaFracA
namespace Go.Proofs.Ytpopeipcjpfbaaa
open Go.RowKit
set_option linter.unusedVariables false

/-- r is the rung nearest to k. -/
def IsR (k : Int) (r : Nat) : Prop := r ≤ 28 ∧ ((k < 0 ∧ r = 0) ∨ (28 < k ∧ r = 28) ∨ (r : Int) = k)
theorem isR_ex (k : Int) : ∃ r, IsR k r := by
  by_cases h : k < 0
  · exact ⟨0, by omega, .inl ⟨h, rfl⟩⟩
  · by_cases h' : 28 < k
    · exact ⟨28, by omega, .inr (.inl ⟨h', rfl⟩)⟩
    · exact ⟨k.toNat, by omega, .inr (.inr (by omega))⟩
theorem isR_min {k : Int} {r : Nat} (h : IsR k r) : (if (if k < 0 then 0 else k) ≤ 28 then (if k < 0 then 0 else k) else 28) = (r : Int) := by
  obtain ⟨h0, h1⟩ := h
  repeat' split
  all_goals omega
theorem isR_nat {r : Nat} (h : r ≤ 28) : IsR r r := ⟨h, .inr (.inr rfl)⟩
theorem rv_int {a b : Int} {w w' : World} (e : a = b) (h : Below w.heap.size w w') : RV (.int .i64 b) w (.returned (.int .i64 a)) w' := ⟨by rw [e], h⟩
theorem rv_bool {a b : Bool} {w w' : World} (e : a = b) (h : Below w.heap.size w w') : RV (.bool b) w (.returned (.bool a)) w' := ⟨by rw [e], h⟩
theorem wrap64_mid (n : Int) (h : -9223372036854775808 ≤ n ∧ n ≤ 9223372036854775807) : wrap64 n = n := by unfold wrap64; omega
theorem pow28 {r : Nat} (h : r ≤ 28) : (1 : Int) ≤ 2 ^ r ∧ (2 : Int) ^ r ≤ 268435456 := by
  have h1 := Nat.pow_le_pow_right (show 0 < 2 by decide) h
  have h2 := Nat.pow_pos (show 0 < 2 by decide) (n := r)
  have e : ((2 : Int) ^ r) = ((2 ^ r : Nat) : Int) := by simp
  rw [show (2 : Nat) ^ 28 = 268435456 by decide] at h1
  rw [e]
  omega
/-- the number of the pixels in which places with x v are. -/
def gsn (v : Int) (r : Nat) : Int := (2 * v + 2 ^ r) / (2 * 2 ^ r)
theorem gsn_zero (v : Int) : gsn v 0 = v := by unfold gsn; omega
theorem gsn_succ (v : Int) (r : Nat) : gsn v (r + 1) = v / 2 ^ (r + 1) + v / 2 ^ r % 2 := by
  unfold gsn
  have hp : (0 : Int) < 2 ^ r := Int.pow_pos (by decide)
  rw [Int.pow_succ]
  generalize (2 : Int) ^ r = P at *
  have e1 : (2 * v + P * 2) / (2 * (P * 2)) = (v + P) / (P * 2) := by
    rw [show 2 * v + P * 2 = 2 * (v + P) by omega, Int.mul_ediv_mul_of_pos _ _ (by decide)]
  rw [e1, ← Int.ediv_ediv_of_nonneg (by omega), ← Int.ediv_ediv_of_nonneg (by omega), show v + P = v + 1 * P by omega, Int.add_mul_ediv_right _ _ (by omega)]
  omega
theorem and1 (x : Int) : bits BinOp.and IntKind.i64 x 1 = x % 2 := by
  unfold bits
  have h : (BitVec.ofInt 64 x &&& BitVec.ofInt 64 1).toNat = (x % 2).toNat := by
    rw [BitVec.toNat_and, BitVec.toNat_ofInt, BitVec.toNat_ofInt, show ((1 : Int) % ((2 ^ 64 : Nat) : Int)).toNat = 1 by decide, Nat.and_one_is_mod]
    omega
  show IntKind.i64.wrap ((BitVec.ofInt 64 x &&& BitVec.ofInt 64 1).toNat : Int) = x % 2
  rw [h]
  have h2 : ((x % 2).toNat : Int) = x % 2 := by omega
  rw [h2]
  rcases (show x % 2 = 0 ∨ x % 2 = 1 by omega) with e | e <;> rw [e] <;> decide
theorem snap_in {v : Int} (r : Nat) (v0 : -9223372036854775808 ≤ v) (v1 : v < 9223372036854775808) : wrap64 (v / 2 ^ (r + 1) + v / 2 ^ r % 2) = gsn v (r + 1) := by
  rw [gsn_succ]
  refine wrap64_mid _ ?_
  have hp : (0 : Int) < 2 ^ r := Int.pow_pos (by decide)
  rw [Int.pow_succ, ← Int.ediv_ediv_of_nonneg (by omega)]
  have h1 : -9223372036854775808 ≤ v / 2 ^ r := by
    rw [Int.le_ediv_iff_mul_le hp]
    have := Int.mul_le_mul_of_nonneg_left (show (1 : Int) ≤ 2 ^ r by omega) (show (0 : Int) ≤ 9223372036854775808 by omega)
    omega
  have h2 : v / 2 ^ r ≤ 9223372036854775807 := by
    by_cases h : 0 ≤ v
    · have := Int.ediv_le_self (2 ^ r) h
      omega
    · have := Int.ediv_neg_of_neg_of_pos (show v < 0 by omega) hp
      omega
  generalize v / 2 ^ r = q at *
  omega
theorem wrap_pow {r : Nat} (h : r ≤ 28) : wrap64 (2 ^ r) = 2 ^ r := wrap64_mid _ (by have := pow28 h; omega)
/-- is n from -m to m? -/
def wi (m n : Int) : Bool := decide (-m ≤ n) && decide (n ≤ m)
/-- is the center of the pixel (x, y) not too far? -/
def inB (r : Nat) (x y : Int) : Bool := wi (134217728 / 2 ^ r) x && wi (134217728 / 2 ^ r) y
theorem far_bd (r : Nat) : (0 : Int) ≤ 134217728 / 2 ^ r ∧ (134217728 : Int) / 2 ^ r ≤ 134217728 := by
  have hp : (0 : Int) < 2 ^ r := Int.pow_pos (by decide)
  exact ⟨Int.ediv_nonneg (by decide) (by omega), Int.ediv_le_self _ (by decide)⟩
theorem wi_mul (r : Nat) (n : Int) : wi (134217728 / 2 ^ r) n = decide (-134217728 ≤ 2 ^ r * n ∧ 2 ^ r * n ≤ 134217728) := by
  have hp : (0 : Int) < 2 ^ r := Int.pow_pos (by decide)
  unfold wi
  rw [Bool.eq_iff_iff, Bool.and_eq_true, decide_eq_true_eq, decide_eq_true_eq, decide_eq_true_eq, Int.mul_comm]
  generalize (2 : Int) ^ r = P at *
  have h1 := Int.le_ediv_iff_mul_le (a := n) (b := 134217728) hp
  have h2 := Int.le_ediv_iff_mul_le (a := -n) (b := 134217728) hp
  rw [Int.neg_mul] at h2
  constructor
  · intro ⟨q1, q2⟩
    exact ⟨by have := h2.1 (by omega); omega, h1.1 q2⟩
  · intro ⟨q1, q2⟩
    exact ⟨by have := h2.2 (by omega); omega, h1.2 q2⟩
theorem inB_mul (r : Nat) (x y : Int) : inB r x y = true ↔ (-134217728 ≤ 2 ^ r * x ∧ 2 ^ r * x ≤ 134217728) ∧ (-134217728 ≤ 2 ^ r * y ∧ 2 ^ r * y ≤ 134217728) := by
  unfold inB
  rw [wi_mul, wi_mul, Bool.and_eq_true, decide_eq_true_eq, decide_eq_true_eq]
theorem center_wrap {r : Nat} {x y : Int} (h : inB r x y = true) : wrap64 (2 ^ r * x) = 2 ^ r * x ∧ wrap64 (2 ^ r * y) = 2 ^ r * y := by
  have h1 := (inB_mul r x y).1 h
  exact ⟨wrap64_mid _ (by omega), wrap64_mid _ (by omega)⟩
theorem rv_two {a b c d : Int} {w w' : World} (e1 : a = c) (e2 : b = d) (h : Below w.heap.size w w') : RV (.agg #[.int .i64 c, .int .i64 d]) w (.returned (.agg #[.int .i64 a, .int .i64 b])) w' := ⟨by rw [e1, e2], h⟩
set_option maxHeartbeats 400000 in
theorem Compare_any (n m : Int) (w : World) : Calls Try.prog 29 #[.int .i64 n, .int .i64 m] w (RV (.int .i64 (icmp n m)) w) := by
  go_enter Try.func29, Try.ntmps29
  go_wp2
  all_goals
    go_ret
    refine rv_int ?_ (Below.refl _ _)
    unfold icmp
    repeat' split
    all_goals omega
/-- how two pixels compare. -/
def pcmp (x y x' y' : Int) : Int := if x = x' then icmp y y' else icmp x x'
set_option maxHeartbeats 400000 in
theorem gCmp_any (x y x' y' : Int) (w : World) : Calls Try.prog 26 #[.agg #[.int .i64 x, .int .i64 y], .agg #[.int .i64 x', .int .i64 y']] w (RV (.int .i64 (pcmp x y x' y')) w) := by
  have C1 := Lib.hid (fun w => Compare_any x x' w)
  have C2 := Lib.hid (fun w => Compare_any y y' w)
  have U1 : Hid (x = x' → icmp y y' = pcmp x y x' y') := fun h => by unfold pcmp; rw [if_pos h]
  have U2 : Hid (¬ (x = x') → icmp x x' = pcmp x y x' y') := fun h => by unfold pcmp; rw [if_neg h]
  go_enter Try.func26, Try.ntmps26
  go_wp2_with (first
    | (go_at_call 29; ((with_reducible refine (C1.out _).mono ?_); rintro e w1 ⟨rfl, hb⟩))
    | (go_at_call 29; ((with_reducible refine (C2.out _).mono ?_); rintro e w1 ⟨rfl, hb⟩)))
  · go_ret
    exact rv_int (U2.out (by simpa using ‹(x != x') = true›)) (by (repeat (first | (with_reducible exact Below.refl _ _) | with_reducible assumption | (with_reducible refine below_alloc ?_ _) | (focus ((with_reducible refine below_set ?_ _ _ _ ?_); rotate_left; omega)) | (with_reducible refine Below.drew ?_) | (with_reducible refine below_call ?_ hb))))
  · go_ret
    exact rv_int (U1.out (by simpa using ‹(x != x') = false›)) (by (repeat (first | (with_reducible exact Below.refl _ _) | with_reducible assumption | (with_reducible refine below_alloc ?_ _) | (focus ((with_reducible refine below_set ?_ _ _ _ ?_); rotate_left; omega)) | (with_reducible refine Below.drew ?_) | (with_reducible refine below_call ?_ hb))))
end Go.Proofs.Ytpopeipcjpfbaaa
namespace Go.Proofs.Ytpopeipcjpfbaaa
open Go.RowKit
set_option linter.unusedVariables false
set_option linter.unusedSimpArgs false
attribute [local go_sem ↓] Go.wp_at_zero Go.wp_at_succ

/-- two pairs come back. -/
def RP (a b c d : Int) (w : World) (e : Ending) (w' : World) : Prop := e = .returned (.tuple #[.agg #[.int .i64 a, .int .i64 b], .agg #[.int .i64 c, .int .i64 d]]) ∧ Below w.heap.size w w'
theorem sides_wrap {r : Nat} {x y : Int} (hr : r ≤ 28) (h : inB r x y = true) : (wrap64 (wrap64 (2 * (2 ^ r * x)) - 2 ^ r) = 2 * (2 ^ r * x) - 2 ^ r ∧ wrap64 (wrap64 (2 * (2 ^ r * y)) - 2 ^ r) = 2 * (2 ^ r * y) - 2 ^ r) ∧ wrap64 (wrap64 (2 * (2 ^ r * x)) + 2 ^ r) = 2 * (2 ^ r * x) + 2 ^ r ∧ wrap64 (wrap64 (2 * (2 ^ r * y)) + 2 ^ r) = 2 * (2 ^ r * y) + 2 ^ r := by
  have h1 := (inB_mul r x y).1 h
  have h2 := pow28 hr
  rw [wrap64_mid (2 * (2 ^ r * x)) (by omega), wrap64_mid (2 * (2 ^ r * y)) (by omega)]
  exact ⟨⟨wrap64_mid _ (by omega), wrap64_mid _ (by omega)⟩, wrap64_mid _ (by omega), wrap64_mid _ (by omega)⟩
theorem rp_of {a b c d a' b' c' d' : Int} {w w' : World} (h : (a = a' ∧ b = b') ∧ c = c' ∧ d = d') (hb : Below w.heap.size w w') : RP a' b' c' d' w (.returned (.tuple #[.agg #[.int .i64 a, .int .i64 b], .agg #[.int .i64 c, .int .i64 d]])) w' := by
  obtain ⟨⟨rfl, rfl⟩, rfl, rfl⟩ := h
  exact ⟨rfl, hb⟩
end Go.Proofs.Ytpopeipcjpfbaaa
namespace Go.Proofs.Ytpopeipcjpfbaaa
open Go.RowKit
set_option linter.unusedVariables false
set_option linter.unusedSimpArgs false
attribute [local go_sem ↓] Go.wp_at_zero Go.wp_at_succ

/-- the Int z comes back, and s. -/
def RWB (s : Bool) (z : Int) (w : World) (e : Ending) (w' : World) : Prop := ∃ H L, e = .returned (.tuple #[.agg #[.int .i64 H, .int .u64 L], .bool s]) ∧ IsW H L z ∧ Below w.heap.size w w'
/-- a number comes back, and b. -/
def RT2 (v : Int) (b : Bool) (w : World) (e : Ending) (w' : World) : Prop := e = .returned (.tuple #[.int .i64 v, .bool b]) ∧ Below w.heap.size w w'
/-- behind the first statement: what was snapped, in a block of its own. -/
def SnC (w : World) (s : Bool) (z : Int) (u v : Value) (W : World) : Prop := ∃ g ga gb, u = .pointer (some ⟨g, 0, none⟩) ∧ v = .bool s ∧ IsW ga gb z ∧ Box W g (.int .i64 ga) (.int .u64 gb) ∧ Below w.heap.size w W
theorem wi_small {r : Nat} {z : Int} (h : wi (134217728 / 2 ^ r) z = true) : small z = true := by
  obtain ⟨m0, m1⟩ := far_bd r
  unfold wi at h
  rw [Bool.and_eq_true, decide_eq_true_eq, decide_eq_true_eq] at h
  unfold small
  rw [decide_eq_true_eq]
  omega
end Go.Proofs.Ytpopeipcjpfbaaa
