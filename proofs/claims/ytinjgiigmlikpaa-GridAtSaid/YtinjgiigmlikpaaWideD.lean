/-
  Contracts of package wide: products and shifts of sizes. My own text.
-/
import Derived.Test.YtinjgiigmlikpaaWideC
import Derived.Test.YtinjgiigmlikpaaWideM
namespace Go.Proofs.Ytinjgiigmlikpaa
open Go.RowKit
set_option linter.unusedVariables false

def RMul (n : Int) (w : World) (e : Ending) (w' : World) : Prop := ∃ H L, e = .returned (.tuple #[.int .u64 H, .int .u64 L]) ∧ IsS H L n ∧ w = w'
theorem mul64_lt {x y : Nat} (hx : x < 18446744073709551616) (hy : y < 18446744073709551616) : x * y < 18446744073709551616 * 18446744073709551616 := Nat.mul_lt_mul'' hx hy
theorem mul64_any (x y : Int) (w : World) (hx : 0 ≤ x ∧ x < 18446744073709551616) (hy : 0 ≤ y ∧ y < 18446744073709551616) :
    Calls Try.prog 89 #[.int .u64 x, .int .u64 y] w (RMul (x * y) w) := by
  obtain ⟨X, rfl⟩ := Int.eq_ofNat_of_zero_le hx.1
  obtain ⟨Y, rfl⟩ := Int.eq_ofNat_of_zero_le hy.1
  refine (Try.bits_Mul64 X Y (by omega) (by omega) w).mono ?_
  rintro e w' ⟨rfl, rfl⟩
  have hl := mul64_lt (x := X) (y := Y) (by omega) (by omega)
  refine ⟨_, _, rfl, ?_, rfl⟩
  rw [show (X : Int) * (Y : Int) = ((X * Y : Nat) : Int) from (Int.natCast_mul X Y).symm]
  generalize X * Y = p at *
  unfold IsS
  omega
def fitS (n : Int) : Bool := decide (n < 340282366920938463463374607431768211456)
def RSF (n : Int) (w : World) (e : Ending) (w' : World) : Prop := ∃ H L, e = .returned (.tuple #[.agg #[.int .u64 H, .int .u64 L], .bool (fitS n)]) ∧ IsS H L (if fitS n then n else 0) ∧ Below w.heap.size w w'
theorem rsf_yes {n H L : Int} {w w' : World} (h : fitS n = true) (k : IsS H L n) (b : Below w.heap.size w w') : RSF n w (.returned (.tuple #[.agg #[.int .u64 H, .int .u64 L], .bool true])) w' := ⟨H, L, by rw [h], by rw [h]; exact k, b⟩
theorem rsf_no {n : Int} {w w' : World} (h : fitS n = false) (b : Below w.heap.size w w') : RSF n w (.returned (.tuple #[.agg #[.int .u64 0, .int .u64 0], .bool false])) w' := ⟨0, 0, by rw [h], by rw [h]; exact isS0, b⟩
theorem both_no {h1 l1 n h2 l2 m : Int} (H1 : IsS h1 l1 n) (H2 : IsS h2 l2 m) (k1 : h1 ≠ 0) (k2 : h2 ≠ 0) : fitS (n * m) = false := by
  obtain ⟨b1, b2, e1⟩ := H1
  obtain ⟨b3, b4, e2⟩ := H2
  have hn : 18446744073709551616 ≤ n := by omega
  have hm : 18446744073709551616 ≤ m := by omega
  have h := Int.mul_le_mul hn hm (by omega) (by omega)
  unfold fitS
  rw [decide_eq_false_iff_not]
  omega
set_option maxHeartbeats 400000 in
theorem mulSizes_both (h1 l1 n h2 l2 m : Int) (w : World) (H1 : IsS h1 l1 n) (H2 : IsS h2 l2 m) (k1 : h1 ≠ 0) (k2 : h2 ≠ 0) :
    Calls Try.prog 84 #[.agg #[.int .u64 h1, .int .u64 l1], .agg #[.int .u64 h2, .int .u64 l2]] w (RSF (n * m) w) := by
  have hn := Lib.hid (both_no H1 H2 k1 k2)
  have b1 : (h1 != 0) = true := by simpa using k1
  have b2 : (h2 != 0) = true := by simpa using k2
  clear k1 k2
  go_enter Try.func84, Try.ntmps84
  go_wp2
  refine bodyPost_ret (v := .tuple #[.agg #[.int .u64 0, .int .u64 0], .bool false]) (by simp only [results, Try.results84]; go_simp) rfl (rsf_no hn.out ?_)
  (repeat (first | (with_reducible exact Below.refl _ _) | with_reducible assumption | (with_reducible refine below_alloc ?_ _) | (focus ((with_reducible refine below_set ?_ _ _ _ ?_); rotate_left; omega)) | (with_reducible refine Below.drew ?_)))
theorem isS_zero {a b : Int} (h : IsS a b 0) : a = 0 ∧ b = 0 := by
  obtain ⟨b1, b2, e⟩ := h
  omega
theorem mulS_end {o u q hi lo p N : Int} (A : IsS o u q) (C : IsS hi lo p) (e : N = q * 18446744073709551616 + p) :
    (¬ o = 0 → fitS N = false) ∧ (o = 0 → ((hi + u) / 18446744073709551616 != 0) = true → fitS N = false) ∧
    (o = 0 → ((hi + u) / 18446744073709551616 != 0) = false → fitS N = true ∧ IsS ((hi + u) % 18446744073709551616) lo N) := by
  obtain ⟨a1, a2, rfl⟩ := A
  obtain ⟨b1, b2, rfl⟩ := C
  unfold fitS IsS
  simp only [bne_iff_ne, bne_eq_false_iff_eq, decide_eq_true_eq, decide_eq_false_iff_not]
  omega
theorem or0 (x : Int) (h : 0 ≤ x ∧ x < 18446744073709551616) : bits .or .u64 0 x = x ∧ bits .or .u64 x 0 = x := by
  obtain ⟨X, rfl⟩ := Int.eq_ofNat_of_zero_le h.1
  have h1 := bits_or_u64_nat 0 X (by omega) (by omega)
  have h2 := bits_or_u64_nat X 0 (by omega) (by omega)
  rw [Nat.zero_or] at h1
  rw [Nat.or_zero] at h2
  exact ⟨h1, h2⟩
set_option maxHeartbeats 400000 in
theorem mulSizes_left (l1 n h2 l2 m : Int) (w : World) (H1 : IsS 0 l1 n) (H2 : IsS h2 l2 m) :
    Calls Try.prog 84 #[.agg #[.int .u64 0, .int .u64 l1], .agg #[.int .u64 h2, .int .u64 l2]] w (RSF (n * m) w) := by
  have z1 := H1.1; have z2 := H1.2.1; have z3 := H2.1; have z4 := H2.2.1
  go_enter Try.func84, Try.ntmps84
  go_wp2_with fail
  refine (mul64_any _ _ _ z1 z4).mono ?_
  rintro e w1 ⟨oA, uA, rfl, hA, rfl⟩
  rw [Int.zero_mul] at hA
  obtain ⟨rfl, rfl⟩ := isS_zero hA
  clear hA
  go_wp2_with fail
  refine (mul64_any _ _ _ z2 z3).mono ?_
  rintro e w1 ⟨oB, uB, rfl, hB, rfl⟩
  go_wp2_with fail
  refine (mul64_any _ _ _ z2 z4).mono ?_
  rintro e w1 ⟨hi, lo, rfl, hC, rfl⟩
  have o1 := (or0 uB hB.2.1).1
  have e1 := fun w => add64_call hi uB 0 hC.1.1 hB.2.1.1 (by omega) (by omega) w
  rw [Int.add_zero] at e1
  have hend := mulS_end (N := n * m) hB hC (by
    rw [H1.2.2, H2.2.2, Int.zero_mul, Int.zero_add, Int.mul_add, ← Int.mul_assoc])
  obtain ⟨q1, q2, q3⟩ := hend
  have Q1 := Lib.hid q1; have Q2 := Lib.hid q2; have Q3 := Lib.hid q3
  clear q1 q2 q3 z1 z2 z3 z4
  go_wp2
  · refine bodyPost_ret (v := .tuple #[.agg #[.int .u64 0, .int .u64 0], .bool false]) (by simp only [results, Try.results84]; go_simp) rfl (rsf_no (Q1.out ‹_›) ?_)
    (repeat (first | (with_reducible exact Below.refl _ _) | with_reducible assumption | (with_reducible refine below_alloc ?_ _) | (focus ((with_reducible refine below_set ?_ _ _ _ ?_); rotate_left; omega)) | (with_reducible refine Below.drew ?_)))
  · refine bodyPost_ret (v := .tuple #[.agg #[.int .u64 0, .int .u64 0], .bool false]) (by simp only [results, Try.results84]; go_simp) rfl (rsf_no (Q2.out ‹_› ‹_›) ?_)
    (repeat (first | (with_reducible exact Below.refl _ _) | with_reducible assumption | (with_reducible refine below_alloc ?_ _) | (focus ((with_reducible refine below_set ?_ _ _ _ ?_); rotate_left; omega)) | (with_reducible refine Below.drew ?_)))
  · have hy := Q3.out ‹_› ‹_›
    refine bodyPost_ret (v := .tuple #[.agg #[.int .u64 ((hi + uB) % 18446744073709551616), .int .u64 lo], .bool true]) (by simp only [results, Try.results84]; go_simp) rfl (rsf_yes hy.1 hy.2 ?_)
    (repeat (first | (with_reducible exact Below.refl _ _) | with_reducible assumption | (with_reducible refine below_alloc ?_ _) | (focus ((with_reducible refine below_set ?_ _ _ _ ?_); rotate_left; omega)) | (with_reducible refine Below.drew ?_)))
set_option maxHeartbeats 400000 in
theorem mulSizes_right (h1 l1 n l2 m : Int) (w : World) (H1 : IsS h1 l1 n) (H2 : IsS 0 l2 m) (k : h1 ≠ 0) :
    Calls Try.prog 84 #[.agg #[.int .u64 h1, .int .u64 l1], .agg #[.int .u64 0, .int .u64 l2]] w (RSF (n * m) w) := by
  have z1 := H1.1; have z2 := H1.2.1; have z3 := H2.1; have z4 := H2.2.1
  have kb : (h1 != 0) = true := by simpa using k
  clear k
  go_enter Try.func84, Try.ntmps84
  go_wp2_with fail
  refine (mul64_any _ _ _ z1 z4).mono ?_
  rintro e w1 ⟨oA, uA, rfl, hA, rfl⟩
  go_wp2_with fail
  refine (mul64_any _ _ _ z2 z3).mono ?_
  rintro e w1 ⟨oB, uB, rfl, hB, rfl⟩
  rw [Int.mul_zero] at hB
  obtain ⟨rfl, rfl⟩ := isS_zero hB
  clear hB
  go_wp2_with fail
  refine (mul64_any _ _ _ z2 z4).mono ?_
  rintro e w1 ⟨hi, lo, rfl, hC, rfl⟩
  have o1 := (or0 uA hA.2.1).2
  have e1 := fun w => add64_call hi uA 0 hC.1.1 hA.2.1.1 (by omega) (by omega) w
  rw [Int.add_zero] at e1
  have hend := mulS_end (N := n * m) hA hC (by
    rw [H1.2.2, H2.2.2, Int.zero_mul, Int.zero_add, Int.add_mul, Int.mul_right_comm])
  obtain ⟨q1, q2, q3⟩ := hend
  have Q1 := Lib.hid q1; have Q2 := Lib.hid q2; have Q3 := Lib.hid q3
  clear q1 q2 q3 z1 z2 z3 z4
  go_wp2
  · refine bodyPost_ret (v := .tuple #[.agg #[.int .u64 0, .int .u64 0], .bool false]) (by simp only [results, Try.results84]; go_simp) rfl (rsf_no (Q1.out ‹_›) ?_)
    (repeat (first | (with_reducible exact Below.refl _ _) | with_reducible assumption | (with_reducible refine below_alloc ?_ _) | (focus ((with_reducible refine below_set ?_ _ _ _ ?_); rotate_left; omega)) | (with_reducible refine Below.drew ?_)))
  · refine bodyPost_ret (v := .tuple #[.agg #[.int .u64 0, .int .u64 0], .bool false]) (by simp only [results, Try.results84]; go_simp) rfl (rsf_no (Q2.out ‹_› ‹_›) ?_)
    (repeat (first | (with_reducible exact Below.refl _ _) | with_reducible assumption | (with_reducible refine below_alloc ?_ _) | (focus ((with_reducible refine below_set ?_ _ _ _ ?_); rotate_left; omega)) | (with_reducible refine Below.drew ?_)))
  · have hy := Q3.out ‹_› ‹_›
    refine bodyPost_ret (v := .tuple #[.agg #[.int .u64 ((hi + uA) % 18446744073709551616), .int .u64 lo], .bool true]) (by simp only [results, Try.results84]; go_simp) rfl (rsf_yes hy.1 hy.2 ?_)
    (repeat (first | (with_reducible exact Below.refl _ _) | with_reducible assumption | (with_reducible refine below_alloc ?_ _) | (focus ((with_reducible refine below_set ?_ _ _ _ ?_); rotate_left; omega)) | (with_reducible refine Below.drew ?_)))
theorem mulSizes_any (h1 l1 n h2 l2 m : Int) (w : World) (H1 : IsS h1 l1 n) (H2 : IsS h2 l2 m) :
    Calls Try.prog 84 #[.agg #[.int .u64 h1, .int .u64 l1], .agg #[.int .u64 h2, .int .u64 l2]] w (RSF (n * m) w) := by
  by_cases k1 : h1 = 0
  · subst k1; exact mulSizes_left l1 n h2 l2 m w H1 H2
  · by_cases k2 : h2 = 0
    · subst k2; exact mulSizes_right h1 l1 n l2 m w H1 H2 k1
    · exact mulSizes_both h1 l1 n h2 l2 m w H1 H2 k1 k2
def RLen (n : Int) (w : World) (e : Ending) (w' : World) : Prop := ∃ k : Nat, e = .returned (.int .i64 k) ∧ IsLen n.toNat k ∧ Below w.heap.size w w'
theorem bitLen64 (h : Int) (b : 0 ≤ h ∧ h < 18446744073709551616) : Lib.bitLen h.toNat ≤ 64 := Lib.bitLen_le _ 64 (Nat.le_refl _) (by rw [two64]; omega)
set_option maxHeartbeats 400000 in
theorem lenSize_any (h1 l1 n : Int) (w : World) (H1 : IsS h1 l1 n) :
    Calls Try.prog 56 #[.agg #[.int .u64 h1, .int .u64 l1]] w (RLen n w) := by
  obtain ⟨b1, b2, e⟩ := H1
  have q1 := bitLen64 h1 b1
  by_cases k : h1 = 0
  · subst k
    have hl : Hid (IsLen n.toNat (Lib.bitLen l1.toNat)) := by
      rw [e, show (0 * 18446744073709551616 + l1).toNat = l1.toNat by omega]
      exact len_lo _ (by omega)
    clear e
    go_enter Try.func56, Try.ntmps56
    go_wp2_with (go_at_call 75; refine (Try.bits_Len64 _ _ (by omega) (by omega)).mono ?_; rintro e w' ⟨rfl, rfl⟩)
    go_ret
    exact ⟨_, rfl, hl.out, by (repeat (first | (with_reducible exact Below.refl _ _) | with_reducible assumption | (with_reducible refine below_alloc ?_ _) | (focus ((with_reducible refine below_set ?_ _ _ _ ?_); rotate_left; omega)) | (with_reducible refine Below.drew ?_)))⟩
  · have hl : Hid (IsLen n.toNat (64 + Lib.bitLen h1.toNat)) := by
      rw [e, show (h1 * 18446744073709551616 + l1).toNat = h1.toNat * 18446744073709551616 + l1.toNat by omega]
      exact (len_hi _ _ (by omega) (by omega) (by omega)).1
    have kb : (h1 != 0) = true := by simpa using k
    clear e k
    go_enter Try.func56, Try.ntmps56
    go_wp2_with (go_at_call 75; refine (Try.bits_Len64 _ _ (by omega) (by omega)).mono ?_; rintro e w' ⟨rfl, rfl⟩)
    go_ret
    exact ⟨_, by simp, hl.out, by (repeat (first | (with_reducible exact Below.refl _ _) | with_reducible assumption | (with_reducible refine below_alloc ?_ _) | (focus ((with_reducible refine below_set ?_ _ _ _ ?_); rotate_left; omega)) | (with_reducible refine Below.drew ?_)))⟩
set_option maxHeartbeats 400000 in
theorem shlSize_hi (h1 l1 n k : Int) (w : World) (H1 : IsS h1 l1 n) (k0 : 64 ≤ k) (k1 : k < 128) (hb : n * 2 ^ k.toNat < 340282366920938463463374607431768211456) :
    Calls Try.prog 58 #[.agg #[.int .u64 h1, .int .u64 l1], .int .u64 k] w (RS (n * 2 ^ k.toNat) w) := by
  obtain ⟨b1, b2, e⟩ := H1
  rw [e] at hb ⊢
  have HV := Lib.hid (shl_hi_val h1 l1 k b1.1 b2.1 k0 hb)
  clear e hb b1 b2
  go_enter Try.func58, Try.ntmps58
  go_wp2
  refine bodyPost_ret (v := .agg #[.int .u64 (IntKind.u64.wrap (l1 * 2 ^ (k - 64).toNat)), .int .u64 0]) (by simp only [results, Try.results58]; go_simp) rfl ⟨_, _, rfl, ⟨HV.out.1, by omega, HV.out.2⟩, ?_⟩
  (repeat (first | (with_reducible exact Below.refl _ _) | with_reducible assumption | (with_reducible refine below_alloc ?_ _) | (focus ((with_reducible refine below_set ?_ _ _ _ ?_); rotate_left; omega)) | (with_reducible refine Below.drew ?_)))
set_option maxHeartbeats 400000 in
theorem shlSize_lo (h1 l1 n k : Int) (w : World) (H1 : IsS h1 l1 n) (k0 : 0 ≤ k) (k1 : k < 64) (hb : n * 2 ^ k.toNat < 340282366920938463463374607431768211456) :
    Calls Try.prog 58 #[.agg #[.int .u64 h1, .int .u64 l1], .int .u64 k] w (RS (n * 2 ^ k.toNat) w) := by
  obtain ⟨b1, b2, e⟩ := H1
  rw [e] at hb ⊢
  obtain ⟨H, hv1, hv2, hv3⟩ := shl_lo_val h1 l1 k b1.1 b2 ⟨k0, k1⟩ hb
  have HV1 := Lib.hid hv1
  have HV3 := Lib.hid hv3
  clear e hb b1 b2 hv1 hv3
  go_enter Try.func58, Try.ntmps58
  go_wp2
  refine bodyPost_ret (v := .agg #[.int .u64 (bits BinOp.or IntKind.u64 (IntKind.u64.wrap (h1 * 2 ^ k.toNat)) (l1 / 2 ^ (64 - k).toNat)), .int .u64 (IntKind.u64.wrap (l1 * 2 ^ k.toNat))]) (by simp only [results, Try.results58]; go_simp) rfl ⟨_, _, rfl, ?_, ?_⟩
  · rw [HV1.out]
    exact ⟨hv2, u64_range _, HV3.out⟩
  · (repeat (first | (with_reducible exact Below.refl _ _) | with_reducible assumption | (with_reducible refine below_alloc ?_ _) | (focus ((with_reducible refine below_set ?_ _ _ _ ?_); rotate_left; omega)) | (with_reducible refine Below.drew ?_)))
theorem shlSize_any (h1 l1 n k : Int) (w : World) (H1 : IsS h1 l1 n) (k0 : 0 ≤ k) (k1 : k < 128) (hb : n * 2 ^ k.toNat < 340282366920938463463374607431768211456) :
    Calls Try.prog 58 #[.agg #[.int .u64 h1, .int .u64 l1], .int .u64 k] w (RS (n * 2 ^ k.toNat) w) := by
  by_cases h : k < 64
  · exact shlSize_lo h1 l1 n k w H1 k0 h hb
  · exact shlSize_hi h1 l1 n k w H1 (by omega) k1 hb
end Go.Proofs.Ytinjgiigmlikpaa
