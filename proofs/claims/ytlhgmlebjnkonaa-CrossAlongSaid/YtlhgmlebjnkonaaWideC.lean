/-
  Contracts of package wide: sizes, that is, numbers of 128 bits without a sign. My own text.
  Plain arithmetic for numbers of 128 bits: shifts, lengths. My own text; no program is named.
  Contracts of package wide: products and shifts of sizes. My own text.
  Contracts of package wide: products, shifts. My own text.
  Contracts of package wide: products of small numbers, shifts. My own text.
  A step of a drawn region, taken by hand; Shl at every shift that is not below 0. My own text.
-/
import Derived.Test.YtlhgmlebjnkonaaWideA
import Derived.Test.YtlhgmlebjnkonaaShelf
import Derived.WalkKit
import Derived.Lib.ItoaNum
import Derived.Deep.RegionHeld3
import Derived.Deep.DeepCutAuto
namespace Go.Proofs.Ytlhgmlebjnkonaa
open Go.RowKit
set_option linter.unusedVariables false

theorem IsS.conv {H L n m : Int} (h : IsS H L n) (e : n = m) : IsS H L m := e ▸ h
theorem size_pos {h l n : Int} (H : IsW h l n) (k : 0 ≤ h) : IsS (IntKind.u64.wrap h) l n.natAbs := by
  obtain ⟨b1, b2, rfl⟩ := H
  unfold IsS
  rw [IntKind.wrap_u64]
  omega
theorem size_neg {h l n a b : Int} (H : IsW h l n) (K : IsW a b (wr (0 - n))) (k : h < 0) : IsS (IntKind.u64.wrap a) b n.natAbs := by
  obtain ⟨b1, b2, rfl⟩ := H
  obtain ⟨b3, b4, e⟩ := K
  unfold wr at e
  unfold IsS
  rw [IntKind.wrap_u64]
  omega
set_option maxHeartbeats 400000 in
theorem sizeOf_any (h1 l1 n : Int) (w : World) (H1 : IsW h1 l1 n) :
    Calls Try.prog 73 #[.agg #[.int .i64 h1, .int .u64 l1]] w (RS n.natAbs w) := by
  go_enter Try.func73, Try.ntmps73
  go_wp2_with (go_at_call 63; refine (minus_any _ _ _ _ _ _ _ isW0 H1).mono ?_; rintro e w1 ⟨Hs, Ls, rfl, hs, hb⟩; have c_hb_0_0 := Below.cell hb (p := ⟨w.heap.size, 0, none⟩) (by first | (simp; done) | (simp; omega)); have f_hb_0_0 := Below.frozen hb (p := ⟨w.heap.size, 0, none⟩) (by first | (simp; done) | (simp; omega)); have c_hb_0_1 := Below.cell hb (p := ⟨w.heap.size, 1, none⟩) (by first | (simp; done) | (simp; omega)); have f_hb_0_1 := Below.frozen hb (p := ⟨w.heap.size, 1, none⟩) (by first | (simp; done) | (simp; omega)); have c_hb_1_0 := Below.cell hb (p := ⟨w.heap.size + 1, 0, none⟩) (by first | (simp; done) | (simp; omega)); have f_hb_1_0 := Below.frozen hb (p := ⟨w.heap.size + 1, 0, none⟩) (by first | (simp; done) | (simp; omega)); have c_hb_1_1 := Below.cell hb (p := ⟨w.heap.size + 1, 1, none⟩) (by first | (simp; done) | (simp; omega)); have f_hb_1_1 := Below.frozen hb (p := ⟨w.heap.size + 1, 1, none⟩) (by first | (simp; done) | (simp; omega)); have hz_hb := Below.size hb; (try simp at hz_hb); have ne_hb_0 : ¬ w1.heap.size = w.heap.size := (by omega); have ne_hb_1 : ¬ w1.heap.size = w.heap.size + 1 := (by omega))
  · refine bodyPost_ret (v := .agg #[.int .u64 (IntKind.u64.wrap Hs), .int .u64 Ls]) (by simp only [results, Try.results73]; go_simp) rfl ⟨_, _, rfl, size_neg H1 hs ‹_›, ?_⟩
    (repeat (first | (with_reducible exact Below.refl _ _) | with_reducible assumption | (with_reducible refine below_alloc ?_ _) | (focus ((with_reducible refine below_set ?_ _ _ _ ?_); rotate_left; omega)) | (with_reducible refine Below.drew ?_) | (with_reducible refine below_call ?_ hb)))
  · refine bodyPost_ret (v := .agg #[.int .u64 (IntKind.u64.wrap h1), .int .u64 l1]) (by simp only [results, Try.results73]; go_simp) rfl ⟨_, _, rfl, size_pos H1 ‹_›, ?_⟩
    (repeat (first | (with_reducible exact Below.refl _ _) | with_reducible assumption | (with_reducible refine below_alloc ?_ _) | (focus ((with_reducible refine below_set ?_ _ _ _ ?_); rotate_left; omega)) | (with_reducible refine Below.drew ?_)))
theorem signed_in {h l n : Int} (H : IsS h l n) : IsW (wrap64 h) l (wr n) := by
  obtain ⟨b1, b2, rfl⟩ := H
  unfold IsW wr wrap64
  omega
theorem sgn_yes {h l n : Int} (H : IsS h l n) (k : eqW h l 0 0 = true ∨ 0 ≤ wrap64 h) : fits n = true ∧ IsW (wrap64 h) l n := by
  rw [H.eqW isS0, decide_eq_true_eq] at k
  obtain ⟨b1, b2, rfl⟩ := H
  unfold fits IsW wrap64 at *
  rw [decide_eq_true_eq]
  omega
theorem sgn_no {h l n : Int} (H : IsS h l n) (j : eqW h l 0 0 = false) (k : wrap64 h < 0) : fits n = false := by
  rw [H.eqW isS0, decide_eq_false_iff_not] at j
  obtain ⟨b1, b2, rfl⟩ := H
  unfold fits wrap64 at *
  rw [decide_eq_false_iff_not]
  omega
theorem sgm_yes {h l n a b : Int} (H : IsS h l n) (K : IsW a b (wr (0 - wr n))) (k : eqW h l 0 0 = true ∨ a < 0) : fits (-n) = true ∧ IsW a b (-n) := by
  rw [H.eqW isS0, decide_eq_true_eq] at k
  obtain ⟨b1, b2, rfl⟩ := H
  obtain ⟨b3, b4, e⟩ := K
  unfold wr at e
  unfold fits IsW
  rw [decide_eq_true_eq]
  omega
theorem sgm_no {h l n a b : Int} (H : IsS h l n) (K : IsW a b (wr (0 - wr n))) (j : eqW h l 0 0 = false) (k : 0 ≤ a) : fits (-n) = false := by
  rw [H.eqW isS0, decide_eq_false_iff_not] at j
  obtain ⟨b1, b2, rfl⟩ := H
  obtain ⟨b3, b4, e⟩ := K
  unfold wr at e
  unfold fits
  rw [decide_eq_false_iff_not]
  omega
set_option maxHeartbeats 400000 in
theorem signed_pos (h1 l1 n : Int) (w : World) (H1 : IsS h1 l1 n) :
    Calls Try.prog 74 #[.agg #[.int .u64 h1, .int .u64 l1], .bool false] w (RWF n w) := by
  go_enter Try.func74, Try.ntmps74
  go_wp2
  · refine bodyPost_ret (v := .tuple #[.agg #[.int .i64 0, .int .u64 0], .bool false]) (by simp only [results, Try.results74]; go_simp) rfl (rwf_no (sgn_no H1 ‹_› ‹_›) ?_)
    (repeat (first | (with_reducible exact Below.refl _ _) | with_reducible assumption | (with_reducible refine below_alloc ?_ _) | (focus ((with_reducible refine below_set ?_ _ _ _ ?_); rotate_left; omega)) | (with_reducible refine Below.drew ?_)))
  · have hy := sgn_yes H1 (.inr ‹_›)
    refine bodyPost_ret (v := .tuple #[.agg #[.int .i64 (wrap64 h1), .int .u64 l1], .bool true]) (by simp only [results, Try.results74]; go_simp) rfl (rwf_yes hy.1 hy.2 ?_)
    (repeat (first | (with_reducible exact Below.refl _ _) | with_reducible assumption | (with_reducible refine below_alloc ?_ _) | (focus ((with_reducible refine below_set ?_ _ _ _ ?_); rotate_left; omega)) | (with_reducible refine Below.drew ?_)))
  · have hy := sgn_yes H1 (.inl ‹_›)
    refine bodyPost_ret (v := .tuple #[.agg #[.int .i64 (wrap64 h1), .int .u64 l1], .bool true]) (by simp only [results, Try.results74]; go_simp) rfl (rwf_yes hy.1 hy.2 ?_)
    (repeat (first | (with_reducible exact Below.refl _ _) | with_reducible assumption | (with_reducible refine below_alloc ?_ _) | (focus ((with_reducible refine below_set ?_ _ _ _ ?_); rotate_left; omega)) | (with_reducible refine Below.drew ?_)))
set_option maxHeartbeats 400000 in
theorem signed_neg (h1 l1 n : Int) (w : World) (H1 : IsS h1 l1 n) :
    Calls Try.prog 74 #[.agg #[.int .u64 h1, .int .u64 l1], .bool true] w (RWF (-n) w) := by
  go_enter Try.func74, Try.ntmps74
  go_wp2_with (go_at_call 63; refine (minus_any _ _ _ _ _ _ _ isW0 (signed_in H1)).mono ?_; rintro e w1 ⟨Hs, Ls, rfl, hs, hb⟩; have c_hb_0_0 := Below.cell hb (p := ⟨w.heap.size, 0, none⟩) (by first | (simp; done) | (simp; omega)); have f_hb_0_0 := Below.frozen hb (p := ⟨w.heap.size, 0, none⟩) (by first | (simp; done) | (simp; omega)); have c_hb_0_1 := Below.cell hb (p := ⟨w.heap.size, 1, none⟩) (by first | (simp; done) | (simp; omega)); have f_hb_0_1 := Below.frozen hb (p := ⟨w.heap.size, 1, none⟩) (by first | (simp; done) | (simp; omega)); have c_hb_1_0 := Below.cell hb (p := ⟨w.heap.size + 1, 0, none⟩) (by first | (simp; done) | (simp; omega)); have f_hb_1_0 := Below.frozen hb (p := ⟨w.heap.size + 1, 0, none⟩) (by first | (simp; done) | (simp; omega)); have c_hb_1_1 := Below.cell hb (p := ⟨w.heap.size + 1, 1, none⟩) (by first | (simp; done) | (simp; omega)); have f_hb_1_1 := Below.frozen hb (p := ⟨w.heap.size + 1, 1, none⟩) (by first | (simp; done) | (simp; omega)); have hz_hb := Below.size hb; (try simp at hz_hb); have ne_hb_0 : ¬ w1.heap.size = w.heap.size := (by omega); have ne_hb_1 : ¬ w1.heap.size = w.heap.size + 1 := (by omega))
  · refine bodyPost_ret (v := .tuple #[.agg #[.int .i64 0, .int .u64 0], .bool false]) (by simp only [results, Try.results74]; go_simp) rfl (rwf_no (sgm_no H1 hs ‹_› (by have h := ‹(!decide (Hs < 0)) = true›; simpa using h)) ?_)
    (repeat (first | (with_reducible exact Below.refl _ _) | with_reducible assumption | (with_reducible refine below_alloc ?_ _) | (focus ((with_reducible refine below_set ?_ _ _ _ ?_); rotate_left; omega)) | (with_reducible refine Below.drew ?_) | (with_reducible refine below_call ?_ hb)))
  · have hy := sgm_yes H1 hs (.inr (by have h := ‹(!decide (Hs < 0)) = false›; simpa using h))
    refine bodyPost_ret (v := .tuple #[.agg #[.int .i64 Hs, .int .u64 Ls], .bool true]) (by simp only [results, Try.results74]; go_simp) rfl (rwf_yes hy.1 hy.2 ?_)
    (repeat (first | (with_reducible exact Below.refl _ _) | with_reducible assumption | (with_reducible refine below_alloc ?_ _) | (focus ((with_reducible refine below_set ?_ _ _ _ ?_); rotate_left; omega)) | (with_reducible refine Below.drew ?_) | (with_reducible refine below_call ?_ hb)))
  · have hy := sgm_yes H1 hs (.inl ‹_›)
    refine bodyPost_ret (v := .tuple #[.agg #[.int .i64 Hs, .int .u64 Ls], .bool true]) (by simp only [results, Try.results74]; go_simp) rfl (rwf_yes hy.1 hy.2 ?_)
    (repeat (first | (with_reducible exact Below.refl _ _) | with_reducible assumption | (with_reducible refine below_alloc ?_ _) | (focus ((with_reducible refine below_set ?_ _ _ _ ?_); rotate_left; omega)) | (with_reducible refine Below.drew ?_) | (with_reducible refine below_call ?_ hb)))
theorem signed_any (h1 l1 n : Int) (b : Bool) (w : World) (H1 : IsS h1 l1 n) :
    Calls Try.prog 74 #[.agg #[.int .u64 h1, .int .u64 l1], .bool b] w (RWF (if b then -n else n) w) := by
  cases b
  · exact signed_pos h1 l1 n w H1
  · exact signed_neg h1 l1 n w H1
set_option maxHeartbeats 400000 in
theorem lessSize_any (h1 l1 n h2 l2 m : Int) (w : World) (H1 : IsS h1 l1 n) (H2 : IsS h2 l2 m) :
    Calls Try.prog 87 #[.agg #[.int .u64 h1, .int .u64 l1], .agg #[.int .u64 h2, .int .u64 l2]] w (RV (.bool (decide (n < m))) w) := by
  go_enter Try.func87, Try.ntmps87
  go_wp2
  all_goals
    go_ret
    refine ⟨ret_bool ?_, by (repeat (first | (with_reducible exact Below.refl _ _) | with_reducible assumption | (with_reducible refine below_alloc ?_ _) | (focus ((with_reducible refine below_set ?_ _ _ _ ?_); rotate_left; omega)) | (with_reducible refine Below.drew ?_)))⟩
    obtain ⟨b1, b2, e1⟩ := H1
    obtain ⟨b3, b4, e2⟩ := H2
    rw [Bool.eq_iff_iff]
    simp only [decide_eq_true_eq, true_iff, Bool.false_eq_true, false_iff]
    omega
theorem subS_val (h1 l1 h2 l2 : Int) (b1 : 0 ≤ h1 ∧ h1 < 18446744073709551616) (b2 : 0 ≤ l1 ∧ l1 < 18446744073709551616)
   (b3 : 0 ≤ h2 ∧ h2 < 18446744073709551616) (b4 : 0 ≤ l2 ∧ l2 < 18446744073709551616) (hle : h2 * 18446744073709551616 + l2 ≤ h1 * 18446744073709551616 + l1) :
   IsS ((h1 - h2 - -((l1 - l2 - 0) / 18446744073709551616)) % 18446744073709551616) ((l1 - l2 - 0) % 18446744073709551616) ((h1 * 18446744073709551616 + l1) - (h2 * 18446744073709551616 + l2)) := by
  unfold IsS
  omega
set_option maxHeartbeats 400000 in
theorem subSizes_any (h1 l1 n h2 l2 m : Int) (w : World) (H1 : IsS h1 l1 n) (H2 : IsS h2 l2 m) (hle : m ≤ n) :
    Calls Try.prog 86 #[.agg #[.int .u64 h1, .int .u64 l1], .agg #[.int .u64 h2, .int .u64 l2]] w (RS (n - m) w) := by
  obtain ⟨b1, b2, rfl⟩ := H1
  obtain ⟨b3, b4, rfl⟩ := H2
  have hv := subS_val h1 l1 h2 l2 b1 b2 b3 b4 hle
  have e1 := fun w => sub64_call l1 l2 0 b2.1 b2.2 b4.1 b4.2 (by omega) (by omega) w
  have e2 := fun w => sub64_call h1 h2 (-((l1 - l2 - 0) / 18446744073709551616)) b1.1 b1.2 b3.1 b3.2 (by omega) (by omega) w
  generalize -((l1 - l2 - 0) / 18446744073709551616) = c at *
  generalize (l1 - l2 - 0) % 18446744073709551616 = s at *
  generalize (h1 - h2 - c) % 18446744073709551616 = s' at *
  generalize -((h1 - h2 - c) / 18446744073709551616) = c' at *
  generalize (h1 * 18446744073709551616 + l1) - (h2 * 18446744073709551616 + l2) = nm at *
  clear b1 b2 b3 b4 hle
  go_enter Try.func86, Try.ntmps86
  go_wp2
  refine bodyPost_ret (v := .agg #[.int .u64 s', .int .u64 s]) (by simp only [results, Try.results86]; go_simp) rfl ⟨_, _, rfl, hv, ?_⟩
  (repeat (first | (with_reducible exact Below.refl _ _) | with_reducible assumption | (with_reducible refine below_alloc ?_ _) | (focus ((with_reducible refine below_set ?_ _ _ _ ?_); rotate_left; omega)) | (with_reducible refine Below.drew ?_)))
end Go.Proofs.Ytlhgmlebjnkonaa
namespace Go.Proofs.Ytlhgmlebjnkonaa
set_option linter.unusedVariables false

/-- how many bits n needs. -/
def IsLen (n len : Nat) : Prop := (n = 0 ∧ len = 0) ∨ (1 ≤ len ∧ len ≤ 128 ∧ 2 ^ (len - 1) ≤ n ∧ n < 2 ^ len)
theorem two64 : (2 : Nat) ^ 64 = 18446744073709551616 := by decide
theorem two128 : (2 : Nat) ^ 128 = 340282366920938463463374607431768211456 := by decide
theorem len_lo (l : Nat) (h : l < 18446744073709551616) : IsLen l (Lib.bitLen l) := by
  by_cases e : l = 0
  · subst e
    exact .inl ⟨rfl, Lib.bitLenAux_zero 64⟩
  · obtain ⟨a, b, c⟩ := Lib.bitLenAux_bounds 64 l (by rw [two64]; exact h) e
    have d : Lib.bitLen l ≤ 64 := Lib.bitLen_le l 64 (Nat.le_refl _) (by rw [two64]; exact h)
    exact .inr ⟨a, by omega, b, c⟩
theorem len_hi (h l : Nat) (h0 : h ≠ 0) (hh : h < 18446744073709551616) (hl : l < 18446744073709551616) : IsLen (h * 18446744073709551616 + l) (64 + Lib.bitLen h) ∧ Lib.bitLen h ≤ 64 := by
  obtain ⟨a, b, c⟩ := Lib.bitLenAux_bounds 64 h (by rw [two64]; exact hh) h0
  have d : Lib.bitLen h ≤ 64 := Lib.bitLen_le h 64 (Nat.le_refl _) (by rw [two64]; exact hh)
  have e : Lib.bitLenAux 64 h = Lib.bitLen h := rfl
  rw [e] at a b c
  refine ⟨.inr ⟨by omega, by omega, ?_, ?_⟩, d⟩
  · rw [show 64 + Lib.bitLen h - 1 = (Lib.bitLen h - 1) + 64 by omega, Nat.pow_add, two64]
    generalize 2 ^ (Lib.bitLen h - 1) = P at *
    omega
  · rw [show 64 + Lib.bitLen h = Lib.bitLen h + 64 by omega, Nat.pow_add, two64]
    generalize 2 ^ Lib.bitLen h = P at *
    omega
theorem len_le {n len : Nat} (h : IsLen n len) : len ≤ 128 := by rcases h with h | h <;> omega
/-- too long to be shifted so far. -/
theorem len_over {n len k : Nat} (h : IsLen n len) (h0 : n ≠ 0) (hk : 128 < k + len) : 340282366920938463463374607431768211456 ≤ n * 2 ^ k := by
  rcases h with h | ⟨a, b, c, d⟩
  · omega
  · have h1 := Nat.mul_le_mul_right (2 ^ k) c
    rw [← Nat.pow_add] at h1
    have h2 : 2 ^ 128 ≤ 2 ^ (len - 1 + k) := Nat.pow_le_pow_right (by decide) (by omega)
    rw [two128] at h2
    omega
theorem len_under {n len k : Nat} (h : IsLen n len) (hk : k + len ≤ 128) : n * 2 ^ k < 340282366920938463463374607431768211456 := by
  rcases h with ⟨rfl, rfl⟩ | ⟨a, b, c, d⟩
  · simp
  · have h1 := Nat.mul_lt_mul_of_pos_right d (Nat.two_pow_pos k)
    rw [← Nat.pow_add] at h1
    have h2 : 2 ^ (len + k) ≤ 2 ^ 128 := Nat.pow_le_pow_right (by decide) (by omega)
    rw [two128] at h2
    omega
/-- a size shifted by fewer than 64 bits, nothing going past the end: its halves. -/
theorem shl_lo_nat (h l k : Nat) (hl : l < 18446744073709551616) (hk : k < 64) (hb : (h * 18446744073709551616 + l) * 2 ^ k < 340282366920938463463374607431768211456) :
    h * 2 ^ k < 18446744073709551616 ∧ l / 2 ^ (64 - k) < 2 ^ k ∧ h * 2 ^ k + l / 2 ^ (64 - k) < 18446744073709551616 ∧
    (h * 18446744073709551616 + l) * 2 ^ k = (h * 2 ^ k + l / 2 ^ (64 - k)) * 18446744073709551616 + (l * 2 ^ k) % 18446744073709551616 := by
  have pq : 2 ^ k * 2 ^ (64 - k) = 18446744073709551616 := by rw [← Nat.pow_add, show k + (64 - k) = 64 by omega, two64]
  have pp : 0 < 2 ^ k := Nat.two_pow_pos k
  have qp : 0 < 2 ^ (64 - k) := Nat.two_pow_pos _
  generalize 2 ^ k = p at *
  generalize 2 ^ (64 - k) = q at *
  have hd : l / q < p := by rw [Nat.div_lt_iff_lt_mul qp, pq]; exact hl
  have e1 : l * p = 18446744073709551616 * (l / q) + p * (l % q) := by
    conv => lhs; rw [← Nat.div_add_mod l q]
    rw [Nat.add_mul, ← pq, Nat.mul_comm (l % q) p, Nat.mul_assoc p q, Nat.mul_comm (q * (l / q)) p]
  have e2 : p * (l % q) < 18446744073709551616 := by rw [← pq]; exact Nat.mul_lt_mul_of_pos_left (Nat.mod_lt _ qp) pp
  have e3 : (l * p) % 18446744073709551616 = p * (l % q) := by rw [e1, Nat.mul_add_mod, Nat.mod_eq_of_lt e2]
  have e4 : (h * 18446744073709551616 + l) * p = h * p * 18446744073709551616 + l * p := by rw [Nat.add_mul, Nat.mul_right_comm]
  rw [e4] at hb
  refine ⟨by omega, hd, by omega, ?_⟩
  rw [e4, e3, Nat.add_mul]
  omega
theorem or_nat (h l k : Nat) (h1 : h * 2 ^ k < 18446744073709551616) (h2 : l < 2 ^ k) (h3 : h * 2 ^ k + l < 18446744073709551616) :
    bits .or .u64 ((h * 2 ^ k : Nat) : Int) (l : Int) = ((h * 2 ^ k + l : Nat) : Int) := by
  rw [bits_or_u64_nat _ _ h1 (by omega), Nat.mul_comm h, ← Nat.two_pow_add_eq_or_of_lt h2]
/-- the same at numbers with signs, as the walk spells them. -/
theorem shl_lo_val (h l k : Int) (bh : 0 ≤ h) (bl : 0 ≤ l ∧ l < 18446744073709551616) (bk : 0 ≤ k ∧ k < 64) (hb : (h * 18446744073709551616 + l) * 2 ^ k.toNat < 340282366920938463463374607431768211456) :
    ∃ H, bits .or .u64 (IntKind.u64.wrap (h * 2 ^ k.toNat)) (l / 2 ^ (64 - k).toNat) = H ∧ (0 ≤ H ∧ H < 18446744073709551616) ∧ (h * 18446744073709551616 + l) * 2 ^ k.toNat = H * 18446744073709551616 + IntKind.u64.wrap (l * 2 ^ k.toNat) := by
  obtain ⟨a, rfl⟩ := Int.eq_ofNat_of_zero_le bh
  obtain ⟨b, rfl⟩ := Int.eq_ofNat_of_zero_le bl.1
  obtain ⟨c, rfl⟩ := Int.eq_ofNat_of_zero_le bk.1
  have bc : c < 64 := by omega
  rw [show (64 - (c : Int)).toNat = 64 - c by omega, Int.toNat_natCast] at *
  have hb' : (a * 18446744073709551616 + b) * 2 ^ c < 340282366920938463463374607431768211456 := by
    have e : ((a : Int) * 18446744073709551616 + b) * 2 ^ c = (((a * 18446744073709551616 + b) * 2 ^ c : Nat) : Int) := by simp
    rw [e] at hb
    omega
  obtain ⟨s1, s2, s3, s4⟩ := shl_lo_nat a b c (by omega) bc hb'
  have w1 : IntKind.u64.wrap ((a : Int) * 2 ^ c) = ((a * 2 ^ c : Nat) : Int) := by
    rw [show (a : Int) * 2 ^ c = ((a * 2 ^ c : Nat) : Int) by simp, IntKind.wrap_u64]
    omega
  have w2 : (b : Int) / 2 ^ (64 - c) = ((b / 2 ^ (64 - c) : Nat) : Int) := by simp
  have w3 : IntKind.u64.wrap ((b : Int) * 2 ^ c) = ((b * 2 ^ c % 18446744073709551616 : Nat) : Int) := by
    rw [show (b : Int) * 2 ^ c = ((b * 2 ^ c : Nat) : Int) by simp, IntKind.wrap_u64]
    omega
  refine ⟨_, rfl, ?_, ?_⟩
  · rw [w1, w2, or_nat _ _ _ s1 s2 s3]
    omega
  · rw [w1, w2, or_nat _ _ _ s1 s2 s3, w3]
    rw [show ((a : Int) * 18446744073709551616 + b) * 2 ^ c = (((a * 18446744073709551616 + b) * 2 ^ c : Nat) : Int) by simp, s4]
    omega
theorem shl_hi_val (h l k : Int) (bh : 0 ≤ h) (bl : 0 ≤ l) (bk : 64 ≤ k) (hb : (h * 18446744073709551616 + l) * 2 ^ k.toNat < 340282366920938463463374607431768211456) :
    (0 ≤ IntKind.u64.wrap (l * 2 ^ (k - 64).toNat) ∧ IntKind.u64.wrap (l * 2 ^ (k - 64).toNat) < 18446744073709551616) ∧ (h * 18446744073709551616 + l) * 2 ^ k.toNat = IntKind.u64.wrap (l * 2 ^ (k - 64).toNat) * 18446744073709551616 + 0 := by
  obtain ⟨a, rfl⟩ := Int.eq_ofNat_of_zero_le bh
  obtain ⟨b, rfl⟩ := Int.eq_ofNat_of_zero_le bl
  obtain ⟨c, rfl⟩ : ∃ c : Nat, k = c + 64 := ⟨(k - 64).toNat, by omega⟩
  rw [show ((c : Int) + 64 - 64).toNat = c by omega, show ((c : Int) + 64).toNat = c + 64 by omega] at *
  have e : ((a : Int) * 18446744073709551616 + b) * 2 ^ (c + 64) = (((a * 18446744073709551616 + b) * 2 ^ c * 18446744073709551616 : Nat) : Int) := by
    rw [Int.pow_add, ← Int.mul_assoc]
    simp
  rw [e] at hb ⊢
  rw [show (b : Int) * 2 ^ c = ((b * 2 ^ c : Nat) : Int) by simp, IntKind.wrap_u64]
  have hp : 0 < 2 ^ c := Nat.two_pow_pos c
  have ha : a = 0 := by
    rcases Nat.eq_zero_or_pos a with h | h
    · exact h
    · exfalso
      have h1 : 18446744073709551616 * 1 ≤ (a * 18446744073709551616 + b) * 2 ^ c := Nat.mul_le_mul (by omega) hp
      omega
  subst ha
  rw [Nat.zero_mul, Nat.zero_add] at *
  omega
end Go.Proofs.Ytlhgmlebjnkonaa
namespace Go.Proofs.Ytlhgmlebjnkonaa
open Go.RowKit
set_option linter.unusedVariables false

def RMul (n : Int) (w : World) (e : Ending) (w' : World) : Prop := ∃ H L, e = .returned (.tuple #[.int .u64 H, .int .u64 L]) ∧ IsS H L n ∧ w = w'
theorem mul64_lt {x y : Nat} (hx : x < 18446744073709551616) (hy : y < 18446744073709551616) : x * y < 18446744073709551616 * 18446744073709551616 := Nat.mul_lt_mul'' hx hy
theorem mul64_any (x y : Int) (w : World) (hx : 0 ≤ x ∧ x < 18446744073709551616) (hy : 0 ≤ y ∧ y < 18446744073709551616) :
    Calls Try.prog 89 #[.int .u64 x, .int .u64 y] w (RMul (x * y) w) := by
  obtain ⟨X, rfl⟩ := Int.eq_ofNat_of_zero_le hx.1
  obtain ⟨Y, rfl⟩ := Int.eq_ofNat_of_zero_le hy.1
  refine (Try.bits_Mul64 X Y (by omega) (by omega) w).mono ?_
  rintro e w' ⟨rfl, rfl⟩
  have hl := mul64_lt (x := X) (y := Y) (by omega) (by omega)
  refine ⟨_, _, rfl, ?_, rfl⟩
  rw [show (X : Int) * (Y : Int) = ((X * Y : Nat) : Int) from (Int.natCast_mul X Y).symm]
  generalize X * Y = p at *
  unfold IsS
  omega
def fitS (n : Int) : Bool := decide (n < 340282366920938463463374607431768211456)
def RSF (n : Int) (w : World) (e : Ending) (w' : World) : Prop := ∃ H L, e = .returned (.tuple #[.agg #[.int .u64 H, .int .u64 L], .bool (fitS n)]) ∧ IsS H L (if fitS n then n else 0) ∧ Below w.heap.size w w'
theorem rsf_yes {n H L : Int} {w w' : World} (h : fitS n = true) (k : IsS H L n) (b : Below w.heap.size w w') : RSF n w (.returned (.tuple #[.agg #[.int .u64 H, .int .u64 L], .bool true])) w' := ⟨H, L, by rw [h], by rw [h]; exact k, b⟩
theorem rsf_no {n : Int} {w w' : World} (h : fitS n = false) (b : Below w.heap.size w w') : RSF n w (.returned (.tuple #[.agg #[.int .u64 0, .int .u64 0], .bool false])) w' := ⟨0, 0, by rw [h], by rw [h]; exact isS0, b⟩
theorem both_no {h1 l1 n h2 l2 m : Int} (H1 : IsS h1 l1 n) (H2 : IsS h2 l2 m) (k1 : h1 ≠ 0) (k2 : h2 ≠ 0) : fitS (n * m) = false := by
  obtain ⟨b1, b2, e1⟩ := H1
  obtain ⟨b3, b4, e2⟩ := H2
  have hn : 18446744073709551616 ≤ n := by omega
  have hm : 18446744073709551616 ≤ m := by omega
  have h := Int.mul_le_mul hn hm (by omega) (by omega)
  unfold fitS
  rw [decide_eq_false_iff_not]
  omega
set_option maxHeartbeats 400000 in
theorem mulSizes_both (h1 l1 n h2 l2 m : Int) (w : World) (H1 : IsS h1 l1 n) (H2 : IsS h2 l2 m) (k1 : h1 ≠ 0) (k2 : h2 ≠ 0) :
    Calls Try.prog 81 #[.agg #[.int .u64 h1, .int .u64 l1], .agg #[.int .u64 h2, .int .u64 l2]] w (RSF (n * m) w) := by
  have hn := Lib.hid (both_no H1 H2 k1 k2)
  have b1 : (h1 != 0) = true := by simpa using k1
  have b2 : (h2 != 0) = true := by simpa using k2
  clear k1 k2
  go_enter Try.func81, Try.ntmps81
  go_wp2
  refine bodyPost_ret (v := .tuple #[.agg #[.int .u64 0, .int .u64 0], .bool false]) (by simp only [results, Try.results81]; go_simp) rfl (rsf_no hn.out ?_)
  (repeat (first | (with_reducible exact Below.refl _ _) | with_reducible assumption | (with_reducible refine below_alloc ?_ _) | (focus ((with_reducible refine below_set ?_ _ _ _ ?_); rotate_left; omega)) | (with_reducible refine Below.drew ?_)))
theorem isS_zero {a b : Int} (h : IsS a b 0) : a = 0 ∧ b = 0 := by
  obtain ⟨b1, b2, e⟩ := h
  omega
theorem mulS_end {o u q hi lo p N : Int} (A : IsS o u q) (C : IsS hi lo p) (e : N = q * 18446744073709551616 + p) :
    (¬ o = 0 → fitS N = false) ∧ (o = 0 → ((hi + u) / 18446744073709551616 != 0) = true → fitS N = false) ∧
    (o = 0 → ((hi + u) / 18446744073709551616 != 0) = false → fitS N = true ∧ IsS ((hi + u) % 18446744073709551616) lo N) := by
  obtain ⟨a1, a2, rfl⟩ := A
  obtain ⟨b1, b2, rfl⟩ := C
  unfold fitS IsS
  simp only [bne_iff_ne, bne_eq_false_iff_eq, decide_eq_true_eq, decide_eq_false_iff_not]
  omega
theorem or0 (x : Int) (h : 0 ≤ x ∧ x < 18446744073709551616) : bits .or .u64 0 x = x ∧ bits .or .u64 x 0 = x := by
  obtain ⟨X, rfl⟩ := Int.eq_ofNat_of_zero_le h.1
  have h1 := bits_or_u64_nat 0 X (by omega) (by omega)
  have h2 := bits_or_u64_nat X 0 (by omega) (by omega)
  rw [Nat.zero_or] at h1
  rw [Nat.or_zero] at h2
  exact ⟨h1, h2⟩
set_option maxHeartbeats 400000 in
theorem mulSizes_left (l1 n h2 l2 m : Int) (w : World) (H1 : IsS 0 l1 n) (H2 : IsS h2 l2 m) :
    Calls Try.prog 81 #[.agg #[.int .u64 0, .int .u64 l1], .agg #[.int .u64 h2, .int .u64 l2]] w (RSF (n * m) w) := by
  have z1 := H1.1; have z2 := H1.2.1; have z3 := H2.1; have z4 := H2.2.1
  go_enter Try.func81, Try.ntmps81
  go_wp2_with fail
  refine (mul64_any _ _ _ z1 z4).mono ?_
  rintro e w1 ⟨oA, uA, rfl, hA, rfl⟩
  rw [Int.zero_mul] at hA
  obtain ⟨rfl, rfl⟩ := isS_zero hA
  clear hA
  go_wp2_with fail
  refine (mul64_any _ _ _ z2 z3).mono ?_
  rintro e w1 ⟨oB, uB, rfl, hB, rfl⟩
  go_wp2_with fail
  refine (mul64_any _ _ _ z2 z4).mono ?_
  rintro e w1 ⟨hi, lo, rfl, hC, rfl⟩
  have o1 := (or0 uB hB.2.1).1
  have e1 := fun w => add64_call hi uB 0 hC.1.1 hB.2.1.1 (by omega) (by omega) w
  rw [Int.add_zero] at e1
  have hend := mulS_end (N := n * m) hB hC (by
    rw [H1.2.2, H2.2.2, Int.zero_mul, Int.zero_add, Int.mul_add, ← Int.mul_assoc])
  obtain ⟨q1, q2, q3⟩ := hend
  have Q1 := Lib.hid q1; have Q2 := Lib.hid q2; have Q3 := Lib.hid q3
  clear q1 q2 q3 z1 z2 z3 z4
  go_wp2
  · refine bodyPost_ret (v := .tuple #[.agg #[.int .u64 0, .int .u64 0], .bool false]) (by simp only [results, Try.results81]; go_simp) rfl (rsf_no (Q1.out ‹_›) ?_)
    (repeat (first | (with_reducible exact Below.refl _ _) | with_reducible assumption | (with_reducible refine below_alloc ?_ _) | (focus ((with_reducible refine below_set ?_ _ _ _ ?_); rotate_left; omega)) | (with_reducible refine Below.drew ?_)))
  · refine bodyPost_ret (v := .tuple #[.agg #[.int .u64 0, .int .u64 0], .bool false]) (by simp only [results, Try.results81]; go_simp) rfl (rsf_no (Q2.out ‹_› ‹_›) ?_)
    (repeat (first | (with_reducible exact Below.refl _ _) | with_reducible assumption | (with_reducible refine below_alloc ?_ _) | (focus ((with_reducible refine below_set ?_ _ _ _ ?_); rotate_left; omega)) | (with_reducible refine Below.drew ?_)))
  · have hy := Q3.out ‹_› ‹_›
    refine bodyPost_ret (v := .tuple #[.agg #[.int .u64 ((hi + uB) % 18446744073709551616), .int .u64 lo], .bool true]) (by simp only [results, Try.results81]; go_simp) rfl (rsf_yes hy.1 hy.2 ?_)
    (repeat (first | (with_reducible exact Below.refl _ _) | with_reducible assumption | (with_reducible refine below_alloc ?_ _) | (focus ((with_reducible refine below_set ?_ _ _ _ ?_); rotate_left; omega)) | (with_reducible refine Below.drew ?_)))
set_option maxHeartbeats 400000 in
theorem mulSizes_right (h1 l1 n l2 m : Int) (w : World) (H1 : IsS h1 l1 n) (H2 : IsS 0 l2 m) (k : h1 ≠ 0) :
    Calls Try.prog 81 #[.agg #[.int .u64 h1, .int .u64 l1], .agg #[.int .u64 0, .int .u64 l2]] w (RSF (n * m) w) := by
  have z1 := H1.1; have z2 := H1.2.1; have z3 := H2.1; have z4 := H2.2.1
  have kb : (h1 != 0) = true := by simpa using k
  clear k
  go_enter Try.func81, Try.ntmps81
  go_wp2_with fail
  refine (mul64_any _ _ _ z1 z4).mono ?_
  rintro e w1 ⟨oA, uA, rfl, hA, rfl⟩
  go_wp2_with fail
  refine (mul64_any _ _ _ z2 z3).mono ?_
  rintro e w1 ⟨oB, uB, rfl, hB, rfl⟩
  rw [Int.mul_zero] at hB
  obtain ⟨rfl, rfl⟩ := isS_zero hB
  clear hB
  go_wp2_with fail
  refine (mul64_any _ _ _ z2 z4).mono ?_
  rintro e w1 ⟨hi, lo, rfl, hC, rfl⟩
  have o1 := (or0 uA hA.2.1).2
  have e1 := fun w => add64_call hi uA 0 hC.1.1 hA.2.1.1 (by omega) (by omega) w
  rw [Int.add_zero] at e1
  have hend := mulS_end (N := n * m) hA hC (by
    rw [H1.2.2, H2.2.2, Int.zero_mul, Int.zero_add, Int.add_mul, Int.mul_right_comm])
  obtain ⟨q1, q2, q3⟩ := hend
  have Q1 := Lib.hid q1; have Q2 := Lib.hid q2; have Q3 := Lib.hid q3
  clear q1 q2 q3 z1 z2 z3 z4
  go_wp2
  · refine bodyPost_ret (v := .tuple #[.agg #[.int .u64 0, .int .u64 0], .bool false]) (by simp only [results, Try.results81]; go_simp) rfl (rsf_no (Q1.out ‹_›) ?_)
    (repeat (first | (with_reducible exact Below.refl _ _) | with_reducible assumption | (with_reducible refine below_alloc ?_ _) | (focus ((with_reducible refine below_set ?_ _ _ _ ?_); rotate_left; omega)) | (with_reducible refine Below.drew ?_)))
  · refine bodyPost_ret (v := .tuple #[.agg #[.int .u64 0, .int .u64 0], .bool false]) (by simp only [results, Try.results81]; go_simp) rfl (rsf_no (Q2.out ‹_› ‹_›) ?_)
    (repeat (first | (with_reducible exact Below.refl _ _) | with_reducible assumption | (with_reducible refine below_alloc ?_ _) | (focus ((with_reducible refine below_set ?_ _ _ _ ?_); rotate_left; omega)) | (with_reducible refine Below.drew ?_)))
  · have hy := Q3.out ‹_› ‹_›
    refine bodyPost_ret (v := .tuple #[.agg #[.int .u64 ((hi + uA) % 18446744073709551616), .int .u64 lo], .bool true]) (by simp only [results, Try.results81]; go_simp) rfl (rsf_yes hy.1 hy.2 ?_)
    (repeat (first | (with_reducible exact Below.refl _ _) | with_reducible assumption | (with_reducible refine below_alloc ?_ _) | (focus ((with_reducible refine below_set ?_ _ _ _ ?_); rotate_left; omega)) | (with_reducible refine Below.drew ?_)))
theorem mulSizes_any (h1 l1 n h2 l2 m : Int) (w : World) (H1 : IsS h1 l1 n) (H2 : IsS h2 l2 m) :
    Calls Try.prog 81 #[.agg #[.int .u64 h1, .int .u64 l1], .agg #[.int .u64 h2, .int .u64 l2]] w (RSF (n * m) w) := by
  by_cases k1 : h1 = 0
  · subst k1; exact mulSizes_left l1 n h2 l2 m w H1 H2
  · by_cases k2 : h2 = 0
    · subst k2; exact mulSizes_right h1 l1 n l2 m w H1 H2 k1
    · exact mulSizes_both h1 l1 n h2 l2 m w H1 H2 k1 k2
def RLen (n : Int) (w : World) (e : Ending) (w' : World) : Prop := ∃ k : Nat, e = .returned (.int .i64 k) ∧ IsLen n.toNat k ∧ Below w.heap.size w w'
theorem bitLen64 (h : Int) (b : 0 ≤ h ∧ h < 18446744073709551616) : Lib.bitLen h.toNat ≤ 64 := Lib.bitLen_le _ 64 (Nat.le_refl _) (by rw [two64]; omega)
set_option maxHeartbeats 400000 in
theorem shlSize_hi (h1 l1 n k : Int) (w : World) (H1 : IsS h1 l1 n) (k0 : 64 ≤ k) (k1 : k < 128) (hb : n * 2 ^ k.toNat < 340282366920938463463374607431768211456) :
    Calls Try.prog 91 #[.agg #[.int .u64 h1, .int .u64 l1], .int .u64 k] w (RS (n * 2 ^ k.toNat) w) := by
  obtain ⟨b1, b2, e⟩ := H1
  rw [e] at hb ⊢
  have HV := Lib.hid (shl_hi_val h1 l1 k b1.1 b2.1 k0 hb)
  clear e hb b1 b2
  go_enter Try.func91, Try.ntmps91
  go_wp2
  refine bodyPost_ret (v := .agg #[.int .u64 (IntKind.u64.wrap (l1 * 2 ^ (k - 64).toNat)), .int .u64 0]) (by simp only [results, Try.results91]; go_simp) rfl ⟨_, _, rfl, ⟨HV.out.1, by omega, HV.out.2⟩, ?_⟩
  (repeat (first | (with_reducible exact Below.refl _ _) | with_reducible assumption | (with_reducible refine below_alloc ?_ _) | (focus ((with_reducible refine below_set ?_ _ _ _ ?_); rotate_left; omega)) | (with_reducible refine Below.drew ?_)))
set_option maxHeartbeats 400000 in
theorem shlSize_lo (h1 l1 n k : Int) (w : World) (H1 : IsS h1 l1 n) (k0 : 0 ≤ k) (k1 : k < 64) (hb : n * 2 ^ k.toNat < 340282366920938463463374607431768211456) :
    Calls Try.prog 91 #[.agg #[.int .u64 h1, .int .u64 l1], .int .u64 k] w (RS (n * 2 ^ k.toNat) w) := by
  obtain ⟨b1, b2, e⟩ := H1
  rw [e] at hb ⊢
  obtain ⟨H, hv1, hv2, hv3⟩ := shl_lo_val h1 l1 k b1.1 b2 ⟨k0, k1⟩ hb
  have HV1 := Lib.hid hv1
  have HV3 := Lib.hid hv3
  clear e hb b1 b2 hv1 hv3
  go_enter Try.func91, Try.ntmps91
  go_wp2
  refine bodyPost_ret (v := .agg #[.int .u64 (bits BinOp.or IntKind.u64 (IntKind.u64.wrap (h1 * 2 ^ k.toNat)) (l1 / 2 ^ (64 - k).toNat)), .int .u64 (IntKind.u64.wrap (l1 * 2 ^ k.toNat))]) (by simp only [results, Try.results91]; go_simp) rfl ⟨_, _, rfl, ?_, ?_⟩
  · rw [HV1.out]
    exact ⟨hv2, u64_range _, HV3.out⟩
  · (repeat (first | (with_reducible exact Below.refl _ _) | with_reducible assumption | (with_reducible refine below_alloc ?_ _) | (focus ((with_reducible refine below_set ?_ _ _ _ ?_); rotate_left; omega)) | (with_reducible refine Below.drew ?_)))
theorem shlSize_any (h1 l1 n k : Int) (w : World) (H1 : IsS h1 l1 n) (k0 : 0 ≤ k) (k1 : k < 128) (hb : n * 2 ^ k.toNat < 340282366920938463463374607431768211456) :
    Calls Try.prog 91 #[.agg #[.int .u64 h1, .int .u64 l1], .int .u64 k] w (RS (n * 2 ^ k.toNat) w) := by
  by_cases h : k < 64
  · exact shlSize_lo h1 l1 n k w H1 k0 h hb
  · exact shlSize_hi h1 l1 n k w H1 (by omega) k1 hb
end Go.Proofs.Ytlhgmlebjnkonaa
namespace Go.Proofs.Ytlhgmlebjnkonaa
open Go.RowKit
set_option linter.unusedVariables false

theorem sign_mul {h1 l1 n h2 l2 m : Int} (H1 : IsW h1 l1 n) (H2 : IsW h2 l2 m) : (if (!decide (h1 < 0) == decide (h2 < 0)) = true then -((n.natAbs : Int) * (m.natAbs : Int)) else (n.natAbs : Int) * (m.natAbs : Int)) = n * m := by
  have k1 := H1.neg; have k2 := H2.neg
  rcases Int.lt_or_le n 0 with a | a <;> rcases Int.lt_or_le m 0 with b | b
  · obtain ⟨x, rfl⟩ : ∃ x : Nat, n = -(x : Int) := ⟨n.natAbs, by omega⟩
    obtain ⟨y, rfl⟩ : ∃ y : Nat, m = -(y : Int) := ⟨m.natAbs, by omega⟩
    simp [k1.2 a, k2.2 b, Int.neg_mul, Int.mul_neg]
  · obtain ⟨x, rfl⟩ : ∃ x : Nat, n = -(x : Int) := ⟨n.natAbs, by omega⟩
    obtain ⟨y, rfl⟩ : ∃ y : Nat, m = (y : Int) := ⟨m.natAbs, by omega⟩
    have : ¬ h2 < 0 := by omega
    simp [k1.2 a, this, Int.neg_mul]
  · obtain ⟨x, rfl⟩ : ∃ x : Nat, n = (x : Int) := ⟨n.natAbs, by omega⟩
    obtain ⟨y, rfl⟩ : ∃ y : Nat, m = -(y : Int) := ⟨m.natAbs, by omega⟩
    have : ¬ h1 < 0 := by omega
    simp [k2.2 b, this, Int.mul_neg]
  · obtain ⟨x, rfl⟩ : ∃ x : Nat, n = (x : Int) := ⟨n.natAbs, by omega⟩
    obtain ⟨y, rfl⟩ : ∃ y : Nat, m = (y : Int) := ⟨m.natAbs, by omega⟩
    have t1 : ¬ h1 < 0 := by omega
    have t2 : ¬ h2 < 0 := by omega
    simp [t1, t2]
theorem sign_over {h1 l1 n h2 l2 m : Int} (H1 : IsW h1 l1 n) (H2 : IsW h2 l2 m) (h : fitS (n.natAbs * m.natAbs) = false) : fits (n * m) = false := by
  have e : (n.natAbs : Int) * m.natAbs = ((n * m).natAbs : Int) := by rw [Int.natAbs_mul, Int.natCast_mul]
  rw [e] at h
  unfold fitS at h
  unfold fits
  rw [decide_eq_false_iff_not] at *
  omega
theorem signed_prod {h1 l1 n h2 l2 m ph pl P : Int} (w : World) (H1 : IsW h1 l1 n) (H2 : IsW h2 l2 m) (e : Hid (P = n.natAbs * m.natAbs)) (hp : IsS ph pl P) :
    Calls Try.prog 74 #[.agg #[.int .u64 ph, .int .u64 pl], .bool (!decide (h1 < 0) == decide (h2 < 0))] w (RWF (n * m) w) := by
  rw [← sign_mul H1 H2, ← e.out]
  exact signed_any ph pl P _ w hp
def MulCut (w : World) (N : Int) (a b c d : Value) (s6 s7 : Value) (wx : World) : Prop :=
  ∃ (g : Nat) (ph pl : Int), s6 = .pointer (some ⟨g, 0, none⟩) ∧ s7 = .bool (fitS N) ∧ w.heap.size + 3 ≤ g ∧ IsS ph pl (if fitS N then N else 0) ∧
    Box wx g (.int .u64 ph) (.int .u64 pl) ∧ Box wx w.heap.size a b ∧ Box wx (w.heap.size + 1) c d ∧ Box wx (w.heap.size + 1 + 1) (.int .i64 0) (.int .u64 0) ∧ g < wx.heap.size ∧ Below w.heap.size w wx
set_option maxHeartbeats 4000000 in
set_option maxRecDepth 100000 in
theorem Mul_any (h1 l1 n h2 l2 m : Int) (w : World) (H1 : IsW h1 l1 n) (H2 : IsW h2 l2 m) :
    Calls Try.prog 64 #[.agg #[.int .i64 h1, .int .u64 l1], .agg #[.int .i64 h2, .int .u64 l2]] w (RWF (n * m) w) := by
  have nx3 : ¬ w.heap.size + 1 + 1 + 1 = w.heap.size := by omega
  have nx2 : ¬ w.heap.size + 1 + 1 = w.heap.size := by omega
  go_enter Try.func64, Try.ntmps64
  go_upto_region 1 with fail
  go_cut [6, 7] (fun s6 s7 wx => MulCut w (n.natAbs * m.natAbs) (.int .i64 h1) (.int .u64 l1) (.int .i64 h2) (.int .u64 l2) s6 s7 wx)
  case first =>
    have B0 : Box (((w.alloc (.cells #[.int .i64 h1, .int .u64 l1] 27)).alloc (.cells #[.int .i64 h2, .int .u64 l2] 27)).alloc (.cells #[.int .i64 0, .int .u64 0] 27)) w.heap.size (.int .i64 h1) (.int .u64 l1) := by (repeat (first | with_reducible assumption | (focus ((with_reducible refine Box.new ?_); simp; done)) | (with_reducible refine Box.alloc ?_ _) | (with_reducible refine Box.drew ?_) | (with_reducible refine Box.put ?_) | (focus ((with_reducible refine Box.set ?_ _ ?_); rotate_left; omega)) | (focus ((with_reducible apply HasBox.of); with_reducible assumption)) | (focus ((with_reducible refine HasBox.new ?_); simp; done)) | (with_reducible refine HasBox.set ?_ _ _) | (with_reducible refine HasBox.drew ?_) | (with_reducible refine HasBox.alloc ?_ _)))
    go_region_held3 (fun w' => (w'.cell? ⟨w.heap.size, 0, none⟩ = some (.int .i64 h1) ∧ w'.cell? ⟨w.heap.size, 1, none⟩ = some (.int .u64 l1)) ∧ (w'.cell? ⟨w.heap.size + 1, 0, none⟩ = some (.int .i64 h2) ∧ w'.cell? ⟨w.heap.size + 1, 1, none⟩ = some (.int .u64 l2))) (go_keep)
      (first
        | (go_at_call 73; ((with_reducible refine (sizeOf_any h1 l1 n _ H1).mono ?_); rintro e w1 ⟨sh1, sl1, rfl, hs1, hb1⟩; have B_w1_0 : Box w1 (w.heap.size) (.int .i64 h1) (.int .u64 l1) := (by (repeat (first | with_reducible assumption | (focus ((with_reducible refine Box.new ?_); simp; done)) | (with_reducible refine Box.alloc ?_ _) | (with_reducible refine Box.drew ?_) | (with_reducible refine Box.put ?_) | (focus ((with_reducible refine Box.set ?_ _ ?_); rotate_left; omega)) | (focus ((with_reducible apply HasBox.of); with_reducible assumption)) | (focus ((with_reducible refine HasBox.new ?_); simp; done)) | (with_reducible refine HasBox.set ?_ _ _) | (with_reducible refine HasBox.drew ?_) | (with_reducible refine HasBox.alloc ?_ _) | (with_reducible refine Box.call ?_ hb1) | (with_reducible refine HasBox.call ?_ hb1)))); obtain ⟨⟨c_w1_0, d_w1_0⟩, f_w1_0, g_w1_0⟩ := id B_w1_0; have B_w1_1 : Box w1 (w.heap.size + 1) (.int .i64 h2) (.int .u64 l2) := (by (repeat (first | with_reducible assumption | (focus ((with_reducible refine Box.new ?_); simp; done)) | (with_reducible refine Box.alloc ?_ _) | (with_reducible refine Box.drew ?_) | (with_reducible refine Box.put ?_) | (focus ((with_reducible refine Box.set ?_ _ ?_); rotate_left; omega)) | (focus ((with_reducible apply HasBox.of); with_reducible assumption)) | (focus ((with_reducible refine HasBox.new ?_); simp; done)) | (with_reducible refine HasBox.set ?_ _ _) | (with_reducible refine HasBox.drew ?_) | (with_reducible refine HasBox.alloc ?_ _) | (with_reducible refine Box.call ?_ hb1) | (with_reducible refine HasBox.call ?_ hb1)))); obtain ⟨⟨c_w1_1, d_w1_1⟩, f_w1_1, g_w1_1⟩ := id B_w1_1; have B_w1_2 : Box w1 (w.heap.size + 1 + 1) (.int .i64 0) (.int .u64 0) := (by (repeat (first | with_reducible assumption | (focus ((with_reducible refine Box.new ?_); simp; done)) | (with_reducible refine Box.alloc ?_ _) | (with_reducible refine Box.drew ?_) | (with_reducible refine Box.put ?_) | (focus ((with_reducible refine Box.set ?_ _ ?_); rotate_left; omega)) | (focus ((with_reducible apply HasBox.of); with_reducible assumption)) | (focus ((with_reducible refine HasBox.new ?_); simp; done)) | (with_reducible refine HasBox.set ?_ _ _) | (with_reducible refine HasBox.drew ?_) | (with_reducible refine HasBox.alloc ?_ _) | (with_reducible refine Box.call ?_ hb1) | (with_reducible refine HasBox.call ?_ hb1)))); obtain ⟨⟨c_w1_2, d_w1_2⟩, f_w1_2, g_w1_2⟩ := id B_w1_2; (try ((refine cutIn (p := Box w1 (w.heap.size + 1 + 1 + 1) (.int .u64 0) (.int .u64 0)) ?_ ?_); (repeat (first | with_reducible assumption | (focus ((with_reducible refine Box.new ?_); simp; done)) | (with_reducible refine Box.alloc ?_ _) | (with_reducible refine Box.drew ?_) | (with_reducible refine Box.put ?_) | (focus ((with_reducible refine Box.set ?_ _ ?_); rotate_left; omega)) | (focus ((with_reducible apply HasBox.of); with_reducible assumption)) | (focus ((with_reducible refine HasBox.new ?_); simp; done)) | (with_reducible refine HasBox.set ?_ _ _) | (with_reducible refine HasBox.drew ?_) | (with_reducible refine HasBox.alloc ?_ _) | (with_reducible refine Box.call ?_ hb1) | (with_reducible refine HasBox.call ?_ hb1))); intro B_w1x_0; obtain ⟨⟨c_w1x_0, d_w1x_0⟩, f_w1x_0, g_w1x_0⟩ := id B_w1x_0; have l_w1x_0 := Box.lt B_w1x_0; have n_w1x_0 := Nat.ne_of_gt (Box.lt B_w1x_0); have m_w1x_0 := Nat.ne_of_lt (Box.lt B_w1x_0))); have hz_hb1 := Below.size hb1; (try simp at hz_hb1); have ne_hb1_0 : ¬ w1.heap.size = w.heap.size := (by omega); have ne_hb1_1 : ¬ w1.heap.size = w.heap.size + 1 := (by omega); have ne_hb1_2 : ¬ w1.heap.size = w.heap.size + 1 + 1 := (by omega); have en_hb1_0 : ¬ w.heap.size = w1.heap.size := (by omega); have en_hb1_1 : ¬ w.heap.size + 1 = w1.heap.size := (by omega); have en_hb1_2 : ¬ w.heap.size + 1 + 1 = w1.heap.size := (by omega); have lt_hb1_0 : w.heap.size < w1.heap.size := (by omega); have lt_hb1_1 : w.heap.size + 1 < w1.heap.size := (by omega); have lt_hb1_2 : w.heap.size + 1 + 1 < w1.heap.size := (by omega)))
        | (go_at_call 73; ((with_reducible refine (sizeOf_any h2 l2 m _ H2).mono ?_); rintro e w2 ⟨sh2, sl2, rfl, hs2, hb2⟩; have B_w2_0 : Box w2 (w.heap.size) (.int .i64 h1) (.int .u64 l1) := (by (repeat (first | with_reducible assumption | (focus ((with_reducible refine Box.new ?_); simp; done)) | (with_reducible refine Box.alloc ?_ _) | (with_reducible refine Box.drew ?_) | (with_reducible refine Box.put ?_) | (focus ((with_reducible refine Box.set ?_ _ ?_); rotate_left; omega)) | (focus ((with_reducible apply HasBox.of); with_reducible assumption)) | (focus ((with_reducible refine HasBox.new ?_); simp; done)) | (with_reducible refine HasBox.set ?_ _ _) | (with_reducible refine HasBox.drew ?_) | (with_reducible refine HasBox.alloc ?_ _) | (with_reducible refine Box.call ?_ hb2) | (with_reducible refine HasBox.call ?_ hb2) | (with_reducible refine Box.call ?_ hb1) | (with_reducible refine HasBox.call ?_ hb1)))); obtain ⟨⟨c_w2_0, d_w2_0⟩, f_w2_0, g_w2_0⟩ := id B_w2_0; have B_w2_1 : Box w2 (w.heap.size + 1) (.int .i64 h2) (.int .u64 l2) := (by (repeat (first | with_reducible assumption | (focus ((with_reducible refine Box.new ?_); simp; done)) | (with_reducible refine Box.alloc ?_ _) | (with_reducible refine Box.drew ?_) | (with_reducible refine Box.put ?_) | (focus ((with_reducible refine Box.set ?_ _ ?_); rotate_left; omega)) | (focus ((with_reducible apply HasBox.of); with_reducible assumption)) | (focus ((with_reducible refine HasBox.new ?_); simp; done)) | (with_reducible refine HasBox.set ?_ _ _) | (with_reducible refine HasBox.drew ?_) | (with_reducible refine HasBox.alloc ?_ _) | (with_reducible refine Box.call ?_ hb2) | (with_reducible refine HasBox.call ?_ hb2) | (with_reducible refine Box.call ?_ hb1) | (with_reducible refine HasBox.call ?_ hb1)))); obtain ⟨⟨c_w2_1, d_w2_1⟩, f_w2_1, g_w2_1⟩ := id B_w2_1; have B_w2_2 : Box w2 (w.heap.size + 1 + 1) (.int .i64 0) (.int .u64 0) := (by (repeat (first | with_reducible assumption | (focus ((with_reducible refine Box.new ?_); simp; done)) | (with_reducible refine Box.alloc ?_ _) | (with_reducible refine Box.drew ?_) | (with_reducible refine Box.put ?_) | (focus ((with_reducible refine Box.set ?_ _ ?_); rotate_left; omega)) | (focus ((with_reducible apply HasBox.of); with_reducible assumption)) | (focus ((with_reducible refine HasBox.new ?_); simp; done)) | (with_reducible refine HasBox.set ?_ _ _) | (with_reducible refine HasBox.drew ?_) | (with_reducible refine HasBox.alloc ?_ _) | (with_reducible refine Box.call ?_ hb2) | (with_reducible refine HasBox.call ?_ hb2) | (with_reducible refine Box.call ?_ hb1) | (with_reducible refine HasBox.call ?_ hb1)))); obtain ⟨⟨c_w2_2, d_w2_2⟩, f_w2_2, g_w2_2⟩ := id B_w2_2; (try ((refine cutIn (p := Box w2 (w.heap.size + 1 + 1 + 1) (.int .u64 0) (.int .u64 0)) ?_ ?_); (repeat (first | with_reducible assumption | (focus ((with_reducible refine Box.new ?_); simp; done)) | (with_reducible refine Box.alloc ?_ _) | (with_reducible refine Box.drew ?_) | (with_reducible refine Box.put ?_) | (focus ((with_reducible refine Box.set ?_ _ ?_); rotate_left; omega)) | (focus ((with_reducible apply HasBox.of); with_reducible assumption)) | (focus ((with_reducible refine HasBox.new ?_); simp; done)) | (with_reducible refine HasBox.set ?_ _ _) | (with_reducible refine HasBox.drew ?_) | (with_reducible refine HasBox.alloc ?_ _) | (with_reducible refine Box.call ?_ hb2) | (with_reducible refine HasBox.call ?_ hb2) | (with_reducible refine Box.call ?_ hb1) | (with_reducible refine HasBox.call ?_ hb1))); intro B_w2x_0; obtain ⟨⟨c_w2x_0, d_w2x_0⟩, f_w2x_0, g_w2x_0⟩ := id B_w2x_0; have l_w2x_0 := Box.lt B_w2x_0; have n_w2x_0 := Nat.ne_of_gt (Box.lt B_w2x_0); have m_w2x_0 := Nat.ne_of_lt (Box.lt B_w2x_0))); (try ((refine cutIn (p := Box w2 (w1.heap.size) (.int .u64 0) (.int .u64 0)) ?_ ?_); (repeat (first | with_reducible assumption | (focus ((with_reducible refine Box.new ?_); simp; done)) | (with_reducible refine Box.alloc ?_ _) | (with_reducible refine Box.drew ?_) | (with_reducible refine Box.put ?_) | (focus ((with_reducible refine Box.set ?_ _ ?_); rotate_left; omega)) | (focus ((with_reducible apply HasBox.of); with_reducible assumption)) | (focus ((with_reducible refine HasBox.new ?_); simp; done)) | (with_reducible refine HasBox.set ?_ _ _) | (with_reducible refine HasBox.drew ?_) | (with_reducible refine HasBox.alloc ?_ _) | (with_reducible refine Box.call ?_ hb2) | (with_reducible refine HasBox.call ?_ hb2) | (with_reducible refine Box.call ?_ hb1) | (with_reducible refine HasBox.call ?_ hb1))); intro B_w2x_1; obtain ⟨⟨c_w2x_1, d_w2x_1⟩, f_w2x_1, g_w2x_1⟩ := id B_w2x_1; have l_w2x_1 := Box.lt B_w2x_1; have n_w2x_1 := Nat.ne_of_gt (Box.lt B_w2x_1); have m_w2x_1 := Nat.ne_of_lt (Box.lt B_w2x_1))); have hz_hb2 := Below.size hb2; (try simp at hz_hb2); have ne_hb2_0 : ¬ w2.heap.size = w.heap.size := (by omega); have ne_hb2_1 : ¬ w2.heap.size = w.heap.size + 1 := (by omega); have ne_hb2_2 : ¬ w2.heap.size = w.heap.size + 1 + 1 := (by omega); have en_hb2_0 : ¬ w.heap.size = w2.heap.size := (by omega); have en_hb2_1 : ¬ w.heap.size + 1 = w2.heap.size := (by omega); have en_hb2_2 : ¬ w.heap.size + 1 + 1 = w2.heap.size := (by omega); have lt_hb2_0 : w.heap.size < w2.heap.size := (by omega); have lt_hb2_1 : w.heap.size + 1 < w2.heap.size := (by omega); have lt_hb2_2 : w.heap.size + 1 + 1 < w2.heap.size := (by omega)))
        | (go_at_call 81; ((with_reducible refine (mulSizes_any _ _ _ _ _ _ _ hs1 hs2).mono ?_); rintro e w3 ⟨ph, pl, rfl, hp, hb3⟩; have B_w3_0 : Box w3 (w.heap.size) (.int .i64 h1) (.int .u64 l1) := (by (repeat (first | with_reducible assumption | (focus ((with_reducible refine Box.new ?_); simp; done)) | (with_reducible refine Box.alloc ?_ _) | (with_reducible refine Box.drew ?_) | (with_reducible refine Box.put ?_) | (focus ((with_reducible refine Box.set ?_ _ ?_); rotate_left; omega)) | (focus ((with_reducible apply HasBox.of); with_reducible assumption)) | (focus ((with_reducible refine HasBox.new ?_); simp; done)) | (with_reducible refine HasBox.set ?_ _ _) | (with_reducible refine HasBox.drew ?_) | (with_reducible refine HasBox.alloc ?_ _) | (with_reducible refine Box.call ?_ hb3) | (with_reducible refine HasBox.call ?_ hb3) | (with_reducible refine Box.call ?_ hb2) | (with_reducible refine HasBox.call ?_ hb2) | (with_reducible refine Box.call ?_ hb1) | (with_reducible refine HasBox.call ?_ hb1)))); obtain ⟨⟨c_w3_0, d_w3_0⟩, f_w3_0, g_w3_0⟩ := id B_w3_0; have B_w3_1 : Box w3 (w.heap.size + 1) (.int .i64 h2) (.int .u64 l2) := (by (repeat (first | with_reducible assumption | (focus ((with_reducible refine Box.new ?_); simp; done)) | (with_reducible refine Box.alloc ?_ _) | (with_reducible refine Box.drew ?_) | (with_reducible refine Box.put ?_) | (focus ((with_reducible refine Box.set ?_ _ ?_); rotate_left; omega)) | (focus ((with_reducible apply HasBox.of); with_reducible assumption)) | (focus ((with_reducible refine HasBox.new ?_); simp; done)) | (with_reducible refine HasBox.set ?_ _ _) | (with_reducible refine HasBox.drew ?_) | (with_reducible refine HasBox.alloc ?_ _) | (with_reducible refine Box.call ?_ hb3) | (with_reducible refine HasBox.call ?_ hb3) | (with_reducible refine Box.call ?_ hb2) | (with_reducible refine HasBox.call ?_ hb2) | (with_reducible refine Box.call ?_ hb1) | (with_reducible refine HasBox.call ?_ hb1)))); obtain ⟨⟨c_w3_1, d_w3_1⟩, f_w3_1, g_w3_1⟩ := id B_w3_1; have B_w3_2 : Box w3 (w.heap.size + 1 + 1) (.int .i64 0) (.int .u64 0) := (by (repeat (first | with_reducible assumption | (focus ((with_reducible refine Box.new ?_); simp; done)) | (with_reducible refine Box.alloc ?_ _) | (with_reducible refine Box.drew ?_) | (with_reducible refine Box.put ?_) | (focus ((with_reducible refine Box.set ?_ _ ?_); rotate_left; omega)) | (focus ((with_reducible apply HasBox.of); with_reducible assumption)) | (focus ((with_reducible refine HasBox.new ?_); simp; done)) | (with_reducible refine HasBox.set ?_ _ _) | (with_reducible refine HasBox.drew ?_) | (with_reducible refine HasBox.alloc ?_ _) | (with_reducible refine Box.call ?_ hb3) | (with_reducible refine HasBox.call ?_ hb3) | (with_reducible refine Box.call ?_ hb2) | (with_reducible refine HasBox.call ?_ hb2) | (with_reducible refine Box.call ?_ hb1) | (with_reducible refine HasBox.call ?_ hb1)))); obtain ⟨⟨c_w3_2, d_w3_2⟩, f_w3_2, g_w3_2⟩ := id B_w3_2; (try ((refine cutIn (p := Box w3 (w.heap.size + 1 + 1 + 1) (.int .u64 0) (.int .u64 0)) ?_ ?_); (repeat (first | with_reducible assumption | (focus ((with_reducible refine Box.new ?_); simp; done)) | (with_reducible refine Box.alloc ?_ _) | (with_reducible refine Box.drew ?_) | (with_reducible refine Box.put ?_) | (focus ((with_reducible refine Box.set ?_ _ ?_); rotate_left; omega)) | (focus ((with_reducible apply HasBox.of); with_reducible assumption)) | (focus ((with_reducible refine HasBox.new ?_); simp; done)) | (with_reducible refine HasBox.set ?_ _ _) | (with_reducible refine HasBox.drew ?_) | (with_reducible refine HasBox.alloc ?_ _) | (with_reducible refine Box.call ?_ hb3) | (with_reducible refine HasBox.call ?_ hb3) | (with_reducible refine Box.call ?_ hb2) | (with_reducible refine HasBox.call ?_ hb2) | (with_reducible refine Box.call ?_ hb1) | (with_reducible refine HasBox.call ?_ hb1))); intro B_w3x_0; obtain ⟨⟨c_w3x_0, d_w3x_0⟩, f_w3x_0, g_w3x_0⟩ := id B_w3x_0; have l_w3x_0 := Box.lt B_w3x_0; have n_w3x_0 := Nat.ne_of_gt (Box.lt B_w3x_0); have m_w3x_0 := Nat.ne_of_lt (Box.lt B_w3x_0))); (try ((refine cutIn (p := Box w3 (w1.heap.size) (.int .u64 0) (.int .u64 0)) ?_ ?_); (repeat (first | with_reducible assumption | (focus ((with_reducible refine Box.new ?_); simp; done)) | (with_reducible refine Box.alloc ?_ _) | (with_reducible refine Box.drew ?_) | (with_reducible refine Box.put ?_) | (focus ((with_reducible refine Box.set ?_ _ ?_); rotate_left; omega)) | (focus ((with_reducible apply HasBox.of); with_reducible assumption)) | (focus ((with_reducible refine HasBox.new ?_); simp; done)) | (with_reducible refine HasBox.set ?_ _ _) | (with_reducible refine HasBox.drew ?_) | (with_reducible refine HasBox.alloc ?_ _) | (with_reducible refine Box.call ?_ hb3) | (with_reducible refine HasBox.call ?_ hb3) | (with_reducible refine Box.call ?_ hb2) | (with_reducible refine HasBox.call ?_ hb2) | (with_reducible refine Box.call ?_ hb1) | (with_reducible refine HasBox.call ?_ hb1))); intro B_w3x_1; obtain ⟨⟨c_w3x_1, d_w3x_1⟩, f_w3x_1, g_w3x_1⟩ := id B_w3x_1; have l_w3x_1 := Box.lt B_w3x_1; have n_w3x_1 := Nat.ne_of_gt (Box.lt B_w3x_1); have m_w3x_1 := Nat.ne_of_lt (Box.lt B_w3x_1))); (try ((refine cutIn (p := Box w3 (w2.heap.size) (.int .u64 0) (.int .u64 0)) ?_ ?_); (repeat (first | with_reducible assumption | (focus ((with_reducible refine Box.new ?_); simp; done)) | (with_reducible refine Box.alloc ?_ _) | (with_reducible refine Box.drew ?_) | (with_reducible refine Box.put ?_) | (focus ((with_reducible refine Box.set ?_ _ ?_); rotate_left; omega)) | (focus ((with_reducible apply HasBox.of); with_reducible assumption)) | (focus ((with_reducible refine HasBox.new ?_); simp; done)) | (with_reducible refine HasBox.set ?_ _ _) | (with_reducible refine HasBox.drew ?_) | (with_reducible refine HasBox.alloc ?_ _) | (with_reducible refine Box.call ?_ hb3) | (with_reducible refine HasBox.call ?_ hb3) | (with_reducible refine Box.call ?_ hb2) | (with_reducible refine HasBox.call ?_ hb2) | (with_reducible refine Box.call ?_ hb1) | (with_reducible refine HasBox.call ?_ hb1))); intro B_w3x_2; obtain ⟨⟨c_w3x_2, d_w3x_2⟩, f_w3x_2, g_w3x_2⟩ := id B_w3x_2; have l_w3x_2 := Box.lt B_w3x_2; have n_w3x_2 := Nat.ne_of_gt (Box.lt B_w3x_2); have m_w3x_2 := Nat.ne_of_lt (Box.lt B_w3x_2))); have hz_hb3 := Below.size hb3; (try simp at hz_hb3); have ne_hb3_0 : ¬ w3.heap.size = w.heap.size := (by omega); have ne_hb3_1 : ¬ w3.heap.size = w.heap.size + 1 := (by omega); have ne_hb3_2 : ¬ w3.heap.size = w.heap.size + 1 + 1 := (by omega); have en_hb3_0 : ¬ w.heap.size = w3.heap.size := (by omega); have en_hb3_1 : ¬ w.heap.size + 1 = w3.heap.size := (by omega); have en_hb3_2 : ¬ w.heap.size + 1 + 1 = w3.heap.size := (by omega); have lt_hb3_0 : w.heap.size < w3.heap.size := (by omega); have lt_hb3_1 : w.heap.size + 1 < w3.heap.size := (by omega); have lt_hb3_2 : w.heap.size + 1 + 1 < w3.heap.size := (by omega))))
    all_goals
      go_wp2_with fail
      go_meet
      refine ⟨_, ph, pl, rfl, rfl, by omega, hp, ?_, ?_, ?_, ?_, ?_, ?_⟩
      · (repeat (first | with_reducible assumption | (focus ((with_reducible refine Box.new ?_); simp; done)) | (with_reducible refine Box.alloc ?_ _) | (with_reducible refine Box.drew ?_) | (with_reducible refine Box.put ?_) | (focus ((with_reducible refine Box.set ?_ _ ?_); rotate_left; omega)) | (focus ((with_reducible apply HasBox.of); with_reducible assumption)) | (focus ((with_reducible refine HasBox.new ?_); simp; done)) | (with_reducible refine HasBox.set ?_ _ _) | (with_reducible refine HasBox.drew ?_) | (with_reducible refine HasBox.alloc ?_ _) | (with_reducible refine Box.call ?_ hb3) | (with_reducible refine HasBox.call ?_ hb3)))
      · (repeat (first | with_reducible assumption | (focus ((with_reducible refine Box.new ?_); simp; done)) | (with_reducible refine Box.alloc ?_ _) | (with_reducible refine Box.drew ?_) | (with_reducible refine Box.put ?_) | (focus ((with_reducible refine Box.set ?_ _ ?_); rotate_left; omega)) | (focus ((with_reducible apply HasBox.of); with_reducible assumption)) | (focus ((with_reducible refine HasBox.new ?_); simp; done)) | (with_reducible refine HasBox.set ?_ _ _) | (with_reducible refine HasBox.drew ?_) | (with_reducible refine HasBox.alloc ?_ _) | (with_reducible refine Box.call ?_ hb3) | (with_reducible refine HasBox.call ?_ hb3)))
      · (repeat (first | with_reducible assumption | (focus ((with_reducible refine Box.new ?_); simp; done)) | (with_reducible refine Box.alloc ?_ _) | (with_reducible refine Box.drew ?_) | (with_reducible refine Box.put ?_) | (focus ((with_reducible refine Box.set ?_ _ ?_); rotate_left; omega)) | (focus ((with_reducible apply HasBox.of); with_reducible assumption)) | (focus ((with_reducible refine HasBox.new ?_); simp; done)) | (with_reducible refine HasBox.set ?_ _ _) | (with_reducible refine HasBox.drew ?_) | (with_reducible refine HasBox.alloc ?_ _) | (with_reducible refine Box.call ?_ hb3) | (with_reducible refine HasBox.call ?_ hb3)))
      · (repeat (first | with_reducible assumption | (focus ((with_reducible refine Box.new ?_); simp; done)) | (with_reducible refine Box.alloc ?_ _) | (with_reducible refine Box.drew ?_) | (with_reducible refine Box.put ?_) | (focus ((with_reducible refine Box.set ?_ _ ?_); rotate_left; omega)) | (focus ((with_reducible apply HasBox.of); with_reducible assumption)) | (focus ((with_reducible refine HasBox.new ?_); simp; done)) | (with_reducible refine HasBox.set ?_ _ _) | (with_reducible refine HasBox.drew ?_) | (with_reducible refine HasBox.alloc ?_ _) | (with_reducible refine Box.call ?_ hb3) | (with_reducible refine HasBox.call ?_ hb3)))
      · first | (simp; done) | (simp; omega)
      · (repeat (first | (with_reducible exact Below.refl _ _) | with_reducible assumption | (with_reducible refine below_alloc ?_ _) | (focus ((with_reducible refine below_set ?_ _ _ _ ?_); rotate_left; omega)) | (with_reducible refine Below.drew ?_) | (with_reducible refine below_call ?_ hb3) | (with_reducible refine below_call ?_ hb2) | (with_reducible refine below_call ?_ hb1)))
  case rest =>
    obtain ⟨g, ph, pl, rfl, rfl, hg, hp, ⟨q1, q2⟩, ⟨q3, q4⟩, ⟨q5, q6⟩, ⟨q7, q8⟩, hz, hb⟩ := hcut
    have ng0 : ¬ g = w.heap.size := by omega
    have ng1 : ¬ g = w.heap.size + 1 := by omega
    have ng2 : ¬ g = w.heap.size + 1 + 1 := by omega
    obtain ⟨q1a, q1b⟩ := q1; obtain ⟨q2a, q2b⟩ := q2; obtain ⟨q3a, q3b⟩ := q3; obtain ⟨q4a, q4b⟩ := q4; obtain ⟨q5a, q5b⟩ := q5; obtain ⟨q6a, q6b⟩ := q6; obtain ⟨q7a, q7b⟩ := q7; obtain ⟨q8a, q8b⟩ := q8
    have hz0 : w.heap.size + 1 + 1 < wc.heap.size := by omega
    have hover := sign_over H1 H2
    generalize hP : (n.natAbs : Int) * (m.natAbs : Int) = P at *
    have HP := Lib.hid hP.symm
    have HO := Lib.hid hover
    clear hP hover
    by_cases hf : fitS P = true
    · rw [if_pos hf] at hp
      go_wp2_with (go_at_call 74; ((with_reducible refine (signed_prod _ H1 H2 HP hp).mono ?_); rintro e w4 ⟨rh, rl, rfl, hr, hb4⟩; have B4 : Box w4 (w.heap.size + 1 + 1) (.int .i64 0) (.int .u64 0) := Box.call ⟨⟨q7a, q7b⟩, q8a, q8b⟩ hb4; obtain ⟨⟨c4, d4⟩, f4, g4⟩ := id B4))
      refine bodyPost_ret (v := .tuple #[.agg #[.int .i64 rh, .int .u64 rl], .bool (fits (n * m))]) (by simp only [results, Try.results64]; go_simp) rfl ⟨rh, rl, rfl, hr, ?_⟩
      refine below_set (below_set (below_call hb hb4) _ _ _ (by omega)) _ _ _ (by omega)
    · have hf' : fitS P = false := by simpa using hf
      have hm := Lib.hid (HO.out hf')
      clear hf
      go_wp2
      refine bodyPost_ret (v := .tuple #[.agg #[.int .i64 0, .int .u64 0], .bool false]) (by simp only [results, Try.results64]; go_simp) rfl (rwf_no hm.out ?_)
      refine below_set (below_set hb _ _ _ (by omega)) _ _ _ (by omega)
end Go.Proofs.Ytlhgmlebjnkonaa
namespace Go.Proofs.Ytlhgmlebjnkonaa
open Go.RowKit
set_option linter.unusedVariables false

theorem times_fits {n m : Int} (h0 : -9223372036854775808 ≤ n) (h1 : n < 9223372036854775808) (k0 : -9223372036854775808 ≤ m) (k1 : m < 9223372036854775808) : fits (n * m) = true := by
  have a : n.natAbs ≤ 9223372036854775808 := by omega
  have b : m.natAbs ≤ 9223372036854775808 := by omega
  have c := Nat.mul_le_mul a b
  rw [← Int.natAbs_mul] at c
  unfold fits
  rw [decide_eq_true_eq]
  omega
set_option maxHeartbeats 1000000 in
theorem Times_any (n m : Int) (w : World) (h0 : -9223372036854775808 ≤ n) (h1 : n < 9223372036854775808) (k0 : -9223372036854775808 ≤ m) (k1 : m < 9223372036854775808) :
    Calls Try.prog 50 #[.int .i64 n, .int .i64 m] w (RW (n * m) w) := by
  have HT := Lib.hid (times_fits h0 h1 k0 k1)
  go_enter Try.func50, Try.ntmps50
  go_wp2_with fail
  refine (Of_any n _ h0 h1).mono ?_
  rintro e w1 ⟨a1, b1, rfl, hn, hb1⟩
  go_wp2_with fail
  refine (Of_any m _ k0 k1).mono ?_
  rintro e w2 ⟨a2, b2, rfl, hm, hb2⟩
  go_wp2_with fail
  refine (Mul_any _ _ _ _ _ _ _ hn hm).mono ?_
  rintro e w3 ⟨a3, b3, rfl, hp, hb3⟩
  rw [if_pos HT.out] at hp
  have B_w3_0 : Box w3 (w.heap.size) (.int .i64 0) (.int .u64 0) := (by (repeat (first | with_reducible assumption | (focus ((with_reducible refine Box.new ?_); simp; done)) | (with_reducible refine Box.alloc ?_ _) | (with_reducible refine Box.drew ?_) | (with_reducible refine Box.put ?_) | (focus ((with_reducible refine Box.set ?_ _ ?_); rotate_left; omega)) | (focus ((with_reducible apply HasBox.of); with_reducible assumption)) | (focus ((with_reducible refine HasBox.new ?_); simp; done)) | (with_reducible refine HasBox.set ?_ _ _) | (with_reducible refine HasBox.drew ?_) | (with_reducible refine HasBox.alloc ?_ _) | (with_reducible refine Box.call ?_ hb3) | (with_reducible refine HasBox.call ?_ hb3) | (with_reducible refine Box.call ?_ hb2) | (with_reducible refine HasBox.call ?_ hb2) | (with_reducible refine Box.call ?_ hb1) | (with_reducible refine HasBox.call ?_ hb1)))); obtain ⟨⟨c_w3_0, d_w3_0⟩, f_w3_0, g_w3_0⟩ := id B_w3_0; have hz_hb1 := Below.size hb1; (try simp at hz_hb1); have ne_hb1_0 : ¬ w1.heap.size = w.heap.size := (by omega); have en_hb1_0 : ¬ w.heap.size = w1.heap.size := (by omega); have lt_hb1_0 : w.heap.size < w1.heap.size := (by omega); have hz_hb2 := Below.size hb2; (try simp at hz_hb2); have ne_hb2_0 : ¬ w2.heap.size = w.heap.size := (by omega); have en_hb2_0 : ¬ w.heap.size = w2.heap.size := (by omega); have lt_hb2_0 : w.heap.size < w2.heap.size := (by omega); have hz_hb3 := Below.size hb3; (try simp at hz_hb3); have ne_hb3_0 : ¬ w3.heap.size = w.heap.size := (by omega); have en_hb3_0 : ¬ w.heap.size = w3.heap.size := (by omega); have lt_hb3_0 : w.heap.size < w3.heap.size := (by omega)
  go_wp2
  refine bodyPost_ret (v := .agg #[.int .i64 a3, .int .u64 b3]) (by simp only [results, Try.results50]; go_simp) rfl ⟨_, _, rfl, hp, ?_⟩
  (repeat (first | (with_reducible exact Below.refl _ _) | with_reducible assumption | (with_reducible refine below_alloc ?_ _) | (focus ((with_reducible refine below_set ?_ _ _ _ ?_); rotate_left; omega)) | (with_reducible refine Below.drew ?_) | (with_reducible refine below_call ?_ hb3) | (with_reducible refine below_call ?_ hb2) | (with_reducible refine below_call ?_ hb1)))
theorem abs_pow (n : Int) (k : Nat) : ((n * 2 ^ k).natAbs : Int) = (n.natAbs : Int) * 2 ^ k := by
  rw [Int.natAbs_mul, Int.natAbs_pow, Int.natCast_mul]
  simp
theorem shl_over {n k : Int} {len : Nat} (h : IsLen n.natAbs len) (h0 : n ≠ 0) (hk : 0 ≤ k) (ho : 128 - (len : Int) < k) : fits (n * 2 ^ k.toNat) = false := by
  have h1 := len_over h (by omega) (show 128 < k.toNat + len by omega)
  have h2 := abs_pow n k.toNat
  rw [show (n.natAbs : Int) * 2 ^ k.toNat = ((n.natAbs * 2 ^ k.toNat : Nat) : Int) by simp] at h2
  unfold fits
  rw [decide_eq_false_iff_not]
  omega
theorem shl_under {n k : Int} {len : Nat} (h : IsLen n.natAbs len) (h0 : n ≠ 0) (hk : 0 ≤ k) (ho : k ≤ 128 - (len : Int)) : k < 128 ∧ (n.natAbs : Int) * 2 ^ k.toNat < 340282366920938463463374607431768211456 := by
  have h1 := len_under h (show k.toNat + len ≤ 128 by omega)
  rw [show (n.natAbs : Int) * 2 ^ k.toNat = ((n.natAbs * 2 ^ k.toNat : Nat) : Int) by simp]
  refine ⟨?_, by omega⟩
  rcases h with h | h <;> omega
theorem sign_pow {h1 l1 n : Int} (k : Nat) (H1 : IsW h1 l1 n) : (if decide (h1 < 0) = true then -((n.natAbs : Int) * 2 ^ k) else (n.natAbs : Int) * 2 ^ k) = n * 2 ^ k := by
  have k1 := H1.neg
  rcases Int.lt_or_le n 0 with a | a
  · obtain ⟨x, rfl⟩ : ∃ x : Nat, n = -(x : Int) := ⟨n.natAbs, by omega⟩
    rw [if_pos (decide_eq_true (k1.2 a)), Int.natAbs_neg, Int.natAbs_natCast, Int.neg_mul]
  · obtain ⟨x, rfl⟩ : ∃ x : Nat, n = (x : Int) := ⟨n.natAbs, by omega⟩
    rw [if_neg (by simp; omega), Int.natAbs_natCast]
theorem signed_pow {h1 l1 n ph pl P : Int} {k : Nat} (w : World) (H1 : IsW h1 l1 n) (e : Hid (P = (n.natAbs : Int) * 2 ^ k)) (hp : IsS ph pl P) :
    Calls Try.prog 74 #[.agg #[.int .u64 ph, .int .u64 pl], .bool (decide (h1 < 0))] w (RWF (n * 2 ^ k) w) := by
  rw [← sign_pow k H1, ← e.out]
  exact signed_any ph pl P _ w hp
end Go.Proofs.Ytlhgmlebjnkonaa
namespace Go.Proofs.Ytlhgmlebjnkonaa
open Go.RowKit
set_option linter.unusedVariables false

/-- the library's law, the slot that is written told beside it. -/
theorem takeH {P : Program} {ops : Array Oper} {Q : Exit → Act → World → Prop} {md : Region.Mode} {S : World → Prop} {i t : Nat} {oi : Oper} {v : Value} {fuel : Nat} {listed : Array Bool} {a : Act} {w : World} (hi : ops[i]? = some oi) (hd : oi.dst = some t)
    (hs : Region.noSelect ops = true) (hf : Region.free md ops listed i = true) (hr : (Region.ready md ops listed).contains i = true)
    (hQ : ∀ c a w, Q (.panic c) (a.put oi.dst v) w → Q (.panic c) a w) (hy : YieldsIf P ops S oi v a) (hS : S w)
    (h : wpAnyH P md ops Q S fuel (listed.setIfInBounds i true) (a.put (some t) v) w) : wpAnyH P md ops Q S (fuel + 1) listed a w :=
  wpAnyH_take hi hs hf hr hQ hy hS (by rw [hd]; exact h)
end Go.Proofs.Ytlhgmlebjnkonaa
