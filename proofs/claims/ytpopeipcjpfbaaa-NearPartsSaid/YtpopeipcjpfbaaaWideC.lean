/-
  Contracts of package wide: sizes, that is, numbers of 128 bits without a sign. My own text.
  Plain arithmetic for numbers of 128 bits: shifts, lengths. My own text; no program is named.
  Contracts of package wide: products and shifts of sizes. My own text.
  Contracts of package wide: products, shifts. My own text.
  Contracts of package wide: products of small numbers, shifts. My own text.
  A step of a drawn region, taken by hand; Shl at every shift that is not below 0. My own text.
-/
import Derived.Test.YtpopeipcjpfbaaaWideA
import Derived.WalkKit
import Derived.Lib.ItoaNum
import Derived.Deep.RegionHeld3
import Derived.Deep.DeepCutAuto
namespace Go.Proofs.Ytpopeipcjpfbaaa
open Go.RowKit
set_option linter.unusedVariables false

theorem IsS.conv {H L n m : Int} (h : IsS H L n) (e : n = m) : IsS H L m := e ▸ h
theorem size_pos {h l n : Int} (H : IsW h l n) (k : 0 ≤ h) : IsS (IntKind.u64.wrap h) l n.natAbs := by
  obtain ⟨b1, b2, rfl⟩ := H
  unfold IsS
  rw [IntKind.wrap_u64]
  omega
theorem size_neg {h l n a b : Int} (H : IsW h l n) (K : IsW a b (wr (0 - n))) (k : h < 0) : IsS (IntKind.u64.wrap a) b n.natAbs := by
  obtain ⟨b1, b2, rfl⟩ := H
  obtain ⟨b3, b4, e⟩ := K
  unfold wr at e
  unfold IsS
  rw [IntKind.wrap_u64]
  omega
theorem signed_in {h l n : Int} (H : IsS h l n) : IsW (wrap64 h) l (wr n) := by
  obtain ⟨b1, b2, rfl⟩ := H
  unfold IsW wr wrap64
  omega
theorem sgn_yes {h l n : Int} (H : IsS h l n) (k : eqW h l 0 0 = true ∨ 0 ≤ wrap64 h) : fits n = true ∧ IsW (wrap64 h) l n := by
  rw [H.eqW isS0, decide_eq_true_eq] at k
  obtain ⟨b1, b2, rfl⟩ := H
  unfold fits IsW wrap64 at *
  rw [decide_eq_true_eq]
  omega
theorem sgn_no {h l n : Int} (H : IsS h l n) (j : eqW h l 0 0 = false) (k : wrap64 h < 0) : fits n = false := by
  rw [H.eqW isS0, decide_eq_false_iff_not] at j
  obtain ⟨b1, b2, rfl⟩ := H
  unfold fits wrap64 at *
  rw [decide_eq_false_iff_not]
  omega
theorem sgm_yes {h l n a b : Int} (H : IsS h l n) (K : IsW a b (wr (0 - wr n))) (k : eqW h l 0 0 = true ∨ a < 0) : fits (-n) = true ∧ IsW a b (-n) := by
  rw [H.eqW isS0, decide_eq_true_eq] at k
  obtain ⟨b1, b2, rfl⟩ := H
  obtain ⟨b3, b4, e⟩ := K
  unfold wr at e
  unfold fits IsW
  rw [decide_eq_true_eq]
  omega
theorem sgm_no {h l n a b : Int} (H : IsS h l n) (K : IsW a b (wr (0 - wr n))) (j : eqW h l 0 0 = false) (k : 0 ≤ a) : fits (-n) = false := by
  rw [H.eqW isS0, decide_eq_false_iff_not] at j
  obtain ⟨b1, b2, rfl⟩ := H
  obtain ⟨b3, b4, e⟩ := K
  unfold wr at e
  unfold fits
  rw [decide_eq_false_iff_not]
  omega
theorem subS_val (h1 l1 h2 l2 : Int) (b1 : 0 ≤ h1 ∧ h1 < 18446744073709551616) (b2 : 0 ≤ l1 ∧ l1 < 18446744073709551616)
   (b3 : 0 ≤ h2 ∧ h2 < 18446744073709551616) (b4 : 0 ≤ l2 ∧ l2 < 18446744073709551616) (hle : h2 * 18446744073709551616 + l2 ≤ h1 * 18446744073709551616 + l1) :
   IsS ((h1 - h2 - -((l1 - l2 - 0) / 18446744073709551616)) % 18446744073709551616) ((l1 - l2 - 0) % 18446744073709551616) ((h1 * 18446744073709551616 + l1) - (h2 * 18446744073709551616 + l2)) := by
  unfold IsS
  omega
end Go.Proofs.Ytpopeipcjpfbaaa
namespace Go.Proofs.Ytpopeipcjpfbaaa
set_option linter.unusedVariables false

/-- how many bits n needs. -/
def IsLen (n len : Nat) : Prop := (n = 0 ∧ len = 0) ∨ (1 ≤ len ∧ len ≤ 128 ∧ 2 ^ (len - 1) ≤ n ∧ n < 2 ^ len)
theorem two64 : (2 : Nat) ^ 64 = 18446744073709551616 := by decide
theorem two128 : (2 : Nat) ^ 128 = 340282366920938463463374607431768211456 := by decide
theorem len_lo (l : Nat) (h : l < 18446744073709551616) : IsLen l (Lib.bitLen l) := by
  by_cases e : l = 0
  · subst e
    exact .inl ⟨rfl, Lib.bitLenAux_zero 64⟩
  · obtain ⟨a, b, c⟩ := Lib.bitLenAux_bounds 64 l (by rw [two64]; exact h) e
    have d : Lib.bitLen l ≤ 64 := Lib.bitLen_le l 64 (Nat.le_refl _) (by rw [two64]; exact h)
    exact .inr ⟨a, by omega, b, c⟩
theorem len_hi (h l : Nat) (h0 : h ≠ 0) (hh : h < 18446744073709551616) (hl : l < 18446744073709551616) : IsLen (h * 18446744073709551616 + l) (64 + Lib.bitLen h) ∧ Lib.bitLen h ≤ 64 := by
  obtain ⟨a, b, c⟩ := Lib.bitLenAux_bounds 64 h (by rw [two64]; exact hh) h0
  have d : Lib.bitLen h ≤ 64 := Lib.bitLen_le h 64 (Nat.le_refl _) (by rw [two64]; exact hh)
  have e : Lib.bitLenAux 64 h = Lib.bitLen h := rfl
  rw [e] at a b c
  refine ⟨.inr ⟨by omega, by omega, ?_, ?_⟩, d⟩
  · rw [show 64 + Lib.bitLen h - 1 = (Lib.bitLen h - 1) + 64 by omega, Nat.pow_add, two64]
    generalize 2 ^ (Lib.bitLen h - 1) = P at *
    omega
  · rw [show 64 + Lib.bitLen h = Lib.bitLen h + 64 by omega, Nat.pow_add, two64]
    generalize 2 ^ Lib.bitLen h = P at *
    omega
theorem len_le {n len : Nat} (h : IsLen n len) : len ≤ 128 := by rcases h with h | h <;> omega
/-- too long to be shifted so far. -/
theorem len_over {n len k : Nat} (h : IsLen n len) (h0 : n ≠ 0) (hk : 128 < k + len) : 340282366920938463463374607431768211456 ≤ n * 2 ^ k := by
  rcases h with h | ⟨a, b, c, d⟩
  · omega
  · have h1 := Nat.mul_le_mul_right (2 ^ k) c
    rw [← Nat.pow_add] at h1
    have h2 : 2 ^ 128 ≤ 2 ^ (len - 1 + k) := Nat.pow_le_pow_right (by decide) (by omega)
    rw [two128] at h2
    omega
theorem len_under {n len k : Nat} (h : IsLen n len) (hk : k + len ≤ 128) : n * 2 ^ k < 340282366920938463463374607431768211456 := by
  rcases h with ⟨rfl, rfl⟩ | ⟨a, b, c, d⟩
  · simp
  · have h1 := Nat.mul_lt_mul_of_pos_right d (Nat.two_pow_pos k)
    rw [← Nat.pow_add] at h1
    have h2 : 2 ^ (len + k) ≤ 2 ^ 128 := Nat.pow_le_pow_right (by decide) (by omega)
    rw [two128] at h2
    omega
/-- a size shifted by fewer than 64 bits, nothing going past the end: its halves. -/
theorem shl_lo_nat (h l k : Nat) (hl : l < 18446744073709551616) (hk : k < 64) (hb : (h * 18446744073709551616 + l) * 2 ^ k < 340282366920938463463374607431768211456) :
    h * 2 ^ k < 18446744073709551616 ∧ l / 2 ^ (64 - k) < 2 ^ k ∧ h * 2 ^ k + l / 2 ^ (64 - k) < 18446744073709551616 ∧
    (h * 18446744073709551616 + l) * 2 ^ k = (h * 2 ^ k + l / 2 ^ (64 - k)) * 18446744073709551616 + (l * 2 ^ k) % 18446744073709551616 := by
  have pq : 2 ^ k * 2 ^ (64 - k) = 18446744073709551616 := by rw [← Nat.pow_add, show k + (64 - k) = 64 by omega, two64]
  have pp : 0 < 2 ^ k := Nat.two_pow_pos k
  have qp : 0 < 2 ^ (64 - k) := Nat.two_pow_pos _
  generalize 2 ^ k = p at *
  generalize 2 ^ (64 - k) = q at *
  have hd : l / q < p := by rw [Nat.div_lt_iff_lt_mul qp, pq]; exact hl
  have e1 : l * p = 18446744073709551616 * (l / q) + p * (l % q) := by
    conv => lhs; rw [← Nat.div_add_mod l q]
    rw [Nat.add_mul, ← pq, Nat.mul_comm (l % q) p, Nat.mul_assoc p q, Nat.mul_comm (q * (l / q)) p]
  have e2 : p * (l % q) < 18446744073709551616 := by rw [← pq]; exact Nat.mul_lt_mul_of_pos_left (Nat.mod_lt _ qp) pp
  have e3 : (l * p) % 18446744073709551616 = p * (l % q) := by rw [e1, Nat.mul_add_mod, Nat.mod_eq_of_lt e2]
  have e4 : (h * 18446744073709551616 + l) * p = h * p * 18446744073709551616 + l * p := by rw [Nat.add_mul, Nat.mul_right_comm]
  rw [e4] at hb
  refine ⟨by omega, hd, by omega, ?_⟩
  rw [e4, e3, Nat.add_mul]
  omega
theorem or_nat (h l k : Nat) (h1 : h * 2 ^ k < 18446744073709551616) (h2 : l < 2 ^ k) (h3 : h * 2 ^ k + l < 18446744073709551616) :
    bits .or .u64 ((h * 2 ^ k : Nat) : Int) (l : Int) = ((h * 2 ^ k + l : Nat) : Int) := by
  rw [bits_or_u64_nat _ _ h1 (by omega), Nat.mul_comm h, ← Nat.two_pow_add_eq_or_of_lt h2]
/-- the same at numbers with signs, as the walk spells them. -/
theorem shl_lo_val (h l k : Int) (bh : 0 ≤ h) (bl : 0 ≤ l ∧ l < 18446744073709551616) (bk : 0 ≤ k ∧ k < 64) (hb : (h * 18446744073709551616 + l) * 2 ^ k.toNat < 340282366920938463463374607431768211456) :
    ∃ H, bits .or .u64 (IntKind.u64.wrap (h * 2 ^ k.toNat)) (l / 2 ^ (64 - k).toNat) = H ∧ (0 ≤ H ∧ H < 18446744073709551616) ∧ (h * 18446744073709551616 + l) * 2 ^ k.toNat = H * 18446744073709551616 + IntKind.u64.wrap (l * 2 ^ k.toNat) := by
  obtain ⟨a, rfl⟩ := Int.eq_ofNat_of_zero_le bh
  obtain ⟨b, rfl⟩ := Int.eq_ofNat_of_zero_le bl.1
  obtain ⟨c, rfl⟩ := Int.eq_ofNat_of_zero_le bk.1
  have bc : c < 64 := by omega
  rw [show (64 - (c : Int)).toNat = 64 - c by omega, Int.toNat_natCast] at *
  have hb' : (a * 18446744073709551616 + b) * 2 ^ c < 340282366920938463463374607431768211456 := by
    have e : ((a : Int) * 18446744073709551616 + b) * 2 ^ c = (((a * 18446744073709551616 + b) * 2 ^ c : Nat) : Int) := by simp
    rw [e] at hb
    omega
  obtain ⟨s1, s2, s3, s4⟩ := shl_lo_nat a b c (by omega) bc hb'
  have w1 : IntKind.u64.wrap ((a : Int) * 2 ^ c) = ((a * 2 ^ c : Nat) : Int) := by
    rw [show (a : Int) * 2 ^ c = ((a * 2 ^ c : Nat) : Int) by simp, IntKind.wrap_u64]
    omega
  have w2 : (b : Int) / 2 ^ (64 - c) = ((b / 2 ^ (64 - c) : Nat) : Int) := by simp
  have w3 : IntKind.u64.wrap ((b : Int) * 2 ^ c) = ((b * 2 ^ c % 18446744073709551616 : Nat) : Int) := by
    rw [show (b : Int) * 2 ^ c = ((b * 2 ^ c : Nat) : Int) by simp, IntKind.wrap_u64]
    omega
  refine ⟨_, rfl, ?_, ?_⟩
  · rw [w1, w2, or_nat _ _ _ s1 s2 s3]
    omega
  · rw [w1, w2, or_nat _ _ _ s1 s2 s3, w3]
    rw [show ((a : Int) * 18446744073709551616 + b) * 2 ^ c = (((a * 18446744073709551616 + b) * 2 ^ c : Nat) : Int) by simp, s4]
    omega
theorem shl_hi_val (h l k : Int) (bh : 0 ≤ h) (bl : 0 ≤ l) (bk : 64 ≤ k) (hb : (h * 18446744073709551616 + l) * 2 ^ k.toNat < 340282366920938463463374607431768211456) :
    (0 ≤ IntKind.u64.wrap (l * 2 ^ (k - 64).toNat) ∧ IntKind.u64.wrap (l * 2 ^ (k - 64).toNat) < 18446744073709551616) ∧ (h * 18446744073709551616 + l) * 2 ^ k.toNat = IntKind.u64.wrap (l * 2 ^ (k - 64).toNat) * 18446744073709551616 + 0 := by
  obtain ⟨a, rfl⟩ := Int.eq_ofNat_of_zero_le bh
  obtain ⟨b, rfl⟩ := Int.eq_ofNat_of_zero_le bl
  obtain ⟨c, rfl⟩ : ∃ c : Nat, k = c + 64 := ⟨(k - 64).toNat, by omega⟩
  rw [show ((c : Int) + 64 - 64).toNat = c by omega, show ((c : Int) + 64).toNat = c + 64 by omega] at *
  have e : ((a : Int) * 18446744073709551616 + b) * 2 ^ (c + 64) = (((a * 18446744073709551616 + b) * 2 ^ c * 18446744073709551616 : Nat) : Int) := by
    rw [Int.pow_add, ← Int.mul_assoc]
    simp
  rw [e] at hb ⊢
  rw [show (b : Int) * 2 ^ c = ((b * 2 ^ c : Nat) : Int) by simp, IntKind.wrap_u64]
  have hp : 0 < 2 ^ c := Nat.two_pow_pos c
  have ha : a = 0 := by
    rcases Nat.eq_zero_or_pos a with h | h
    · exact h
    · exfalso
      have h1 : 18446744073709551616 * 1 ≤ (a * 18446744073709551616 + b) * 2 ^ c := Nat.mul_le_mul (by omega) hp
      omega
  subst ha
  rw [Nat.zero_mul, Nat.zero_add] at *
  omega
end Go.Proofs.Ytpopeipcjpfbaaa
namespace Go.Proofs.Ytpopeipcjpfbaaa
open Go.RowKit
set_option linter.unusedVariables false

def RMul (n : Int) (w : World) (e : Ending) (w' : World) : Prop := ∃ H L, e = .returned (.tuple #[.int .u64 H, .int .u64 L]) ∧ IsS H L n ∧ w = w'
theorem mul64_lt {x y : Nat} (hx : x < 18446744073709551616) (hy : y < 18446744073709551616) : x * y < 18446744073709551616 * 18446744073709551616 := Nat.mul_lt_mul'' hx hy
def fitS (n : Int) : Bool := decide (n < 340282366920938463463374607431768211456)
def RSF (n : Int) (w : World) (e : Ending) (w' : World) : Prop := ∃ H L, e = .returned (.tuple #[.agg #[.int .u64 H, .int .u64 L], .bool (fitS n)]) ∧ IsS H L (if fitS n then n else 0) ∧ Below w.heap.size w w'
theorem rsf_yes {n H L : Int} {w w' : World} (h : fitS n = true) (k : IsS H L n) (b : Below w.heap.size w w') : RSF n w (.returned (.tuple #[.agg #[.int .u64 H, .int .u64 L], .bool true])) w' := ⟨H, L, by rw [h], by rw [h]; exact k, b⟩
theorem rsf_no {n : Int} {w w' : World} (h : fitS n = false) (b : Below w.heap.size w w') : RSF n w (.returned (.tuple #[.agg #[.int .u64 0, .int .u64 0], .bool false])) w' := ⟨0, 0, by rw [h], by rw [h]; exact isS0, b⟩
theorem both_no {h1 l1 n h2 l2 m : Int} (H1 : IsS h1 l1 n) (H2 : IsS h2 l2 m) (k1 : h1 ≠ 0) (k2 : h2 ≠ 0) : fitS (n * m) = false := by
  obtain ⟨b1, b2, e1⟩ := H1
  obtain ⟨b3, b4, e2⟩ := H2
  have hn : 18446744073709551616 ≤ n := by omega
  have hm : 18446744073709551616 ≤ m := by omega
  have h := Int.mul_le_mul hn hm (by omega) (by omega)
  unfold fitS
  rw [decide_eq_false_iff_not]
  omega
theorem isS_zero {a b : Int} (h : IsS a b 0) : a = 0 ∧ b = 0 := by
  obtain ⟨b1, b2, e⟩ := h
  omega
theorem mulS_end {o u q hi lo p N : Int} (A : IsS o u q) (C : IsS hi lo p) (e : N = q * 18446744073709551616 + p) :
    (¬ o = 0 → fitS N = false) ∧ (o = 0 → ((hi + u) / 18446744073709551616 != 0) = true → fitS N = false) ∧
    (o = 0 → ((hi + u) / 18446744073709551616 != 0) = false → fitS N = true ∧ IsS ((hi + u) % 18446744073709551616) lo N) := by
  obtain ⟨a1, a2, rfl⟩ := A
  obtain ⟨b1, b2, rfl⟩ := C
  unfold fitS IsS
  simp only [bne_iff_ne, bne_eq_false_iff_eq, decide_eq_true_eq, decide_eq_false_iff_not]
  omega
theorem or0 (x : Int) (h : 0 ≤ x ∧ x < 18446744073709551616) : bits .or .u64 0 x = x ∧ bits .or .u64 x 0 = x := by
  obtain ⟨X, rfl⟩ := Int.eq_ofNat_of_zero_le h.1
  have h1 := bits_or_u64_nat 0 X (by omega) (by omega)
  have h2 := bits_or_u64_nat X 0 (by omega) (by omega)
  rw [Nat.zero_or] at h1
  rw [Nat.or_zero] at h2
  exact ⟨h1, h2⟩
def RLen (n : Int) (w : World) (e : Ending) (w' : World) : Prop := ∃ k : Nat, e = .returned (.int .i64 k) ∧ IsLen n.toNat k ∧ Below w.heap.size w w'
theorem bitLen64 (h : Int) (b : 0 ≤ h ∧ h < 18446744073709551616) : Lib.bitLen h.toNat ≤ 64 := Lib.bitLen_le _ 64 (Nat.le_refl _) (by rw [two64]; omega)
end Go.Proofs.Ytpopeipcjpfbaaa
namespace Go.Proofs.Ytpopeipcjpfbaaa
open Go.RowKit
set_option linter.unusedVariables false

theorem sign_mul {h1 l1 n h2 l2 m : Int} (H1 : IsW h1 l1 n) (H2 : IsW h2 l2 m) : (if (!decide (h1 < 0) == decide (h2 < 0)) = true then -((n.natAbs : Int) * (m.natAbs : Int)) else (n.natAbs : Int) * (m.natAbs : Int)) = n * m := by
  have k1 := H1.neg; have k2 := H2.neg
  rcases Int.lt_or_le n 0 with a | a <;> rcases Int.lt_or_le m 0 with b | b
  · obtain ⟨x, rfl⟩ : ∃ x : Nat, n = -(x : Int) := ⟨n.natAbs, by omega⟩
    obtain ⟨y, rfl⟩ : ∃ y : Nat, m = -(y : Int) := ⟨m.natAbs, by omega⟩
    simp [k1.2 a, k2.2 b, Int.neg_mul, Int.mul_neg]
  · obtain ⟨x, rfl⟩ : ∃ x : Nat, n = -(x : Int) := ⟨n.natAbs, by omega⟩
    obtain ⟨y, rfl⟩ : ∃ y : Nat, m = (y : Int) := ⟨m.natAbs, by omega⟩
    have : ¬ h2 < 0 := by omega
    simp [k1.2 a, this, Int.neg_mul]
  · obtain ⟨x, rfl⟩ : ∃ x : Nat, n = (x : Int) := ⟨n.natAbs, by omega⟩
    obtain ⟨y, rfl⟩ : ∃ y : Nat, m = -(y : Int) := ⟨m.natAbs, by omega⟩
    have : ¬ h1 < 0 := by omega
    simp [k2.2 b, this, Int.mul_neg]
  · obtain ⟨x, rfl⟩ : ∃ x : Nat, n = (x : Int) := ⟨n.natAbs, by omega⟩
    obtain ⟨y, rfl⟩ : ∃ y : Nat, m = (y : Int) := ⟨m.natAbs, by omega⟩
    have t1 : ¬ h1 < 0 := by omega
    have t2 : ¬ h2 < 0 := by omega
    simp [t1, t2]
theorem sign_over {h1 l1 n h2 l2 m : Int} (H1 : IsW h1 l1 n) (H2 : IsW h2 l2 m) (h : fitS (n.natAbs * m.natAbs) = false) : fits (n * m) = false := by
  have e : (n.natAbs : Int) * m.natAbs = ((n * m).natAbs : Int) := by rw [Int.natAbs_mul, Int.natCast_mul]
  rw [e] at h
  unfold fitS at h
  unfold fits
  rw [decide_eq_false_iff_not] at *
  omega
def MulCut (w : World) (N : Int) (a b c d : Value) (s6 s7 : Value) (wx : World) : Prop :=
  ∃ (g : Nat) (ph pl : Int), s6 = .pointer (some ⟨g, 0, none⟩) ∧ s7 = .bool (fitS N) ∧ w.heap.size + 3 ≤ g ∧ IsS ph pl (if fitS N then N else 0) ∧
    Box wx g (.int .u64 ph) (.int .u64 pl) ∧ Box wx w.heap.size a b ∧ Box wx (w.heap.size + 1) c d ∧ Box wx (w.heap.size + 1 + 1) (.int .i64 0) (.int .u64 0) ∧ g < wx.heap.size ∧ Below w.heap.size w wx
end Go.Proofs.Ytpopeipcjpfbaaa
namespace Go.Proofs.Ytpopeipcjpfbaaa
open Go.RowKit
set_option linter.unusedVariables false

theorem times_fits {n m : Int} (h0 : -9223372036854775808 ≤ n) (h1 : n < 9223372036854775808) (k0 : -9223372036854775808 ≤ m) (k1 : m < 9223372036854775808) : fits (n * m) = true := by
  have a : n.natAbs ≤ 9223372036854775808 := by omega
  have b : m.natAbs ≤ 9223372036854775808 := by omega
  have c := Nat.mul_le_mul a b
  rw [← Int.natAbs_mul] at c
  unfold fits
  rw [decide_eq_true_eq]
  omega
theorem abs_pow (n : Int) (k : Nat) : ((n * 2 ^ k).natAbs : Int) = (n.natAbs : Int) * 2 ^ k := by
  rw [Int.natAbs_mul, Int.natAbs_pow, Int.natCast_mul]
  simp
theorem shl_over {n k : Int} {len : Nat} (h : IsLen n.natAbs len) (h0 : n ≠ 0) (hk : 0 ≤ k) (ho : 128 - (len : Int) < k) : fits (n * 2 ^ k.toNat) = false := by
  have h1 := len_over h (by omega) (show 128 < k.toNat + len by omega)
  have h2 := abs_pow n k.toNat
  rw [show (n.natAbs : Int) * 2 ^ k.toNat = ((n.natAbs * 2 ^ k.toNat : Nat) : Int) by simp] at h2
  unfold fits
  rw [decide_eq_false_iff_not]
  omega
theorem shl_under {n k : Int} {len : Nat} (h : IsLen n.natAbs len) (h0 : n ≠ 0) (hk : 0 ≤ k) (ho : k ≤ 128 - (len : Int)) : k < 128 ∧ (n.natAbs : Int) * 2 ^ k.toNat < 340282366920938463463374607431768211456 := by
  have h1 := len_under h (show k.toNat + len ≤ 128 by omega)
  rw [show (n.natAbs : Int) * 2 ^ k.toNat = ((n.natAbs * 2 ^ k.toNat : Nat) : Int) by simp]
  refine ⟨?_, by omega⟩
  rcases h with h | h <;> omega
theorem sign_pow {h1 l1 n : Int} (k : Nat) (H1 : IsW h1 l1 n) : (if decide (h1 < 0) = true then -((n.natAbs : Int) * 2 ^ k) else (n.natAbs : Int) * 2 ^ k) = n * 2 ^ k := by
  have k1 := H1.neg
  rcases Int.lt_or_le n 0 with a | a
  · obtain ⟨x, rfl⟩ : ∃ x : Nat, n = -(x : Int) := ⟨n.natAbs, by omega⟩
    rw [if_pos (decide_eq_true (k1.2 a)), Int.natAbs_neg, Int.natAbs_natCast, Int.neg_mul]
  · obtain ⟨x, rfl⟩ : ∃ x : Nat, n = (x : Int) := ⟨n.natAbs, by omega⟩
    rw [if_neg (by simp; omega), Int.natAbs_natCast]
end Go.Proofs.Ytpopeipcjpfbaaa
namespace Go.Proofs.Ytpopeipcjpfbaaa
open Go.RowKit
set_option linter.unusedVariables false

/-- the library's law, the slot that is written told beside it. -/
theorem takeH {P : Program} {ops : Array Oper} {Q : Exit → Act → World → Prop} {md : Region.Mode} {S : World → Prop} {i t : Nat} {oi : Oper} {v : Value} {fuel : Nat} {listed : Array Bool} {a : Act} {w : World} (hi : ops[i]? = some oi) (hd : oi.dst = some t)
    (hs : Region.noSelect ops = true) (hf : Region.free md ops listed i = true) (hr : (Region.ready md ops listed).contains i = true)
    (hQ : ∀ c a w, Q (.panic c) (a.put oi.dst v) w → Q (.panic c) a w) (hy : YieldsIf P ops S oi v a) (hS : S w)
    (h : wpAnyH P md ops Q S fuel (listed.setIfInBounds i true) (a.put (some t) v) w) : wpAnyH P md ops Q S (fuel + 1) listed a w :=
  wpAnyH_take hi hs hf hr hQ hy hS (by rw [hd]; exact h)
end Go.Proofs.Ytpopeipcjpfbaaa
