/-
  Plain arithmetic for numbers of 128 bits: shifts, lengths. My own text; no program is named.
-/
import Derived.WalkKit
import Derived.Lib.ItoaNum
namespace Go.Proofs.Ytinjgiigmlikpaa
set_option linter.unusedVariables false

/-- how many bits n needs. -/
def IsLen (n len : Nat) : Prop := (n = 0 ∧ len = 0) ∨ (1 ≤ len ∧ len ≤ 128 ∧ 2 ^ (len - 1) ≤ n ∧ n < 2 ^ len)
theorem two64 : (2 : Nat) ^ 64 = 18446744073709551616 := by decide
theorem two128 : (2 : Nat) ^ 128 = 340282366920938463463374607431768211456 := by decide
theorem len_lo (l : Nat) (h : l < 18446744073709551616) : IsLen l (Lib.bitLen l) := by
  by_cases e : l = 0
  · subst e
    exact .inl ⟨rfl, Lib.bitLenAux_zero 64⟩
  · obtain ⟨a, b, c⟩ := Lib.bitLenAux_bounds 64 l (by rw [two64]; exact h) e
    have d : Lib.bitLen l ≤ 64 := Lib.bitLen_le l 64 (Nat.le_refl _) (by rw [two64]; exact h)
    exact .inr ⟨a, by omega, b, c⟩
theorem len_hi (h l : Nat) (h0 : h ≠ 0) (hh : h < 18446744073709551616) (hl : l < 18446744073709551616) : IsLen (h * 18446744073709551616 + l) (64 + Lib.bitLen h) ∧ Lib.bitLen h ≤ 64 := by
  obtain ⟨a, b, c⟩ := Lib.bitLenAux_bounds 64 h (by rw [two64]; exact hh) h0
  have d : Lib.bitLen h ≤ 64 := Lib.bitLen_le h 64 (Nat.le_refl _) (by rw [two64]; exact hh)
  have e : Lib.bitLenAux 64 h = Lib.bitLen h := rfl
  rw [e] at a b c
  refine ⟨.inr ⟨by omega, by omega, ?_, ?_⟩, d⟩
  · rw [show 64 + Lib.bitLen h - 1 = (Lib.bitLen h - 1) + 64 by omega, Nat.pow_add, two64]
    generalize 2 ^ (Lib.bitLen h - 1) = P at *
    omega
  · rw [show 64 + Lib.bitLen h = Lib.bitLen h + 64 by omega, Nat.pow_add, two64]
    generalize 2 ^ Lib.bitLen h = P at *
    omega
theorem len_le {n len : Nat} (h : IsLen n len) : len ≤ 128 := by rcases h with h | h <;> omega
/-- too long to be shifted so far. -/
theorem len_over {n len k : Nat} (h : IsLen n len) (h0 : n ≠ 0) (hk : 128 < k + len) : 340282366920938463463374607431768211456 ≤ n * 2 ^ k := by
  rcases h with h | ⟨a, b, c, d⟩
  · omega
  · have h1 := Nat.mul_le_mul_right (2 ^ k) c
    rw [← Nat.pow_add] at h1
    have h2 : 2 ^ 128 ≤ 2 ^ (len - 1 + k) := Nat.pow_le_pow_right (by decide) (by omega)
    rw [two128] at h2
    omega
theorem len_under {n len k : Nat} (h : IsLen n len) (hk : k + len ≤ 128) : n * 2 ^ k < 340282366920938463463374607431768211456 := by
  rcases h with ⟨rfl, rfl⟩ | ⟨a, b, c, d⟩
  · simp
  · have h1 := Nat.mul_lt_mul_of_pos_right d (Nat.two_pow_pos k)
    rw [← Nat.pow_add] at h1
    have h2 : 2 ^ (len + k) ≤ 2 ^ 128 := Nat.pow_le_pow_right (by decide) (by omega)
    rw [two128] at h2
    omega
/-- a size shifted by fewer than 64 bits, nothing going past the end: its halves. -/
theorem shl_lo_nat (h l k : Nat) (hl : l < 18446744073709551616) (hk : k < 64) (hb : (h * 18446744073709551616 + l) * 2 ^ k < 340282366920938463463374607431768211456) :
    h * 2 ^ k < 18446744073709551616 ∧ l / 2 ^ (64 - k) < 2 ^ k ∧ h * 2 ^ k + l / 2 ^ (64 - k) < 18446744073709551616 ∧
    (h * 18446744073709551616 + l) * 2 ^ k = (h * 2 ^ k + l / 2 ^ (64 - k)) * 18446744073709551616 + (l * 2 ^ k) % 18446744073709551616 := by
  have pq : 2 ^ k * 2 ^ (64 - k) = 18446744073709551616 := by rw [← Nat.pow_add, show k + (64 - k) = 64 by omega, two64]
  have pp : 0 < 2 ^ k := Nat.two_pow_pos k
  have qp : 0 < 2 ^ (64 - k) := Nat.two_pow_pos _
  generalize 2 ^ k = p at *
  generalize 2 ^ (64 - k) = q at *
  have hd : l / q < p := by rw [Nat.div_lt_iff_lt_mul qp, pq]; exact hl
  have e1 : l * p = 18446744073709551616 * (l / q) + p * (l % q) := by
    conv => lhs; rw [← Nat.div_add_mod l q]
    rw [Nat.add_mul, ← pq, Nat.mul_comm (l % q) p, Nat.mul_assoc p q, Nat.mul_comm (q * (l / q)) p]
  have e2 : p * (l % q) < 18446744073709551616 := by rw [← pq]; exact Nat.mul_lt_mul_of_pos_left (Nat.mod_lt _ qp) pp
  have e3 : (l * p) % 18446744073709551616 = p * (l % q) := by rw [e1, Nat.mul_add_mod, Nat.mod_eq_of_lt e2]
  have e4 : (h * 18446744073709551616 + l) * p = h * p * 18446744073709551616 + l * p := by rw [Nat.add_mul, Nat.mul_right_comm]
  rw [e4] at hb
  refine ⟨by omega, hd, by omega, ?_⟩
  rw [e4, e3, Nat.add_mul]
  omega
theorem or_nat (h l k : Nat) (h1 : h * 2 ^ k < 18446744073709551616) (h2 : l < 2 ^ k) (h3 : h * 2 ^ k + l < 18446744073709551616) :
    bits .or .u64 ((h * 2 ^ k : Nat) : Int) (l : Int) = ((h * 2 ^ k + l : Nat) : Int) := by
  rw [bits_or_u64_nat _ _ h1 (by omega), Nat.mul_comm h, ← Nat.two_pow_add_eq_or_of_lt h2]
/-- the same at numbers with signs, as the walk spells them. -/
theorem shl_lo_val (h l k : Int) (bh : 0 ≤ h) (bl : 0 ≤ l ∧ l < 18446744073709551616) (bk : 0 ≤ k ∧ k < 64) (hb : (h * 18446744073709551616 + l) * 2 ^ k.toNat < 340282366920938463463374607431768211456) :
    ∃ H, bits .or .u64 (IntKind.u64.wrap (h * 2 ^ k.toNat)) (l / 2 ^ (64 - k).toNat) = H ∧ (0 ≤ H ∧ H < 18446744073709551616) ∧ (h * 18446744073709551616 + l) * 2 ^ k.toNat = H * 18446744073709551616 + IntKind.u64.wrap (l * 2 ^ k.toNat) := by
  obtain ⟨a, rfl⟩ := Int.eq_ofNat_of_zero_le bh
  obtain ⟨b, rfl⟩ := Int.eq_ofNat_of_zero_le bl.1
  obtain ⟨c, rfl⟩ := Int.eq_ofNat_of_zero_le bk.1
  have bc : c < 64 := by omega
  rw [show (64 - (c : Int)).toNat = 64 - c by omega, Int.toNat_natCast] at *
  have hb' : (a * 18446744073709551616 + b) * 2 ^ c < 340282366920938463463374607431768211456 := by
    have e : ((a : Int) * 18446744073709551616 + b) * 2 ^ c = (((a * 18446744073709551616 + b) * 2 ^ c : Nat) : Int) := by simp
    rw [e] at hb
    omega
  obtain ⟨s1, s2, s3, s4⟩ := shl_lo_nat a b c (by omega) bc hb'
  have w1 : IntKind.u64.wrap ((a : Int) * 2 ^ c) = ((a * 2 ^ c : Nat) : Int) := by
    rw [show (a : Int) * 2 ^ c = ((a * 2 ^ c : Nat) : Int) by simp, IntKind.wrap_u64]
    omega
  have w2 : (b : Int) / 2 ^ (64 - c) = ((b / 2 ^ (64 - c) : Nat) : Int) := by simp
  have w3 : IntKind.u64.wrap ((b : Int) * 2 ^ c) = ((b * 2 ^ c % 18446744073709551616 : Nat) : Int) := by
    rw [show (b : Int) * 2 ^ c = ((b * 2 ^ c : Nat) : Int) by simp, IntKind.wrap_u64]
    omega
  refine ⟨_, rfl, ?_, ?_⟩
  · rw [w1, w2, or_nat _ _ _ s1 s2 s3]
    omega
  · rw [w1, w2, or_nat _ _ _ s1 s2 s3, w3]
    rw [show ((a : Int) * 18446744073709551616 + b) * 2 ^ c = (((a * 18446744073709551616 + b) * 2 ^ c : Nat) : Int) by simp, s4]
    omega
theorem shl_hi_val (h l k : Int) (bh : 0 ≤ h) (bl : 0 ≤ l) (bk : 64 ≤ k) (hb : (h * 18446744073709551616 + l) * 2 ^ k.toNat < 340282366920938463463374607431768211456) :
    (0 ≤ IntKind.u64.wrap (l * 2 ^ (k - 64).toNat) ∧ IntKind.u64.wrap (l * 2 ^ (k - 64).toNat) < 18446744073709551616) ∧ (h * 18446744073709551616 + l) * 2 ^ k.toNat = IntKind.u64.wrap (l * 2 ^ (k - 64).toNat) * 18446744073709551616 + 0 := by
  obtain ⟨a, rfl⟩ := Int.eq_ofNat_of_zero_le bh
  obtain ⟨b, rfl⟩ := Int.eq_ofNat_of_zero_le bl
  obtain ⟨c, rfl⟩ : ∃ c : Nat, k = c + 64 := ⟨(k - 64).toNat, by omega⟩
  rw [show ((c : Int) + 64 - 64).toNat = c by omega, show ((c : Int) + 64).toNat = c + 64 by omega] at *
  have e : ((a : Int) * 18446744073709551616 + b) * 2 ^ (c + 64) = (((a * 18446744073709551616 + b) * 2 ^ c * 18446744073709551616 : Nat) : Int) := by
    rw [Int.pow_add, ← Int.mul_assoc]
    simp
  rw [e] at hb ⊢
  rw [show (b : Int) * 2 ^ c = ((b * 2 ^ c : Nat) : Int) by simp, IntKind.wrap_u64]
  have hp : 0 < 2 ^ c := Nat.two_pow_pos c
  have ha : a = 0 := by
    rcases Nat.eq_zero_or_pos a with h | h
    · exact h
    · exfalso
      have h1 : 18446744073709551616 * 1 ≤ (a * 18446744073709551616 + b) * 2 ^ c := Nat.mul_le_mul (by omega) hp
      omega
  subst ha
  rw [Nat.zero_mul, Nat.zero_add] at *
  omega
end Go.Proofs.Ytinjgiigmlikpaa
