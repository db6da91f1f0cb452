/-
  Decimal digits, in two parts. My own text; no program is named.
-/
import Derived.Lib.ItoaNum
import Derived.Lib.Repeat
namespace Go.Proofs.YtljkapolljgbiaaDoor
open Go.Lib
set_option linter.unusedVariables false

/-- the k lowest digits of v. -/
def padD : Nat → Nat → List UInt8
  | 0, _ => []
  | k + 1, v => padD k (v / 10) ++ [UInt8.ofNat (48 + v % 10)]
theorem dec_step {u : Nat} (h : ¬ u < 10) : decDigits u = decDigits (u / 10) ++ [UInt8.ofNat (48 + u % 10)] := by rw [decDigits, dif_neg h]
theorem dec_pad : ∀ (k u v : Nat), 1 ≤ u → v < 10 ^ k → decDigits (u * 10 ^ k + v) = decDigits u ++ padD k v
  | 0, u, v, hu, hv => by
    have : v = 0 := by simpa using hv
    subst this
    simp [padD]
  | k + 1, u, v, hu, hv => by
    rw [Nat.pow_succ] at hv
    have hp : 1 ≤ 10 ^ k := Nat.one_le_pow _ _ (by decide)
    have hq : 1 ≤ u * 10 ^ k := Nat.mul_le_mul hu hp
    have e : u * 10 ^ (k + 1) = u * 10 ^ k * 10 := by rw [Nat.pow_succ, Nat.mul_assoc]
    rw [e, dec_step (by omega), show (u * 10 ^ k * 10 + v) / 10 = u * 10 ^ k + v / 10 by omega, show (u * 10 ^ k * 10 + v) % 10 = v % 10 by omega, dec_pad k u (v / 10) hu (by omega), padD, List.append_assoc]
theorem rep_end (c : Nat) : repeatL [48] c ++ [48] = repeatL [48] (c + 1) := by
  induction c with
  | zero => rfl
  | succ c ih => rw [repeatL, List.append_assoc, ih]; rfl
theorem pad_zero : ∀ k, padD k 0 = repeatL [48] k
  | 0 => rfl
  | k + 1 => by rw [padD, Nat.zero_div, pad_zero k, ← rep_end k]; rfl
theorem pad_dec : ∀ (k v : Nat), 1 ≤ k → v < 10 ^ k → padD k v = repeatL [48] (k - nDigits v) ++ decDigits v ∧ nDigits v ≤ k
  | k + 1, v, _, hv => by
    by_cases h : v < 10
    · rw [padD, show v / 10 = 0 by omega, pad_zero, nDigits_small h, decDigits_one h, show v % 10 = v by omega]
      exact ⟨by simp, by omega⟩
    · rw [Nat.pow_succ] at hv
      have hk : 1 ≤ k := by
        rcases Nat.eq_zero_or_pos k with rfl | h'
        · simp at hv; omega
        · exact h'
      obtain ⟨i1, i2⟩ := pad_dec k (v / 10) hk (by omega)
      rw [padD, i1, nDigits_big h, dec_step h, List.append_assoc, show k + 1 - (nDigits (v / 10) + 1) = k - nDigits (v / 10) by omega]
      exact ⟨rfl, by omega⟩
/-- a number of more than 19 digits: the upper ones, noughts, the lower ones. -/
theorem dec_two (u v : Nat) (hu : 1 ≤ u) (hv : v < 10000000000000000000) : decDigits (u * 10000000000000000000 + v) = decDigits u ++ repeatL [48] (19 - nDigits v) ++ decDigits v ∧ nDigits v ≤ 19 := by
  have e : (10 : Nat) ^ 19 = 10000000000000000000 := by decide
  have h1 := dec_pad 19 u v hu
  have h2 := pad_dec 19 v (by omega)
  rw [e] at h1 h2
  obtain ⟨h3, h4⟩ := h2 hv
  rw [h1 hv, h3, List.append_assoc]
  exact ⟨rfl, h4⟩
end Go.Proofs.YtljkapolljgbiaaDoor
