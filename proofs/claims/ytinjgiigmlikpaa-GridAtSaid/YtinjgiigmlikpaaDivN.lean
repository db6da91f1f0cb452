/-
  Plain arithmetic of the guess at a quotient by a divisor of more than 64 bits. My own text; no program is named.
-/
import Derived.Test.YtinjgiigmlikpaaDivM
namespace Go.Proofs.Ytinjgiigmlikpaa
set_option linter.unusedVariables false

theorem pow64 (s : Int) (s0 : 0 ≤ s) (s1 : s < 64) : (2 : Int) * 2 ^ (63 - s).toNat * 2 ^ s.toNat = 18446744073709551616 ∧ (0 : Int) < 2 ^ (63 - s).toNat ∧ (0 : Int) < 2 ^ s.toNat := by
  refine ⟨?_, Int.pow_pos (by omega), Int.pow_pos (by omega)⟩
  rw [Int.mul_assoc, ← Int.pow_add, show (63 - s).toNat + s.toNat = 63 by omega]
  decide
/-- the guess is the quotient, or one more. -/
theorem guess_ok (A b s T low : Int) (A0 : 0 ≤ A) (A1 : A ≤ 170141183460469231731687303715884105728) (s0 : 0 ≤ s) (s1 : s < 64) (e : b * 2 ^ s.toNat = T * 18446744073709551616 + low) (l0 : 0 ≤ low) (l1 : low < 18446744073709551616) (T0 : 9223372036854775808 ≤ T) :
    A / b ≤ A / 2 / T / 2 ^ (63 - s).toNat ∧ A / 2 / T / 2 ^ (63 - s).toNat ≤ A / b + 1 ∧ A / 2 / T / 2 ^ (63 - s).toNat ≤ 9223372036854775808 := by
  obtain ⟨p1, p2, p3⟩ := pow64 s s0 s1
  generalize (2 : Int) ^ (63 - s).toNat = c at *
  generalize (2 : Int) ^ s.toNat = p at *
  rw [Int.ediv_ediv_of_nonneg (show (0 : Int) ≤ T by omega), Int.ediv_ediv_of_nonneg (show (0 : Int) ≤ 2 by omega)]
  -- D = T * (2 c); b p = T (2 c p) + low
  have hD : T * (2 * c) * p = T * 18446744073709551616 := by rw [Int.mul_assoc, p1]
  have c2 : 2 ≤ 2 * c := by omega
  have D0 : 18446744073709551616 ≤ T * (2 * c) := by
    have := Int.mul_le_mul T0 c2 (by omega) (by omega)
    omega
  have dle : T * (2 * c) ≤ b := by
    have : T * (2 * c) * p ≤ b * p := by rw [hD, e]; omega
    exact Int.le_of_mul_le_mul_right this p3
  have dlt : b < T * (2 * c) + 2 * c := by
    have : b * p < (T * (2 * c) + 2 * c) * p := by rw [Int.add_mul, hD, p1, e]; omega
    exact Int.lt_of_mul_lt_mul_right this (Int.le_of_lt p3)
  rw [show 2 * (T * c) = T * (2 * c) by rw [← Int.mul_assoc, Int.mul_comm 2 T, Int.mul_assoc]]
  generalize hDD : T * (2 * c) = D at *
  have Dp : 0 < D := by omega
  have bp : 0 < b := by omega
  have g1 : A / D * D ≤ A := Int.ediv_mul_le A (by omega)
  have g0 : 0 ≤ A / D := Int.ediv_nonneg A0 (by omega)
  have gt : A / D ≤ 9223372036854775808 := by
    rcases Int.lt_or_le 9223372036854775808 (A / D) with h | h
    · have := Int.mul_le_mul (show 9223372036854775809 ≤ A / D by omega) D0 (by omega) g0
      omega
    · exact h
  refine ⟨?_, ?_, gt⟩
  · rw [Int.le_ediv_iff_mul_le Dp]
    have h1 : A / b * b ≤ A := Int.ediv_mul_le A (by omega)
    have h2 : A / b * D ≤ A / b * b := Int.mul_le_mul_of_nonneg_left dle (Int.ediv_nonneg A0 (by omega))
    omega
  · have : A / D - 1 ≤ A / b := by
      rw [Int.le_ediv_iff_mul_le bp]
      rcases Int.lt_or_le 0 (A / D) with h | h
      · have h2 : (A / D - 1) * b ≤ (A / D - 1) * (D + 2 * c) := Int.mul_le_mul_of_nonneg_left (by omega) (by omega)
        have h3 : (A / D - 1) * (2 * c) ≤ T * (2 * c) := Int.mul_le_mul_of_nonneg_right (by omega) (by omega)
        rw [Int.mul_add, Int.sub_mul (A / D) 1 D, Int.one_mul] at h2
        omega
      · have h2 : (A / D - 1) * b ≤ 0 := Int.mul_nonpos_of_nonpos_of_nonneg (by omega) (by omega)
        omega
    omega
theorem or63 (h l : Nat) (h1 : h * 9223372036854775808 < 18446744073709551616) (h2 : l < 9223372036854775808) (h3 : h * 9223372036854775808 + l < 18446744073709551616) :
    bits .or .u64 ((h * 9223372036854775808 : Nat) : Int) (l : Int) = ((h * 9223372036854775808 + l : Nat) : Int) := by
  have e := or_nat h l 63
  rw [show (2 : Nat) ^ 63 = 9223372036854775808 by decide] at e
  exact e h1 h2 h3
/-- half of a size, as the program takes it. -/
theorem half_val (h l : Int) (bh : 0 ≤ h ∧ h < 18446744073709551616) (bl : 0 ≤ l ∧ l < 18446744073709551616) :
    ∃ L, bits .or .u64 (IntKind.u64.wrap (h * 9223372036854775808)) (l / 2) = L ∧ (0 ≤ L ∧ L < 18446744073709551616) ∧ h / 2 * 18446744073709551616 + L = (h * 18446744073709551616 + l) / 2 := by
  obtain ⟨a, rfl⟩ := Int.eq_ofNat_of_zero_le bh.1
  obtain ⟨b, rfl⟩ := Int.eq_ofNat_of_zero_le bl.1
  have w1 : IntKind.u64.wrap ((a : Int) * 9223372036854775808) = ((a % 2 * 9223372036854775808 : Nat) : Int) := by
    rw [IntKind.wrap_u64]
    omega
  have w2 : (b : Int) / 2 = ((b / 2 : Nat) : Int) := by omega
  refine ⟨_, rfl, ?_⟩
  rw [w1, w2, or63 _ _ (by omega) (by omega) (by omega)]
  omega
theorem lz_shift {h l s : Int} (k : Lz h s) (h0 : 0 ≤ h) (l0 : 0 ≤ l) (l1 : l < 18446744073709551616) :
    (h * 18446744073709551616 + l) * 2 ^ s.toNat < 340282366920938463463374607431768211456 ∧ 170141183460469231731687303715884105728 ≤ (h * 18446744073709551616 + l) * 2 ^ s.toNat := by
  obtain ⟨p1, p2, p3⟩ := pow64 s k.s0 k.s1
  have lo := k.lo; have hi := k.hi
  generalize (2 : Int) ^ (63 - s).toNat = c at *
  generalize (2 : Int) ^ s.toNat = p at *
  have hc : h < 2 * c := by
    rw [← p1] at hi
    exact Int.lt_of_mul_lt_mul_right hi (Int.le_of_lt p3)
  have h2 : (h + 1) * p ≤ 2 * c * p := Int.mul_le_mul_of_nonneg_right (by omega) (Int.le_of_lt p3)
  have h3 : l * p ≤ 18446744073709551615 * p := Int.mul_le_mul_of_nonneg_right (by omega) (Int.le_of_lt p3)
  have h4 : 0 ≤ l * p := Int.mul_nonneg l0 (Int.le_of_lt p3)
  rw [Int.add_mul, Int.one_mul, p1] at h2
  rw [Int.add_mul, Int.mul_right_comm]
  generalize h * p = hp at *
  generalize l * p = lp at *
  omega
end Go.Proofs.Ytinjgiigmlikpaa
