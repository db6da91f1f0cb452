/-
  Plain arithmetic of a long division by two digits of 32 bits. My own text; no program is named.
  Plain arithmetic of the guess at a quotient by a divisor of more than 64 bits. My own text; no program is named.
  math/bits.Div64: the quotient, and what is left. My own text.
  Contracts of package wide: quotients. My own text.
  Contracts of package wide: quotients by divisors of more than 64 bits; Div. My own text.
-/
import Derived.Test.YtlhgmlebjnkonaaWideC
import Derived.Deep.QuietTactic
import Derived.Deep.DeepCutAuto
import Derived.Deep.CutBlock
namespace Go.Proofs.Ytlhgmlebjnkonaa
set_option linter.unusedVariables false

/-- what holds of the divisor's two digits, of what is divided, and of the next digit. -/
structure Kn (u d a b : Int) : Prop where
  a0 : 2147483648 ≤ a
  a1 : a < 4294967296
  b0 : 0 ≤ b
  b1 : b < 4294967296
  u0 : 0 ≤ u
  u1 : u < a * 4294967296 + b
  d0 : 0 ≤ d
  d1 : d < 4294967296
/-- the right digit. -/
def kq (u d a b : Int) : Int := (u * 4294967296 + d) / (a * 4294967296 + b)
/-- what is left. -/
def kr (u d a b : Int) : Int := (u * 4294967296 + d) % (a * 4294967296 + b)
/-- what holds of a digit that is tried. -/
structure KTry (u d a b q r : Int) : Prop where
  sum : q * a + r = u
  q0 : 0 ≤ q
  r0 : 0 ≤ r
  le : kq u d a b ≤ q

variable {u d a b q r : Int}
theorem Kn.y0 (h : Kn u d a b) : 0 < a * 4294967296 + b := by have := h.a0; have := h.b0; omega
theorem Kn.q0 (h : Kn u d a b) : 0 ≤ kq u d a b := Int.ediv_nonneg (by have := h.u0; have := h.d0; omega) (Int.le_of_lt h.y0)
theorem Kn.qlt (h : Kn u d a b) : kq u d a b < 4294967296 := by
  unfold kq
  refine Int.ediv_lt_of_lt_mul h.y0 ?_
  have h1 := h.u1; have h2 := h.d1
  generalize a * 4294967296 + b = y at *
  omega
/-- q times the divisor is not above just if q is not above the digit. -/
theorem Kn.le_iff (h : Kn u d a b) (q : Int) : q ≤ kq u d a b ↔ q * (a * 4294967296 + b) ≤ u * 4294967296 + d := by
  unfold kq
  exact Int.le_ediv_iff_mul_le h.y0
theorem mul_y (q a b : Int) : q * (a * 4294967296 + b) = q * a * 4294967296 + q * b := by rw [Int.mul_add, Int.mul_assoc]
theorem Kn.init (h : Kn u d a b) : KTry u d a b (u / a) (u - u / a * a) := by
  have ha : 0 < a := by have := h.a0; omega
  refine ⟨by omega, Int.ediv_nonneg h.u0 (Int.le_of_lt ha), ?_, ?_⟩
  · have := Int.ediv_mul_le u (show a ≠ 0 by omega)
    omega
  · have h1 := (h.le_iff _).1 (Int.le_refl _)
    rw [mul_y] at h1
    rw [Int.le_ediv_iff_mul_le ha]
    have h2 := Int.mul_nonneg h.q0 h.b0
    have h3 := h.d1
    omega
theorem Kn.init_lt (h : Kn u d a b) : u - u / a * a < a ∧ u - u / a * a < 4294967296 := by
  have ha : 0 < a := by have := h.a0; omega
  have h1 := Int.emod_lt_of_pos u ha
  rw [Int.emod_def, Int.mul_comm] at h1
  have := h.a1
  omega
theorem KTry.down (h : Kn u d a b) (t : KTry u d a b q r) (k : 4294967296 ≤ q ∨ 4294967296 * r + d < q * b) : KTry u d a b (q - 1) (r + a) ∧ 1 ≤ q := by
  have hlt : kq u d a b < q := by
    rcases k with k | k
    · exact Int.lt_of_lt_of_le h.qlt k
    · rcases Int.lt_or_le (kq u d a b) q with l | l
      · exact l
      · have h1 := (h.le_iff q).1 l
        rw [mul_y] at h1
        have h2 := t.sum
        generalize q * a = qa at *
        generalize q * b = qb at *
        omega
  have h0 := h.q0
  refine ⟨⟨?_, by omega, by have := t.r0; have := h.a0; omega, by omega⟩, by omega⟩
  rw [Int.sub_mul, ← t.sum]
  omega
theorem KTry.done (h : Kn u d a b) (t : KTry u d a b q r) (k : q * b ≤ 4294967296 * r + d) : q = kq u d a b := by
  have h1 : q ≤ kq u d a b := by
    rw [h.le_iff, mul_y]
    have h2 := t.sum
    generalize q * a = qa at *
    generalize q * b = qb at *
    omega
  have := t.le
  omega
theorem KTry.q_lt (h : Kn u d a b) (t : KTry u d a b q r) : q < 8589934592 := by
  rcases Int.lt_or_le q 8589934592 with l | l
  · exact l
  · have h1 : 8589934592 * 2147483648 ≤ q * a := Int.mul_le_mul l h.a0 (by omega) t.q0
    have h2 := t.sum; have h3 := h.u1; have h4 := h.b1; have h5 := h.a1; have h6 := t.r0
    omega
theorem KTry.small (h : Kn u d a b) (t : KTry u d a b q r) (k : 4294967296 ≤ r) : q < 4294967296 := by
  rcases Int.lt_or_le q 4294967296 with l | l
  · exact l
  · have h1 := Int.mul_le_mul_of_nonneg_right l (show (0 : Int) ≤ a by have := h.a0; omega)
    have h2 := t.sum; have h3 := h.u1; have h4 := h.b1
    omega
theorem KTry.mul_lt (h : Kn u d a b) (t : KTry u d a b q r) (k : q < 4294967296) : 0 ≤ q * b ∧ q * b < 18446744073709551616 := by
  refine ⟨Int.mul_nonneg t.q0 h.b0, ?_⟩
  have h1 : q * b ≤ 4294967295 * 4294967295 := Int.mul_le_mul (by omega) (by have := h.b1; omega) h.b0 (by omega)
  omega
theorem KTry.out (h : Kn u d a b) (t : KTry u d a b q r) (k : 4294967296 ≤ r) : q = kq u d a b := by
  have h1 := t.small h k
  refine t.done h ?_
  have h2 := (t.mul_lt h h1).2
  have h3 := h.d0
  omega
theorem Kn.rest (h : Kn u d a b) : IntKind.u64.wrap (IntKind.u64.wrap (IntKind.u64.wrap (u * 4294967296) + d) - IntKind.u64.wrap (kq u d a b * (a * 4294967296 + b))) = kr u d a b := by
  have h1 : u * 4294967296 + d - kq u d a b * (a * 4294967296 + b) = kr u d a b := by
    unfold kq kr
    rw [Int.emod_def, Int.mul_comm (a * 4294967296 + b)]
  have h2 : 0 ≤ kr u d a b := Int.emod_nonneg _ (by have := h.y0; omega)
  have h3 : kr u d a b < a * 4294967296 + b := Int.emod_lt_of_pos _ h.y0
  have h4 := h.a1; have h5 := h.b1
  simp only [IntKind.wrap_u64]
  generalize kr u d a b = k at *
  generalize kq u d a b * (a * 4294967296 + b) = p at *
  omega
theorem Kn.next (h : Kn u d a b) (e : Int) (e0 : 0 ≤ e ∧ e < 4294967296) : Kn (kr u d a b) e a b :=
  ⟨h.a0, h.a1, h.b0, h.b1, Int.emod_nonneg _ (by have := h.y0; omega), Int.emod_lt_of_pos _ h.y0, e0.1, e0.2⟩
/-- two digits, one behind the other. -/
theorem Kn.two (h : Kn u d a b) (e : Int) (e0 : 0 ≤ e ∧ e < 4294967296) :
    kq u d a b * 4294967296 + kq (kr u d a b) e a b = (u * 18446744073709551616 + d * 4294967296 + e) / (a * 4294967296 + b) ∧ kr (kr u d a b) e a b = (u * 18446744073709551616 + d * 4294967296 + e) % (a * 4294967296 + b) := by
  have k := h.next e e0
  have y0 := h.y0
  have s1 : u * 4294967296 + d = (a * 4294967296 + b) * kq u d a b + kr u d a b := (Int.mul_ediv_add_emod _ _).symm
  have s2 : kr u d a b * 4294967296 + e = (a * 4294967296 + b) * kq (kr u d a b) e a b + kr (kr u d a b) e a b := (Int.mul_ediv_add_emod _ _).symm
  have r0 : 0 ≤ kr (kr u d a b) e a b := Int.emod_nonneg _ (by omega)
  have r1 : kr (kr u d a b) e a b < a * 4294967296 + b := Int.emod_lt_of_pos _ y0
  generalize kr (kr u d a b) e a b = R at *
  generalize kq (kr u d a b) e a b = Q2 at *
  generalize kr u d a b = R1 at *
  generalize kq u d a b = Q1 at *
  generalize a * 4294967296 + b = y at *
  have t : u * 18446744073709551616 + d * 4294967296 + e = R + y * (Q1 * 4294967296 + Q2) := by
    rw [Int.mul_add, ← Int.mul_assoc]
    generalize y * Q1 = p at *
    generalize y * Q2 = p2 at *
    omega
  rw [t]
  constructor
  · rw [Int.add_mul_ediv_left _ _ (by omega), Int.ediv_eq_zero_of_lt r0 r1]
    omega
  · rw [Int.add_mul_emod_self_left, Int.emod_eq_of_lt r0 r1]
/-- y's length, and what it is shifted by. -/
structure Lz (y s : Int) : Prop where
  s0 : 0 ≤ s
  s1 : s < 64
  lo : 9223372036854775808 ≤ y * 2 ^ s.toNat
  hi : y * 2 ^ s.toNat < 18446744073709551616
theorem lz_of (y : Int) (h0 : 0 < y) (h1 : y < 18446744073709551616) : Lz y (64 - (Lib.bitLen y.toNat : Int)) := by
  obtain ⟨n, rfl⟩ := Int.eq_ofNat_of_zero_le (Int.le_of_lt h0)
  rw [Int.toNat_natCast]
  rcases len_lo n (by omega) with ⟨h, _⟩ | ⟨l1, _, l3, l4⟩
  · omega
  · have l2 : Lib.bitLen n ≤ 64 := Lib.bitLen_le n 64 (Nat.le_refl _) (by rw [two64]; omega)
    have e : (64 - (Lib.bitLen n : Int)).toNat = 64 - Lib.bitLen n := by omega
    have f : (n : Int) * 2 ^ (64 - Lib.bitLen n) = ((n * 2 ^ (64 - Lib.bitLen n) : Nat) : Int) := by simp
    have g1 : 2 ^ 63 ≤ n * 2 ^ (64 - Lib.bitLen n) := by
      have := Nat.mul_le_mul_right (2 ^ (64 - Lib.bitLen n)) l3
      rw [← Nat.pow_add, show Lib.bitLen n - 1 + (64 - Lib.bitLen n) = 63 by omega] at this
      exact this
    have g2 : n * 2 ^ (64 - Lib.bitLen n) < 2 ^ 64 := by
      have := Nat.mul_lt_mul_of_pos_right l4 (Nat.two_pow_pos (64 - Lib.bitLen n))
      rw [← Nat.pow_add, show Lib.bitLen n + (64 - Lib.bitLen n) = 64 by omega] at this
      exact this
    rw [two64] at g2
    rw [show (2 : Nat) ^ 63 = 9223372036854775808 by decide] at g1
    exact ⟨by omega, by omega, by rw [e, f]; omega, by rw [e, f]; omega⟩
/-- what is divided, shifted as the divisor is. -/
structure Nm (hi lo y s U V Y : Int) : Prop where
  y : Y = y * 2 ^ s.toNat
  n : (hi * 18446744073709551616 + lo) * 2 ^ s.toNat = U * 18446744073709551616 + V
  u0 : 0 ≤ U
  u1 : U < Y
  v0 : 0 ≤ V
  v1 : V < 18446744073709551616
theorem nm_of {hi lo y s : Int} (h0 : 0 ≤ hi) (h1 : hi < y) (l : 0 ≤ lo ∧ lo < 18446744073709551616) (k : Lz y s) :
    Nm hi lo y s (bits .or .u64 (IntKind.u64.wrap (hi * 2 ^ s.toNat)) (lo / 2 ^ (64 - s).toNat)) (IntKind.u64.wrap (lo * 2 ^ s.toNat)) (IntKind.u64.wrap (y * 2 ^ s.toNat)) := by
  have p0 : (0 : Int) < 2 ^ s.toNat := Int.pow_pos (by omega)
  have t : (hi * 18446744073709551616 + lo) * 2 ^ s.toNat < y * 2 ^ s.toNat * 18446744073709551616 := by
    rw [Int.mul_right_comm]
    exact Int.mul_lt_mul_of_pos_right (by omega) p0
  have kl := k.hi
  obtain ⟨H, e1, e2, e3⟩ := shl_lo_val hi lo s h0 l ⟨k.s0, k.s1⟩ (by omega)
  have w : IntKind.u64.wrap (y * 2 ^ s.toNat) = y * 2 ^ s.toNat := by
    have := k.lo
    rw [IntKind.wrap_u64]
    omega
  rw [e1, w]
  have v : 0 ≤ IntKind.u64.wrap (lo * 2 ^ s.toNat) ∧ IntKind.u64.wrap (lo * 2 ^ s.toNat) < 18446744073709551616 := by rw [IntKind.wrap_u64]; omega
  refine ⟨rfl, e3, e2.1, ?_, v.1, v.2⟩
  rw [e3] at t
  omega
theorem and32 (x : Int) (h : 0 ≤ x ∧ x < 18446744073709551616) : bits .and .u64 x 4294967295 = x % 4294967296 := by
  obtain ⟨X, rfl⟩ := Int.eq_ofNat_of_zero_le h.1
  have h1 := bits_and_u64_nat X 4294967295 (by omega) (by omega)
  rw [show X &&& 4294967295 = X % 4294967296 from Nat.and_two_pow_sub_one_eq_mod X 32] at h1
  rw [show ((4294967295 : Nat) : Int) = 4294967295 from rfl] at h1
  rw [h1]
  omega
theorem Nm.kn {hi lo y s U V Y : Int} (h : Nm hi lo y s U V Y) (k : Lz y s) : Kn U (V / 4294967296) (Y / 4294967296) (Y % 4294967296) := by
  have a := h.y; have b := h.u0; have c := h.u1; have d := h.v0; have e := h.v1; have f := k.lo; have g := k.hi
  constructor <;> omega
theorem Nm.quo {hi lo y s U V Y : Int} (h : Nm hi lo y s U V Y) (k : Lz y s) : (U * 18446744073709551616 + V / 4294967296 * 4294967296 + V % 4294967296) / (Y / 4294967296 * 4294967296 + Y % 4294967296) = (hi * 18446744073709551616 + lo) / y ∧
    (U * 18446744073709551616 + V / 4294967296 * 4294967296 + V % 4294967296) % (Y / 4294967296 * 4294967296 + Y % 4294967296) / 2 ^ s.toNat = (hi * 18446744073709551616 + lo) % y := by
  have p0 : (0 : Int) < 2 ^ s.toNat := Int.pow_pos (by omega)
  rw [show U * 18446744073709551616 + V / 4294967296 * 4294967296 + V % 4294967296 = U * 18446744073709551616 + V by omega, show Y / 4294967296 * 4294967296 + Y % 4294967296 = Y by omega, ← h.n, h.y]
  generalize (2 : Int) ^ s.toNat = p at *
  constructor
  · exact Int.mul_ediv_mul_of_pos_left _ _ p0
  · rw [Int.emod_def, Int.mul_ediv_mul_of_pos_left _ _ p0, Int.mul_right_comm, ← Int.sub_mul, Int.mul_ediv_cancel _ (by omega), Int.emod_def]
end Go.Proofs.Ytlhgmlebjnkonaa
namespace Go.Proofs.Ytlhgmlebjnkonaa
set_option linter.unusedVariables false

theorem pow64 (s : Int) (s0 : 0 ≤ s) (s1 : s < 64) : (2 : Int) * 2 ^ (63 - s).toNat * 2 ^ s.toNat = 18446744073709551616 ∧ (0 : Int) < 2 ^ (63 - s).toNat ∧ (0 : Int) < 2 ^ s.toNat := by
  refine ⟨?_, Int.pow_pos (by omega), Int.pow_pos (by omega)⟩
  rw [Int.mul_assoc, ← Int.pow_add, show (63 - s).toNat + s.toNat = 63 by omega]
  decide
/-- the guess is the quotient, or one more. -/
theorem guess_ok (A b s T low : Int) (A0 : 0 ≤ A) (A1 : A ≤ 170141183460469231731687303715884105728) (s0 : 0 ≤ s) (s1 : s < 64) (e : b * 2 ^ s.toNat = T * 18446744073709551616 + low) (l0 : 0 ≤ low) (l1 : low < 18446744073709551616) (T0 : 9223372036854775808 ≤ T) :
    A / b ≤ A / 2 / T / 2 ^ (63 - s).toNat ∧ A / 2 / T / 2 ^ (63 - s).toNat ≤ A / b + 1 ∧ A / 2 / T / 2 ^ (63 - s).toNat ≤ 9223372036854775808 := by
  obtain ⟨p1, p2, p3⟩ := pow64 s s0 s1
  generalize (2 : Int) ^ (63 - s).toNat = c at *
  generalize (2 : Int) ^ s.toNat = p at *
  rw [Int.ediv_ediv_of_nonneg (show (0 : Int) ≤ T by omega), Int.ediv_ediv_of_nonneg (show (0 : Int) ≤ 2 by omega)]
  -- D = T * (2 c); b p = T (2 c p) + low
  have hD : T * (2 * c) * p = T * 18446744073709551616 := by rw [Int.mul_assoc, p1]
  have c2 : 2 ≤ 2 * c := by omega
  have D0 : 18446744073709551616 ≤ T * (2 * c) := by
    have := Int.mul_le_mul T0 c2 (by omega) (by omega)
    omega
  have dle : T * (2 * c) ≤ b := by
    have : T * (2 * c) * p ≤ b * p := by rw [hD, e]; omega
    exact Int.le_of_mul_le_mul_right this p3
  have dlt : b < T * (2 * c) + 2 * c := by
    have : b * p < (T * (2 * c) + 2 * c) * p := by rw [Int.add_mul, hD, p1, e]; omega
    exact Int.lt_of_mul_lt_mul_right this (Int.le_of_lt p3)
  rw [show 2 * (T * c) = T * (2 * c) by rw [← Int.mul_assoc, Int.mul_comm 2 T, Int.mul_assoc]]
  generalize hDD : T * (2 * c) = D at *
  have Dp : 0 < D := by omega
  have bp : 0 < b := by omega
  have g1 : A / D * D ≤ A := Int.ediv_mul_le A (by omega)
  have g0 : 0 ≤ A / D := Int.ediv_nonneg A0 (by omega)
  have gt : A / D ≤ 9223372036854775808 := by
    rcases Int.lt_or_le 9223372036854775808 (A / D) with h | h
    · have := Int.mul_le_mul (show 9223372036854775809 ≤ A / D by omega) D0 (by omega) g0
      omega
    · exact h
  refine ⟨?_, ?_, gt⟩
  · rw [Int.le_ediv_iff_mul_le Dp]
    have h1 : A / b * b ≤ A := Int.ediv_mul_le A (by omega)
    have h2 : A / b * D ≤ A / b * b := Int.mul_le_mul_of_nonneg_left dle (Int.ediv_nonneg A0 (by omega))
    omega
  · have : A / D - 1 ≤ A / b := by
      rw [Int.le_ediv_iff_mul_le bp]
      rcases Int.lt_or_le 0 (A / D) with h | h
      · have h2 : (A / D - 1) * b ≤ (A / D - 1) * (D + 2 * c) := Int.mul_le_mul_of_nonneg_left (by omega) (by omega)
        have h3 : (A / D - 1) * (2 * c) ≤ T * (2 * c) := Int.mul_le_mul_of_nonneg_right (by omega) (by omega)
        rw [Int.mul_add, Int.sub_mul (A / D) 1 D, Int.one_mul] at h2
        omega
      · have h2 : (A / D - 1) * b ≤ 0 := Int.mul_nonpos_of_nonpos_of_nonneg (by omega) (by omega)
        omega
    omega
theorem or63 (h l : Nat) (h1 : h * 9223372036854775808 < 18446744073709551616) (h2 : l < 9223372036854775808) (h3 : h * 9223372036854775808 + l < 18446744073709551616) :
    bits .or .u64 ((h * 9223372036854775808 : Nat) : Int) (l : Int) = ((h * 9223372036854775808 + l : Nat) : Int) := by
  have e := or_nat h l 63
  rw [show (2 : Nat) ^ 63 = 9223372036854775808 by decide] at e
  exact e h1 h2 h3
/-- half of a size, as the program takes it. -/
theorem half_val (h l : Int) (bh : 0 ≤ h ∧ h < 18446744073709551616) (bl : 0 ≤ l ∧ l < 18446744073709551616) :
    ∃ L, bits .or .u64 (IntKind.u64.wrap (h * 9223372036854775808)) (l / 2) = L ∧ (0 ≤ L ∧ L < 18446744073709551616) ∧ h / 2 * 18446744073709551616 + L = (h * 18446744073709551616 + l) / 2 := by
  obtain ⟨a, rfl⟩ := Int.eq_ofNat_of_zero_le bh.1
  obtain ⟨b, rfl⟩ := Int.eq_ofNat_of_zero_le bl.1
  have w1 : IntKind.u64.wrap ((a : Int) * 9223372036854775808) = ((a % 2 * 9223372036854775808 : Nat) : Int) := by
    rw [IntKind.wrap_u64]
    omega
  have w2 : (b : Int) / 2 = ((b / 2 : Nat) : Int) := by omega
  refine ⟨_, rfl, ?_⟩
  rw [w1, w2, or63 _ _ (by omega) (by omega) (by omega)]
  omega
theorem lz_shift {h l s : Int} (k : Lz h s) (h0 : 0 ≤ h) (l0 : 0 ≤ l) (l1 : l < 18446744073709551616) :
    (h * 18446744073709551616 + l) * 2 ^ s.toNat < 340282366920938463463374607431768211456 ∧ 170141183460469231731687303715884105728 ≤ (h * 18446744073709551616 + l) * 2 ^ s.toNat := by
  obtain ⟨p1, p2, p3⟩ := pow64 s k.s0 k.s1
  have lo := k.lo; have hi := k.hi
  generalize (2 : Int) ^ (63 - s).toNat = c at *
  generalize (2 : Int) ^ s.toNat = p at *
  have hc : h < 2 * c := by
    rw [← p1] at hi
    exact Int.lt_of_mul_lt_mul_right hi (Int.le_of_lt p3)
  have h2 : (h + 1) * p ≤ 2 * c * p := Int.mul_le_mul_of_nonneg_right (by omega) (Int.le_of_lt p3)
  have h3 : l * p ≤ 18446744073709551615 * p := Int.mul_le_mul_of_nonneg_right (by omega) (Int.le_of_lt p3)
  have h4 : 0 ≤ l * p := Int.mul_nonneg l0 (Int.le_of_lt p3)
  rw [Int.add_mul, Int.one_mul, p1] at h2
  rw [Int.add_mul, Int.mul_right_comm]
  generalize h * p = hp at *
  generalize l * p = lp at *
  omega
end Go.Proofs.Ytlhgmlebjnkonaa
namespace Go.Proofs.Ytlhgmlebjnkonaa
open Go.RowKit
set_option linter.unusedVariables false

theorem below_drewN {w W : World} (h : Below w.heap.size w W) (n : Nat) : Below w.heap.size w (W.drewN n) := ⟨h.os, h.tape, h.output, h.size, h.block⟩
def RLz (y : Int) (w : World) (e : Ending) (w' : World) : Prop := ∃ s : Int, e = .returned (.int .i64 s) ∧ Lz y s ∧ w = w'
theorem lz_any (y : Int) (w : World) (h0 : 0 < y) (h1 : y < 18446744073709551616) : Calls Try.prog 90 #[.int .u64 y] w (RLz y w) := by
  refine (Try.bits_LeadingZeros64 y w (by omega) (by omega)).mono ?_
  rintro e w' ⟨rfl, rfl⟩
  exact ⟨_, rfl, lz_of y h0 h1, rfl⟩
theorem ret_pair {a b c d : Int} (h : a = c) (k : b = d) : Ending.returned (.tuple #[.int .u64 a, .int .u64 b]) = .returned (.tuple #[.int .u64 c, .int .u64 d]) := by rw [h, k]
def RDiv (q r : Int) (w : World) (e : Ending) (w' : World) : Prop := e = .returned (.tuple #[.int .u64 q, .int .u64 r]) ∧ Below w.heap.size w w'
set_option maxHeartbeats 1000000 in
set_option maxRecDepth 100000 in
theorem div64_zero (lo y : Int) (w : World) (l : 0 ≤ lo ∧ lo < 18446744073709551616) (y0 : 0 < y) (y1 : y < 18446744073709551616) :
    Calls Try.prog 84 #[.int .u64 0, .int .u64 lo, .int .u64 y] w (RDiv (lo / y) (lo % y) w) := by
  have n0 : (y == 0) = false := by simp; omega
  have n1 : decide (y ≤ 0) = false := by simp; omega
  obtain ⟨l0, l1⟩ := l
  go_enter Try.func84, Try.ntmps84
  go_wp2
  go_quiet (fail)
  go_wp2
  go_ret2
  exact ⟨rfl, below_drewN (Below.refl _ _) _⟩
set_option maxHeartbeats 4000000 in
set_option maxRecDepth 100000 in
theorem div64_main (hi lo y : Int) (w : World) (h0 : 0 < hi) (h1 : hi < y) (l : 0 ≤ lo ∧ lo < 18446744073709551616) (y1 : y < 18446744073709551616) :
    Calls Try.prog 84 #[.int .u64 hi, .int .u64 lo, .int .u64 y] w (RDiv ((hi * 18446744073709551616 + lo) / y) ((hi * 18446744073709551616 + lo) % y) w) := by
  have n0 : (y == 0) = false := by simp; omega
  have n1 : decide (y ≤ hi) = false := by simp; omega
  have n2 : (hi == 0) = false := by simp; omega
  go_enter Try.func84, Try.ntmps84
  go_wp2_with fail
  refine (lz_any y _ (by omega) y1).mono ?_
  rintro e w1 ⟨s, rfl, hs, rfl⟩
  have hs0 := hs.s0; have hs1 := hs.s1
  have hws : IntKind.u64.wrap s = s := by rw [IntKind.wrap_u64]; omega
  have hnm := nm_of (Int.le_of_lt h0) h1 l hs
  generalize hU : bits .or .u64 (IntKind.u64.wrap (hi * 2 ^ s.toNat)) (lo / 2 ^ (64 - s).toNat) = U at hnm
  generalize hV : IntKind.u64.wrap (lo * 2 ^ s.toNat) = V at hnm
  generalize hY : IntKind.u64.wrap (y * 2 ^ s.toNat) = Y at hnm
  have hkn := hnm.kn hs
  have hquo := hnm.quo hs
  have hY2 : 0 ≤ Y ∧ Y < 18446744073709551616 := by have := hkn.a0; have := hkn.a1; omega
  have hbY := and32 Y hY2
  have hbV := and32 V ⟨hnm.v0, hnm.v1⟩
  have two := hkn.two (V % 4294967296) (by omega)
  rw [hquo.1] at two
  have hYe : Y / 4294967296 * 4294967296 + Y % 4294967296 = Y := by omega
  have rest1 := hkn.rest
  have kn2 := hkn.next (V % 4294967296) (by omega)
  have rest2 := kn2.rest
  rw [hYe] at rest1 rest2
  have dv : 0 ≤ V % 4294967296 ∧ V % 4294967296 < 4294967296 := by omega
  generalize hd : V / 4294967296 = d at *
  generalize he : V % 4294967296 = e at *
  generalize ha : Y / 4294967296 = a at *
  generalize hb : Y % 4294967296 = b at *
  have a0 := hkn.a0; have a1 := hkn.a1; have b0 := hkn.b0; have b1 := hkn.b1; have u0 := hkn.u0; have d0 := hkn.d0; have d1 := hkn.d1
  have u1 : U < 18446744073709551616 := by have := hkn.u1; omega
  have az : (a == 0) = false := by simp; omega
  have HQ := Lib.hid two; have HQ2 := Lib.hid hquo.2; have HK := Lib.hid hkn; have HK2 := Lib.hid kn2
  have q1b := hkn.qlt; have q1a := hkn.q0; have q2b := kn2.qlt; have q2a := kn2.q0
  have t1 := hkn.init; have t1b := hkn.init_lt
  have i1 := t1.q_lt hkn
  have i2 : 0 ≤ U / a := t1.q0
  have i3 : IntKind.u64.wrap (U / a * a) = U / a * a := by
    have := t1.sum; have := t1.r0; rw [IntKind.wrap_u64]
    have : 0 ≤ U / a * a := Int.mul_nonneg i2 (by omega)
    omega
  have i4 := t1.r0
  have i7 : 0 ≤ U / a * a := Int.mul_nonneg i2 (by omega)
  obtain ⟨m1, hm1⟩ : ∃ m, m = U / a * a := ⟨_, rfl⟩
  rw [← hm1] at i4 i7 t1 t1b
  have i3' : IntKind.u64.wrap (U / a * a) = m1 := by rw [i3, hm1]
  obtain ⟨i5, i6⟩ := t1b
  have T1 := Lib.hid t1
  generalize hQ1 : kq U d a b = Q1 at *
  generalize hU2 : kr U d a b = U2 at *
  have HQ1 := Lib.hid hQ1
  have HR1 := Lib.hid rest1; have HR2 := Lib.hid rest2
  clear two hquo hkn kn2 hnm hYe dv hY2 h1 h0 l y1 i3 hm1 t1 hQ1 hU2 rest1 rest2
  go_upto_block 0 with fail
  go_cut [15, 16] (fun s15 s16 wx => w = wx ∧ s15 = .int .u64 Q1 ∧ ∃ r, s16 = .int .u64 r)
  case first =>
    go_wp2_with fail
    go_loop [15, 16] (fun s15 s16 => ∃ q r : Int, s15 = .int .u64 q ∧ s16 = .int .u64 r ∧ KTry U d a b q r ∧ r < 4294967296) (fun s15 _ => (intOf s15).toNat)
    case atStart => exact ⟨_, _, rfl, rfl, T1.out, i6⟩
    case round =>
      obtain ⟨q, r, rfl, rfl, ht, hr⟩ := hrel
      have hq := ht.q_lt HK.out
      have hq0 := ht.q0
      have hr0 := ht.r0
      by_cases hb : 4294967296 ≤ q
      · obtain ⟨hdn, hq1⟩ := ht.down HK.out (.inl hb)
        have HD := Lib.hid hdn
        clear hdn
        by_cases hx : 4294967296 ≤ r + a
        · have hout := HD.out.out HK.out hx
          rw [HQ1.out] at hout
          have HO := Lib.hid hout
          clear hout
          go_wp2_with fail
          go_meet
          exact ⟨rfl, congrArg _ HO.out, _, rfl⟩
        · go_wp2_with fail
          go_round
          case rel => exact ⟨_, _, rfl, rfl, HD.out, by omega⟩
          case measure => simp [intOf]; omega
      · have hml := ht.mul_lt HK.out (by omega)
        obtain ⟨P, hP⟩ : ∃ P, P = q * b := ⟨_, rfl⟩
        rw [← hP] at hml
        have hPw : IntKind.u64.wrap (q * b) = P := by rw [← hP, IntKind.wrap_u64]; omega
        have HP := Lib.hid hP
        clear hP
        by_cases hc : 4294967296 * r + d < P
        · obtain ⟨hdn, hq1⟩ := ht.down HK.out (.inr (by rw [← HP.out]; exact hc))
          have HD := Lib.hid hdn
          clear hdn
          by_cases hx : 4294967296 ≤ r + a
          · have hout := HD.out.out HK.out hx
            rw [HQ1.out] at hout
            have HO := Lib.hid hout
            clear hout
            go_wp2_with fail
            go_meet
            exact ⟨rfl, congrArg _ HO.out, _, rfl⟩
          · go_wp2_with fail
            go_round
            case rel => exact ⟨_, _, rfl, rfl, HD.out, by omega⟩
            case measure => simp [intOf]; omega
        · have hout := ht.done HK.out (by rw [← HP.out]; omega)
          rw [HQ1.out] at hout
          have HO := Lib.hid hout
          clear hout
          go_wp2_with fail
          go_meet
          exact ⟨rfl, congrArg _ HO.out, _, rfl⟩
  case rest =>
    obtain ⟨rfl, rfl, r1, rfl⟩ := hcut
    have rest1 := HR1.out
    have v0 := HK2.out.u0
    have v1 : U2 < 18446744073709551616 := by have := HK2.out.u1; omega
    have e0 := HK2.out.d0; have e1 := HK2.out.d1
    have t2 := HK2.out.init; have t2b := HK2.out.init_lt
    have j1 := t2.q_lt HK2.out
    have j2 : 0 ≤ U2 / a := t2.q0
    have j3 : IntKind.u64.wrap (U2 / a * a) = U2 / a * a := by
      have := t2.sum; have := t2.r0; rw [IntKind.wrap_u64]
      have : 0 ≤ U2 / a * a := Int.mul_nonneg j2 (by omega)
      omega
    have j4 := t2.r0
    have j7 : 0 ≤ U2 / a * a := Int.mul_nonneg j2 (by omega)
    obtain ⟨m2, hm2⟩ : ∃ m, m = U2 / a * a := ⟨_, rfl⟩
    rw [← hm2] at j4 j7 t2 t2b
    have j3' : IntKind.u64.wrap (U2 / a * a) = m2 := by rw [j3, hm2]
    obtain ⟨j5, j6⟩ := t2b
    have T2 := Lib.hid t2
    obtain ⟨Q2, hQ2⟩ : ∃ Q, Q = kq U2 e a b := ⟨_, rfl⟩
    have HQ2e := Lib.hid hQ2.symm
    have q2a := HK2.out.q0; have q2b := HK2.out.qlt
    rw [← hQ2] at q2a q2b
    clear j3 hm2 t2 hQ2
    go_upto_block 2 with fail
    go_cut [18, 16] (fun s18 s16 wx => w = wx ∧ s18 = .int .u64 Q2 ∧ ∃ r, s16 = .int .u64 r)
    case first =>
      go_wp2_with fail
      go_loop [18, 16] (fun s18 s16 => ∃ q r : Int, s18 = .int .u64 q ∧ s16 = .int .u64 r ∧ KTry U2 e a b q r ∧ r < 4294967296) (fun s18 _ => (intOf s18).toNat)
      case atStart => exact ⟨_, _, rfl, rfl, T2.out, j6⟩
      case round =>
        obtain ⟨q, r, rfl, rfl, ht, hr⟩ := hrel
        have hq := ht.q_lt HK2.out
        have hq0 := ht.q0
        have hr0 := ht.r0
        by_cases hb : 4294967296 ≤ q
        · obtain ⟨hdn, hq1⟩ := ht.down HK2.out (.inl hb)
          have HD := Lib.hid hdn
          clear hdn
          by_cases hx : 4294967296 ≤ r + a
          · have hout := HD.out.out HK2.out hx
            rw [HQ2e.out] at hout
            have HO := Lib.hid hout
            clear hout
            go_wp2_with fail
            go_meet
            exact ⟨rfl, congrArg _ HO.out, _, rfl⟩
          · go_wp2_with fail
            go_round
            case rel => exact ⟨_, _, rfl, rfl, HD.out, by omega⟩
            case measure => simp [intOf]; omega
        · have hml := ht.mul_lt HK2.out (by omega)
          obtain ⟨P, hP⟩ : ∃ P, P = q * b := ⟨_, rfl⟩
          rw [← hP] at hml
          have hPw : IntKind.u64.wrap (q * b) = P := by rw [← hP, IntKind.wrap_u64]; omega
          have HP := Lib.hid hP
          clear hP
          by_cases hc : 4294967296 * r + e < P
          · obtain ⟨hdn, hq1⟩ := ht.down HK2.out (.inr (by rw [← HP.out]; exact hc))
            have HD := Lib.hid hdn
            clear hdn
            by_cases hx : 4294967296 ≤ r + a
            · have hout := HD.out.out HK2.out hx
              rw [HQ2e.out] at hout
              have HO := Lib.hid hout
              clear hout
              go_wp2_with fail
              go_meet
              exact ⟨rfl, congrArg _ HO.out, _, rfl⟩
            · go_wp2_with fail
              go_round
              case rel => exact ⟨_, _, rfl, rfl, HD.out, by omega⟩
              case measure => simp [intOf]; omega
          · have hout := ht.done HK2.out (by rw [← HP.out]; omega)
            rw [HQ2e.out] at hout
            have HO := Lib.hid hout
            clear hout
            go_wp2_with fail
            go_meet
            exact ⟨rfl, congrArg _ HO.out, _, rfl⟩
    case rest =>
      obtain ⟨rfl, rfl, r2, rfl⟩ := hcut
      have rest2 := HR2.out
      rw [HQ2e.out] at rest2
      have fin := HQ.out
      have fin2 := HQ2.out
      rw [HQ2e.out] at fin
      rw [← fin.2] at fin2
      have FIN1 := Lib.hid fin.1
      have FIN2 := Lib.hid fin2
      generalize kr U2 e a b = R at *
      clear fin fin2
      go_wp2
      go_ret2
      exact ⟨ret_pair FIN1.out FIN2.out, Below.refl _ _⟩
theorem div64_any (hi lo y : Int) (w : World) (h0 : 0 ≤ hi) (h1 : hi < y) (l : 0 ≤ lo ∧ lo < 18446744073709551616) (y1 : y < 18446744073709551616) :
    Calls Try.prog 84 #[.int .u64 hi, .int .u64 lo, .int .u64 y] w (RDiv ((hi * 18446744073709551616 + lo) / y) ((hi * 18446744073709551616 + lo) % y) w) := by
  by_cases h : hi = 0
  · subst h
    rw [Int.zero_mul, Int.zero_add]
    exact div64_zero lo y w l (by omega) y1
  · exact div64_main hi lo y w (by omega) h1 l y1
end Go.Proofs.Ytlhgmlebjnkonaa
namespace Go.Proofs.Ytlhgmlebjnkonaa
open Go.RowKit
set_option linter.unusedVariables false

theorem fieldS0 (x y : Int) (w : World) : (Instr.field 104 (.agg #[.int .u64 x, .int .u64 y]) 0).run Try.prog w = .ok (.int .u64 x) w := by kernel_rfl
attribute [local go_sem] fieldS0
def RGuess (q : Int) (w : World) (e : Ending) (w' : World) : Prop := ∃ g : Int, e = .returned (.int .u64 g) ∧ (0 ≤ g ∧ g ≤ q ∧ q ≤ g + 1 ∧ g < 18446744073709551616) ∧ Below w.heap.size w w'
set_option maxHeartbeats 2000000 in
set_option maxRecDepth 100000 in
theorem guess_any (h1 l1 n h2 l2 m : Int) (w : World) (H1 : IsS h1 l1 n) (H2 : IsS h2 l2 m) (hn : n ≤ 170141183460469231731687303715884105728) (hm : h2 ≠ 0) :
    Calls Try.prog 85 #[.agg #[.int .u64 h1, .int .u64 l1], .agg #[.int .u64 h2, .int .u64 l2]] w (RGuess (n / m) w) := by
  obtain ⟨b1, b2, e1⟩ := id H1
  obtain ⟨b3, b4, e2⟩ := id H2
  go_enter Try.func85, Try.ntmps85
  go_wp2_with fail
  refine (lz_any h2 _ (by omega) (by omega)).mono ?_
  rintro e w1 ⟨s, rfl, hs, rfl⟩
  have hs0 := hs.s0; have hs1 := hs.s1
  have hws : IntKind.u64.wrap s = s := by rw [IntKind.wrap_u64]; omega
  go_wp2_with fail
  obtain ⟨sh1, sh2⟩ := lz_shift hs b3.1 b4.1 b4.2
  rw [← e2] at sh1 sh2
  refine (shlSize_any _ _ m s _ H2 hs0 (by omega) sh1).mono ?_
  rintro e w1 ⟨T, low, rfl, hT, hb1⟩
  have B_w1_0 : Box w1 (w.heap.size) (.int .u64 h1) (.int .u64 l1) := (by (repeat (first | with_reducible assumption | (focus ((with_reducible refine Box.new ?_); simp; done)) | (with_reducible refine Box.alloc ?_ _) | (with_reducible refine Box.drew ?_) | (with_reducible refine Box.put ?_) | (focus ((with_reducible refine Box.set ?_ _ ?_); rotate_left; omega)) | (focus ((with_reducible apply HasBox.of); with_reducible assumption)) | (focus ((with_reducible refine HasBox.new ?_); simp; done)) | (with_reducible refine HasBox.set ?_ _ _) | (with_reducible refine HasBox.drew ?_) | (with_reducible refine HasBox.alloc ?_ _) | (with_reducible refine Box.call ?_ hb1) | (with_reducible refine HasBox.call ?_ hb1)))); obtain ⟨⟨c_w1_0, d_w1_0⟩, f_w1_0, g_w1_0⟩ := id B_w1_0; have B_w1_1 : Box w1 (w.heap.size + 1) (.int .u64 h2) (.int .u64 l2) := (by (repeat (first | with_reducible assumption | (focus ((with_reducible refine Box.new ?_); simp; done)) | (with_reducible refine Box.alloc ?_ _) | (with_reducible refine Box.drew ?_) | (with_reducible refine Box.put ?_) | (focus ((with_reducible refine Box.set ?_ _ ?_); rotate_left; omega)) | (focus ((with_reducible apply HasBox.of); with_reducible assumption)) | (focus ((with_reducible refine HasBox.new ?_); simp; done)) | (with_reducible refine HasBox.set ?_ _ _) | (with_reducible refine HasBox.drew ?_) | (with_reducible refine HasBox.alloc ?_ _) | (with_reducible refine Box.call ?_ hb1) | (with_reducible refine HasBox.call ?_ hb1)))); obtain ⟨⟨c_w1_1, d_w1_1⟩, f_w1_1, g_w1_1⟩ := id B_w1_1; have hz_hb1 := Below.size hb1; (try simp at hz_hb1); have ne_hb1_0 : ¬ w1.heap.size = w.heap.size := (by omega); have ne_hb1_1 : ¬ w1.heap.size = w.heap.size + 1 := (by omega); have en_hb1_0 : ¬ w.heap.size = w1.heap.size := (by omega); have en_hb1_1 : ¬ w.heap.size + 1 = w1.heap.size := (by omega); have lt_hb1_0 : w.heap.size < w1.heap.size := (by omega); have lt_hb1_1 : w.heap.size + 1 < w1.heap.size := (by omega)
  obtain ⟨bT, bl, eT⟩ := hT
  have hT0 : 9223372036854775808 ≤ T := by omega
  obtain ⟨L, hL, hL2, hL3⟩ := half_val h1 l1 b1 b2
  have hg := guess_ok n m s T low (by omega) hn hs0 hs1 eT bl.1 bl.2 hT0
  have hh : h1 / 2 < T := by omega
  have hdiv : Hid (∀ w, Calls Try.prog 84 #[.int .u64 (h1 / 2), .int .u64 L, .int .u64 T] w (RDiv (n / 2 / T) ((h1 / 2 * 18446744073709551616 + L) % T) w)) := fun w => by
    rw [e1, ← hL3]
    exact div64_any (h1 / 2) L T w (by omega) hh hL2 bT.2
  have hq0 : 0 ≤ n / 2 / T := Int.ediv_nonneg (by omega) (by omega)
  have hm0 : 0 ≤ n / m := Int.ediv_nonneg (by omega) (by omega)
  generalize n / 2 / T = Q at *
  generalize n / m = q at *
  clear sh1 sh2 hL3 e1 e2 eT hn hm H1 H2
  obtain ⟨hg1, hg2, hg3⟩ := hg
  go_wp2_with fail
  refine (hdiv.out _).mono ?_
  rintro e w2 ⟨rfl, hb2⟩
  go_wp2_with fail
  · have hne : (Q / 2 ^ (63 - s).toNat != 0) = true := by assumption
    go_ret
    refine ⟨_, rfl, ?_, by (repeat (first | (with_reducible exact Below.refl _ _) | with_reducible assumption | (with_reducible refine below_alloc ?_ _) | (focus ((with_reducible refine below_set ?_ _ _ _ ?_); rotate_left; omega)) | (with_reducible refine Below.drew ?_) | (with_reducible refine below_call ?_ hb2) | (with_reducible refine below_call ?_ hb1)))⟩
    generalize Q / 2 ^ (63 - s).toNat = G at *
    rw [bne_iff_ne] at hne
    first | (rw [IntKind.wrap_u64]; omega) | omega
  · have hne : (Q / 2 ^ (63 - s).toNat != 0) = false := by assumption
    go_ret
    refine ⟨_, rfl, ?_, by (repeat (first | (with_reducible exact Below.refl _ _) | with_reducible assumption | (with_reducible refine below_alloc ?_ _) | (focus ((with_reducible refine below_set ?_ _ _ _ ?_); rotate_left; omega)) | (with_reducible refine Below.drew ?_) | (with_reducible refine below_call ?_ hb2) | (with_reducible refine below_call ?_ hb1)))⟩
    generalize Q / 2 ^ (63 - s).toNat = G at *
    rw [bne_eq_false_iff_eq] at hne
    omega
def RSS (q r : Int) (w : World) (e : Ending) (w' : World) : Prop := ∃ a b c d : Int, e = .returned (.tuple #[.agg #[.int .u64 a, .int .u64 b], .agg #[.int .u64 c, .int .u64 d]]) ∧ IsS a b q ∧ IsS c d r ∧ Below w.heap.size w w'
theorem div_lo {h1 l1 n m : Int} (H1 : IsS h1 l1 n) (m0 : 0 < m) (m1 : m < 18446744073709551616) :
    IsS (h1 / m) ((h1 % m * 18446744073709551616 + l1) / m) (n / m) ∧ IsS 0 ((h1 % m * 18446744073709551616 + l1) % m) (n % m) := by
  obtain ⟨b1, b2, rfl⟩ := H1
  have r0 := Int.emod_nonneg h1 (show m ≠ 0 by omega)
  have r1 := Int.emod_lt_of_pos h1 m0
  have e : h1 * 18446744073709551616 + l1 = (h1 % m * 18446744073709551616 + l1) + m * (h1 / m * 18446744073709551616) := by
    have := Int.mul_ediv_add_emod h1 m
    rw [← Int.mul_assoc]
    generalize m * (h1 / m) = k at *
    omega
  have q0 : 0 ≤ h1 / m := Int.ediv_nonneg b1.1 (by omega)
  have q1 : h1 / m ≤ h1 := Int.ediv_le_self _ b1.1
  have s0 := Int.emod_nonneg (h1 % m * 18446744073709551616 + l1) (show m ≠ 0 by omega)
  have s1 := Int.emod_lt_of_pos (h1 % m * 18446744073709551616 + l1) m0
  have t0 : 0 ≤ (h1 % m * 18446744073709551616 + l1) / m := Int.ediv_nonneg (by omega) (by omega)
  have t1 : (h1 % m * 18446744073709551616 + l1) / m < 18446744073709551616 := Int.ediv_lt_of_lt_mul m0 (by omega)
  constructor
  · refine ⟨by omega, by omega, ?_⟩
    rw [e, Int.add_mul_ediv_left _ _ (by omega)]
    omega
  · refine ⟨by omega, by omega, ?_⟩
    rw [e, Int.add_mul_emod_self_left]
    omega
set_option maxHeartbeats 2000000 in
set_option maxRecDepth 100000 in
theorem divSizes_lo (h1 l1 n l2 : Int) (w : World) (H1 : IsS h1 l1 n) (H2 : IsS 0 l2 l2) (m0 : 0 < l2) :
    Calls Try.prog 72 #[.agg #[.int .u64 h1, .int .u64 l1], .agg #[.int .u64 0, .int .u64 l2]] w (RSS (n / l2) (n % l2) w) := by
  have m1 : l2 < 18446744073709551616 := H2.2.1.2
  have hd := div_lo H1 m0 m1
  have HD := Lib.hid hd
  have b1 := H1.1; have b2 := H1.2.1
  have r0 := Int.emod_nonneg h1 (show l2 ≠ 0 by omega)
  have r1 := Int.emod_lt_of_pos h1 m0
  clear hd
  go_enter Try.func72, Try.ntmps72
  go_wp2_with fail
  refine (div64_any 0 h1 l2 _ (by omega) m0 b1 m1).mono ?_
  rintro e w1 ⟨rfl, hb1⟩
  rw [Int.zero_mul, Int.zero_add]
  have B_w1_0 : Box w1 (w.heap.size) (.int .u64 h1) (.int .u64 l1) := (by (repeat (first | with_reducible assumption | (focus ((with_reducible refine Box.new ?_); simp; done)) | (with_reducible refine Box.alloc ?_ _) | (with_reducible refine Box.drew ?_) | (with_reducible refine Box.put ?_) | (focus ((with_reducible refine Box.set ?_ _ ?_); rotate_left; omega)) | (focus ((with_reducible apply HasBox.of); with_reducible assumption)) | (focus ((with_reducible refine HasBox.new ?_); simp; done)) | (with_reducible refine HasBox.set ?_ _ _) | (with_reducible refine HasBox.drew ?_) | (with_reducible refine HasBox.alloc ?_ _) | (with_reducible refine Box.call ?_ hb1) | (with_reducible refine HasBox.call ?_ hb1)))); obtain ⟨⟨c_w1_0, d_w1_0⟩, f_w1_0, g_w1_0⟩ := id B_w1_0; have B_w1_1 : Box w1 (w.heap.size + 1) (.int .u64 0) (.int .u64 l2) := (by (repeat (first | with_reducible assumption | (focus ((with_reducible refine Box.new ?_); simp; done)) | (with_reducible refine Box.alloc ?_ _) | (with_reducible refine Box.drew ?_) | (with_reducible refine Box.put ?_) | (focus ((with_reducible refine Box.set ?_ _ ?_); rotate_left; omega)) | (focus ((with_reducible apply HasBox.of); with_reducible assumption)) | (focus ((with_reducible refine HasBox.new ?_); simp; done)) | (with_reducible refine HasBox.set ?_ _ _) | (with_reducible refine HasBox.drew ?_) | (with_reducible refine HasBox.alloc ?_ _) | (with_reducible refine Box.call ?_ hb1) | (with_reducible refine HasBox.call ?_ hb1)))); obtain ⟨⟨c_w1_1, d_w1_1⟩, f_w1_1, g_w1_1⟩ := id B_w1_1; have B_w1_2 : Box w1 (w.heap.size + 1 + 1) (.int .u64 0) (.int .u64 0) := (by (repeat (first | with_reducible assumption | (focus ((with_reducible refine Box.new ?_); simp; done)) | (with_reducible refine Box.alloc ?_ _) | (with_reducible refine Box.drew ?_) | (with_reducible refine Box.put ?_) | (focus ((with_reducible refine Box.set ?_ _ ?_); rotate_left; omega)) | (focus ((with_reducible apply HasBox.of); with_reducible assumption)) | (focus ((with_reducible refine HasBox.new ?_); simp; done)) | (with_reducible refine HasBox.set ?_ _ _) | (with_reducible refine HasBox.drew ?_) | (with_reducible refine HasBox.alloc ?_ _) | (with_reducible refine Box.call ?_ hb1) | (with_reducible refine HasBox.call ?_ hb1)))); obtain ⟨⟨c_w1_2, d_w1_2⟩, f_w1_2, g_w1_2⟩ := id B_w1_2; have B_w1_3 : Box w1 (w.heap.size + 1 + 1 + 1) (.int .u64 0) (.int .u64 0) := (by (repeat (first | with_reducible assumption | (focus ((with_reducible refine Box.new ?_); simp; done)) | (with_reducible refine Box.alloc ?_ _) | (with_reducible refine Box.drew ?_) | (with_reducible refine Box.put ?_) | (focus ((with_reducible refine Box.set ?_ _ ?_); rotate_left; omega)) | (focus ((with_reducible apply HasBox.of); with_reducible assumption)) | (focus ((with_reducible refine HasBox.new ?_); simp; done)) | (with_reducible refine HasBox.set ?_ _ _) | (with_reducible refine HasBox.drew ?_) | (with_reducible refine HasBox.alloc ?_ _) | (with_reducible refine Box.call ?_ hb1) | (with_reducible refine HasBox.call ?_ hb1)))); obtain ⟨⟨c_w1_3, d_w1_3⟩, f_w1_3, g_w1_3⟩ := id B_w1_3; have hz_hb1 := Below.size hb1; (try simp at hz_hb1); have ne_hb1_0 : ¬ w1.heap.size = w.heap.size := (by omega); have ne_hb1_1 : ¬ w1.heap.size = w.heap.size + 1 := (by omega); have ne_hb1_2 : ¬ w1.heap.size = w.heap.size + 1 + 1 := (by omega); have ne_hb1_3 : ¬ w1.heap.size = w.heap.size + 1 + 1 + 1 := (by omega); have en_hb1_0 : ¬ w.heap.size = w1.heap.size := (by omega); have en_hb1_1 : ¬ w.heap.size + 1 = w1.heap.size := (by omega); have en_hb1_2 : ¬ w.heap.size + 1 + 1 = w1.heap.size := (by omega); have en_hb1_3 : ¬ w.heap.size + 1 + 1 + 1 = w1.heap.size := (by omega); have lt_hb1_0 : w.heap.size < w1.heap.size := (by omega); have lt_hb1_1 : w.heap.size + 1 < w1.heap.size := (by omega); have lt_hb1_2 : w.heap.size + 1 + 1 < w1.heap.size := (by omega); have lt_hb1_3 : w.heap.size + 1 + 1 + 1 < w1.heap.size := (by omega)
  generalize h1 % l2 = R at *
  generalize h1 / l2 = Q at *
  go_wp2_with fail
  refine (div64_any R l1 l2 _ r0 r1 b2 m1).mono ?_
  rintro e w2 ⟨rfl, hb2⟩
  have B_w2_0 : Box w2 (w.heap.size) (.int .u64 h1) (.int .u64 l1) := (by (repeat (first | with_reducible assumption | (focus ((with_reducible refine Box.new ?_); simp; done)) | (with_reducible refine Box.alloc ?_ _) | (with_reducible refine Box.drew ?_) | (with_reducible refine Box.put ?_) | (focus ((with_reducible refine Box.set ?_ _ ?_); rotate_left; omega)) | (focus ((with_reducible apply HasBox.of); with_reducible assumption)) | (focus ((with_reducible refine HasBox.new ?_); simp; done)) | (with_reducible refine HasBox.set ?_ _ _) | (with_reducible refine HasBox.drew ?_) | (with_reducible refine HasBox.alloc ?_ _) | (with_reducible refine Box.call ?_ hb2) | (with_reducible refine HasBox.call ?_ hb2) | (with_reducible refine Box.call ?_ hb1) | (with_reducible refine HasBox.call ?_ hb1)))); obtain ⟨⟨c_w2_0, d_w2_0⟩, f_w2_0, g_w2_0⟩ := id B_w2_0; have B_w2_1 : Box w2 (w.heap.size + 1) (.int .u64 0) (.int .u64 l2) := (by (repeat (first | with_reducible assumption | (focus ((with_reducible refine Box.new ?_); simp; done)) | (with_reducible refine Box.alloc ?_ _) | (with_reducible refine Box.drew ?_) | (with_reducible refine Box.put ?_) | (focus ((with_reducible refine Box.set ?_ _ ?_); rotate_left; omega)) | (focus ((with_reducible apply HasBox.of); with_reducible assumption)) | (focus ((with_reducible refine HasBox.new ?_); simp; done)) | (with_reducible refine HasBox.set ?_ _ _) | (with_reducible refine HasBox.drew ?_) | (with_reducible refine HasBox.alloc ?_ _) | (with_reducible refine Box.call ?_ hb2) | (with_reducible refine HasBox.call ?_ hb2) | (with_reducible refine Box.call ?_ hb1) | (with_reducible refine HasBox.call ?_ hb1)))); obtain ⟨⟨c_w2_1, d_w2_1⟩, f_w2_1, g_w2_1⟩ := id B_w2_1; have B_w2_2 : Box w2 (w.heap.size + 1 + 1) (.int .u64 0) (.int .u64 0) := (by (repeat (first | with_reducible assumption | (focus ((with_reducible refine Box.new ?_); simp; done)) | (with_reducible refine Box.alloc ?_ _) | (with_reducible refine Box.drew ?_) | (with_reducible refine Box.put ?_) | (focus ((with_reducible refine Box.set ?_ _ ?_); rotate_left; omega)) | (focus ((with_reducible apply HasBox.of); with_reducible assumption)) | (focus ((with_reducible refine HasBox.new ?_); simp; done)) | (with_reducible refine HasBox.set ?_ _ _) | (with_reducible refine HasBox.drew ?_) | (with_reducible refine HasBox.alloc ?_ _) | (with_reducible refine Box.call ?_ hb2) | (with_reducible refine HasBox.call ?_ hb2) | (with_reducible refine Box.call ?_ hb1) | (with_reducible refine HasBox.call ?_ hb1)))); obtain ⟨⟨c_w2_2, d_w2_2⟩, f_w2_2, g_w2_2⟩ := id B_w2_2; have B_w2_3 : Box w2 (w.heap.size + 1 + 1 + 1) (.int .u64 0) (.int .u64 0) := (by (repeat (first | with_reducible assumption | (focus ((with_reducible refine Box.new ?_); simp; done)) | (with_reducible refine Box.alloc ?_ _) | (with_reducible refine Box.drew ?_) | (with_reducible refine Box.put ?_) | (focus ((with_reducible refine Box.set ?_ _ ?_); rotate_left; omega)) | (focus ((with_reducible apply HasBox.of); with_reducible assumption)) | (focus ((with_reducible refine HasBox.new ?_); simp; done)) | (with_reducible refine HasBox.set ?_ _ _) | (with_reducible refine HasBox.drew ?_) | (with_reducible refine HasBox.alloc ?_ _) | (with_reducible refine Box.call ?_ hb2) | (with_reducible refine HasBox.call ?_ hb2) | (with_reducible refine Box.call ?_ hb1) | (with_reducible refine HasBox.call ?_ hb1)))); obtain ⟨⟨c_w2_3, d_w2_3⟩, f_w2_3, g_w2_3⟩ := id B_w2_3; have hz_hb2 := Below.size hb2; (try simp at hz_hb2); have ne_hb2_0 : ¬ w2.heap.size = w.heap.size := (by omega); have ne_hb2_1 : ¬ w2.heap.size = w.heap.size + 1 := (by omega); have ne_hb2_2 : ¬ w2.heap.size = w.heap.size + 1 + 1 := (by omega); have ne_hb2_3 : ¬ w2.heap.size = w.heap.size + 1 + 1 + 1 := (by omega); have en_hb2_0 : ¬ w.heap.size = w2.heap.size := (by omega); have en_hb2_1 : ¬ w.heap.size + 1 = w2.heap.size := (by omega); have en_hb2_2 : ¬ w.heap.size + 1 + 1 = w2.heap.size := (by omega); have en_hb2_3 : ¬ w.heap.size + 1 + 1 + 1 = w2.heap.size := (by omega); have lt_hb2_0 : w.heap.size < w2.heap.size := (by omega); have lt_hb2_1 : w.heap.size + 1 < w2.heap.size := (by omega); have lt_hb2_2 : w.heap.size + 1 + 1 < w2.heap.size := (by omega); have lt_hb2_3 : w.heap.size + 1 + 1 + 1 < w2.heap.size := (by omega)
  generalize (R * 18446744073709551616 + l1) / l2 = Q2 at *
  generalize (R * 18446744073709551616 + l1) % l2 = R2 at *
  go_wp2_with fail
  refine bodyPost_ret (v := .tuple #[.agg #[.int .u64 Q, .int .u64 Q2], .agg #[.int .u64 0, .int .u64 R2]]) (by simp only [results, Try.results72]; go_simp) rfl ⟨_, _, _, _, rfl, HD.out.1, HD.out.2, ?_⟩
  (repeat (first | (with_reducible exact Below.refl _ _) | with_reducible assumption | (with_reducible refine below_alloc ?_ _) | (focus ((with_reducible refine below_set ?_ _ _ _ ?_); rotate_left; omega)) | (with_reducible refine Below.drew ?_) | (with_reducible refine below_call ?_ hb2) | (with_reducible refine below_call ?_ hb1)))
end Go.Proofs.Ytlhgmlebjnkonaa
namespace Go.Proofs.Ytlhgmlebjnkonaa
open Go.RowKit
set_option linter.unusedVariables false

theorem guess_fit {n m g : Int} (n0 : 0 ≤ n) (m0 : 0 < m) (n1 : n < 340282366920938463463374607431768211456) (h : g ≤ n / m) (g0 : 0 ≤ g) : fitS (g * m) = true ∧ g * m ≤ n := by
  have h1 : g * m ≤ n := (Int.le_ediv_iff_mul_le m0).1 h
  unfold fitS
  rw [decide_eq_true_eq]
  exact ⟨by omega, h1⟩
theorem guess_less {n m g : Int} (m0 : 0 < m) (h : g ≤ n / m) (k : n - g * m < m) : g = n / m ∧ n - g * m = n % m := by
  have h1 : g * m ≤ n := (Int.le_ediv_iff_mul_le m0).1 h
  have h2 : n / m < g + 1 := Int.ediv_lt_of_lt_mul m0 (by rw [Int.add_mul]; omega)
  have e : g = n / m := by omega
  refine ⟨e, ?_⟩
  rw [Int.emod_def, e, Int.mul_comm]
theorem guess_more {n m g : Int} (m0 : 0 < m) (h : n / m ≤ g + 1) (k : ¬ n - g * m < m) : g + 1 = n / m ∧ n - g * m - m = n % m := by
  have h2 : g + 1 ≤ n / m := (Int.le_ediv_iff_mul_le m0).2 (by rw [Int.add_mul]; omega)
  have e : g + 1 = n / m := by omega
  refine ⟨e, ?_⟩
  rw [Int.emod_def, ← e, Int.mul_comm m, Int.add_mul]
  omega
theorem quo_small {n m g : Int} (n0 : 0 ≤ n) (hn : n ≤ 170141183460469231731687303715884105728) (m0 : 18446744073709551616 ≤ m) (h : g ≤ n / m) : g < 9223372036854775809 := by
  rcases Int.lt_or_le g 9223372036854775809 with k | k
  · exact k
  · have h1 : g * m ≤ n := (Int.le_ediv_iff_mul_le (by omega)).1 h
    have h2 : 9223372036854775809 * 18446744073709551616 ≤ g * m := Int.mul_le_mul k m0 (by omega) (by omega)
    omega
set_option maxHeartbeats 4000000 in
set_option maxRecDepth 100000 in
theorem divSizes_hi (h1 l1 n h2 l2 m : Int) (w : World) (H1 : IsS h1 l1 n) (H2 : IsS h2 l2 m) (hn : n ≤ 170141183460469231731687303715884105728) (hm : h2 ≠ 0) :
    Calls Try.prog 72 #[.agg #[.int .u64 h1, .int .u64 l1], .agg #[.int .u64 h2, .int .u64 l2]] w (RSS (n / m) (n % m) w) := by
  have n0 : 0 ≤ n := by have := H1; unfold IsS at this; omega
  have m0 : 0 < m := by have := H2; unfold IsS at this; omega
  have nz : (h2 == 0) = false := by simpa using hm
  go_enter Try.func72, Try.ntmps72
  go_wp2_with fail
  refine (guess_any _ _ _ _ _ _ _ H1 H2 hn hm).mono ?_
  rintro e w1 ⟨g, rfl, ⟨g0, g1, g2, g3⟩, hb1⟩
  have B_w1_0 : Box w1 (w.heap.size) (.int .u64 h1) (.int .u64 l1) := (by (repeat (first | with_reducible assumption | (focus ((with_reducible refine Box.new ?_); simp; done)) | (with_reducible refine Box.alloc ?_ _) | (with_reducible refine Box.drew ?_) | (with_reducible refine Box.put ?_) | (focus ((with_reducible refine Box.set ?_ _ ?_); rotate_left; omega)) | (focus ((with_reducible apply HasBox.of); with_reducible assumption)) | (focus ((with_reducible refine HasBox.new ?_); simp; done)) | (with_reducible refine HasBox.set ?_ _ _) | (with_reducible refine HasBox.drew ?_) | (with_reducible refine HasBox.alloc ?_ _) | (with_reducible refine Box.call ?_ hb1) | (with_reducible refine HasBox.call ?_ hb1)))); obtain ⟨⟨c_w1_0, d_w1_0⟩, f_w1_0, g_w1_0⟩ := id B_w1_0; have B_w1_1 : Box w1 (w.heap.size + 1) (.int .u64 h2) (.int .u64 l2) := (by (repeat (first | with_reducible assumption | (focus ((with_reducible refine Box.new ?_); simp; done)) | (with_reducible refine Box.alloc ?_ _) | (with_reducible refine Box.drew ?_) | (with_reducible refine Box.put ?_) | (focus ((with_reducible refine Box.set ?_ _ ?_); rotate_left; omega)) | (focus ((with_reducible apply HasBox.of); with_reducible assumption)) | (focus ((with_reducible refine HasBox.new ?_); simp; done)) | (with_reducible refine HasBox.set ?_ _ _) | (with_reducible refine HasBox.drew ?_) | (with_reducible refine HasBox.alloc ?_ _) | (with_reducible refine Box.call ?_ hb1) | (with_reducible refine HasBox.call ?_ hb1)))); obtain ⟨⟨c_w1_1, d_w1_1⟩, f_w1_1, g_w1_1⟩ := id B_w1_1; have B_w1_2 : Box w1 (w.heap.size + 1 + 1) (.int .u64 0) (.int .u64 0) := (by (repeat (first | with_reducible assumption | (focus ((with_reducible refine Box.new ?_); simp; done)) | (with_reducible refine Box.alloc ?_ _) | (with_reducible refine Box.drew ?_) | (with_reducible refine Box.put ?_) | (focus ((with_reducible refine Box.set ?_ _ ?_); rotate_left; omega)) | (focus ((with_reducible apply HasBox.of); with_reducible assumption)) | (focus ((with_reducible refine HasBox.new ?_); simp; done)) | (with_reducible refine HasBox.set ?_ _ _) | (with_reducible refine HasBox.drew ?_) | (with_reducible refine HasBox.alloc ?_ _) | (with_reducible refine Box.call ?_ hb1) | (with_reducible refine HasBox.call ?_ hb1)))); obtain ⟨⟨c_w1_2, d_w1_2⟩, f_w1_2, g_w1_2⟩ := id B_w1_2; have B_w1_3 : Box w1 (w.heap.size + 1 + 1 + 1) (.int .u64 0) (.int .u64 0) := (by (repeat (first | with_reducible assumption | (focus ((with_reducible refine Box.new ?_); simp; done)) | (with_reducible refine Box.alloc ?_ _) | (with_reducible refine Box.drew ?_) | (with_reducible refine Box.put ?_) | (focus ((with_reducible refine Box.set ?_ _ ?_); rotate_left; omega)) | (focus ((with_reducible apply HasBox.of); with_reducible assumption)) | (focus ((with_reducible refine HasBox.new ?_); simp; done)) | (with_reducible refine HasBox.set ?_ _ _) | (with_reducible refine HasBox.drew ?_) | (with_reducible refine HasBox.alloc ?_ _) | (with_reducible refine Box.call ?_ hb1) | (with_reducible refine HasBox.call ?_ hb1)))); obtain ⟨⟨c_w1_3, d_w1_3⟩, f_w1_3, g_w1_3⟩ := id B_w1_3; have hz_hb1 := Below.size hb1; (try simp at hz_hb1); have ne_hb1_0 : ¬ w1.heap.size = w.heap.size := (by omega); have ne_hb1_1 : ¬ w1.heap.size = w.heap.size + 1 := (by omega); have ne_hb1_2 : ¬ w1.heap.size = w.heap.size + 1 + 1 := (by omega); have ne_hb1_3 : ¬ w1.heap.size = w.heap.size + 1 + 1 + 1 := (by omega); have en_hb1_0 : ¬ w.heap.size = w1.heap.size := (by omega); have en_hb1_1 : ¬ w.heap.size + 1 = w1.heap.size := (by omega); have en_hb1_2 : ¬ w.heap.size + 1 + 1 = w1.heap.size := (by omega); have en_hb1_3 : ¬ w.heap.size + 1 + 1 + 1 = w1.heap.size := (by omega); have lt_hb1_0 : w.heap.size < w1.heap.size := (by omega); have lt_hb1_1 : w.heap.size + 1 < w1.heap.size := (by omega); have lt_hb1_2 : w.heap.size + 1 + 1 < w1.heap.size := (by omega); have lt_hb1_3 : w.heap.size + 1 + 1 + 1 < w1.heap.size := (by omega)
  have hG : IsS 0 g g := by unfold IsS; omega
  obtain ⟨gf, gle⟩ := guess_fit n0 m0 (by omega) g1 g0
  have hless := guess_less m0 g1
  have hmore := guess_more m0 g2
  generalize hgm : g * m = gm at *
  have g4 : g < 9223372036854775809 := quo_small n0 hn (by have := H2; unfold IsS at this; omega) g1
  clear hm
  go_wp2_with fail
  refine (mulSizes_any _ _ _ _ _ _ _ hG H2).mono ?_
  rw [hgm]
  rintro e w2 ⟨ph, pl, rfl, hp, hb2⟩
  rw [if_pos gf] at hp
  clear hgm
  have B_w2_0 : Box w2 (w.heap.size) (.int .u64 h1) (.int .u64 l1) := (by (repeat (first | with_reducible assumption | (focus ((with_reducible refine Box.new ?_); simp; done)) | (with_reducible refine Box.alloc ?_ _) | (with_reducible refine Box.drew ?_) | (with_reducible refine Box.put ?_) | (focus ((with_reducible refine Box.set ?_ _ ?_); rotate_left; omega)) | (focus ((with_reducible apply HasBox.of); with_reducible assumption)) | (focus ((with_reducible refine HasBox.new ?_); simp; done)) | (with_reducible refine HasBox.set ?_ _ _) | (with_reducible refine HasBox.drew ?_) | (with_reducible refine HasBox.alloc ?_ _) | (with_reducible refine Box.call ?_ hb2) | (with_reducible refine HasBox.call ?_ hb2) | (with_reducible refine Box.call ?_ hb1) | (with_reducible refine HasBox.call ?_ hb1)))); obtain ⟨⟨c_w2_0, d_w2_0⟩, f_w2_0, g_w2_0⟩ := id B_w2_0; have B_w2_1 : Box w2 (w.heap.size + 1) (.int .u64 h2) (.int .u64 l2) := (by (repeat (first | with_reducible assumption | (focus ((with_reducible refine Box.new ?_); simp; done)) | (with_reducible refine Box.alloc ?_ _) | (with_reducible refine Box.drew ?_) | (with_reducible refine Box.put ?_) | (focus ((with_reducible refine Box.set ?_ _ ?_); rotate_left; omega)) | (focus ((with_reducible apply HasBox.of); with_reducible assumption)) | (focus ((with_reducible refine HasBox.new ?_); simp; done)) | (with_reducible refine HasBox.set ?_ _ _) | (with_reducible refine HasBox.drew ?_) | (with_reducible refine HasBox.alloc ?_ _) | (with_reducible refine Box.call ?_ hb2) | (with_reducible refine HasBox.call ?_ hb2) | (with_reducible refine Box.call ?_ hb1) | (with_reducible refine HasBox.call ?_ hb1)))); obtain ⟨⟨c_w2_1, d_w2_1⟩, f_w2_1, g_w2_1⟩ := id B_w2_1; have B_w2_2 : Box w2 (w.heap.size + 1 + 1) (.int .u64 0) (.int .u64 0) := (by (repeat (first | with_reducible assumption | (focus ((with_reducible refine Box.new ?_); simp; done)) | (with_reducible refine Box.alloc ?_ _) | (with_reducible refine Box.drew ?_) | (with_reducible refine Box.put ?_) | (focus ((with_reducible refine Box.set ?_ _ ?_); rotate_left; omega)) | (focus ((with_reducible apply HasBox.of); with_reducible assumption)) | (focus ((with_reducible refine HasBox.new ?_); simp; done)) | (with_reducible refine HasBox.set ?_ _ _) | (with_reducible refine HasBox.drew ?_) | (with_reducible refine HasBox.alloc ?_ _) | (with_reducible refine Box.call ?_ hb2) | (with_reducible refine HasBox.call ?_ hb2) | (with_reducible refine Box.call ?_ hb1) | (with_reducible refine HasBox.call ?_ hb1)))); obtain ⟨⟨c_w2_2, d_w2_2⟩, f_w2_2, g_w2_2⟩ := id B_w2_2; have B_w2_3 : Box w2 (w.heap.size + 1 + 1 + 1) (.int .u64 0) (.int .u64 0) := (by (repeat (first | with_reducible assumption | (focus ((with_reducible refine Box.new ?_); simp; done)) | (with_reducible refine Box.alloc ?_ _) | (with_reducible refine Box.drew ?_) | (with_reducible refine Box.put ?_) | (focus ((with_reducible refine Box.set ?_ _ ?_); rotate_left; omega)) | (focus ((with_reducible apply HasBox.of); with_reducible assumption)) | (focus ((with_reducible refine HasBox.new ?_); simp; done)) | (with_reducible refine HasBox.set ?_ _ _) | (with_reducible refine HasBox.drew ?_) | (with_reducible refine HasBox.alloc ?_ _) | (with_reducible refine Box.call ?_ hb2) | (with_reducible refine HasBox.call ?_ hb2) | (with_reducible refine Box.call ?_ hb1) | (with_reducible refine HasBox.call ?_ hb1)))); obtain ⟨⟨c_w2_3, d_w2_3⟩, f_w2_3, g_w2_3⟩ := id B_w2_3; have hz_hb2 := Below.size hb2; (try simp at hz_hb2); have ne_hb2_0 : ¬ w2.heap.size = w.heap.size := (by omega); have ne_hb2_1 : ¬ w2.heap.size = w.heap.size + 1 := (by omega); have ne_hb2_2 : ¬ w2.heap.size = w.heap.size + 1 + 1 := (by omega); have ne_hb2_3 : ¬ w2.heap.size = w.heap.size + 1 + 1 + 1 := (by omega); have en_hb2_0 : ¬ w.heap.size = w2.heap.size := (by omega); have en_hb2_1 : ¬ w.heap.size + 1 = w2.heap.size := (by omega); have en_hb2_2 : ¬ w.heap.size + 1 + 1 = w2.heap.size := (by omega); have en_hb2_3 : ¬ w.heap.size + 1 + 1 + 1 = w2.heap.size := (by omega); have lt_hb2_0 : w.heap.size < w2.heap.size := (by omega); have lt_hb2_1 : w.heap.size + 1 < w2.heap.size := (by omega); have lt_hb2_2 : w.heap.size + 1 + 1 < w2.heap.size := (by omega); have lt_hb2_3 : w.heap.size + 1 + 1 + 1 < w2.heap.size := (by omega)
  clear B_w1_0 c_w1_0 d_w1_0 f_w1_0 g_w1_0 B_w1_1 c_w1_1 d_w1_1 f_w1_1 g_w1_1 B_w1_2 c_w1_2 d_w1_2 f_w1_2 g_w1_2 B_w1_3 c_w1_3 d_w1_3 f_w1_3 g_w1_3 ne_hb1_0 en_hb1_0 lt_hb1_0 ne_hb1_1 en_hb1_1 lt_hb1_1 ne_hb1_2 en_hb1_2 lt_hb1_2 ne_hb1_3 en_hb1_3 lt_hb1_3
  go_wp2_with fail
  refine (subSizes_any _ _ _ _ _ _ _ H1 hp gle).mono ?_
  rintro e w3 ⟨rh, rl, rfl, hr, hb3⟩
  have B_w3_0 : Box w3 (w.heap.size) (.int .u64 h1) (.int .u64 l1) := (by (repeat (first | with_reducible assumption | (focus ((with_reducible refine Box.new ?_); simp; done)) | (with_reducible refine Box.alloc ?_ _) | (with_reducible refine Box.drew ?_) | (with_reducible refine Box.put ?_) | (focus ((with_reducible refine Box.set ?_ _ ?_); rotate_left; omega)) | (focus ((with_reducible apply HasBox.of); with_reducible assumption)) | (focus ((with_reducible refine HasBox.new ?_); simp; done)) | (with_reducible refine HasBox.set ?_ _ _) | (with_reducible refine HasBox.drew ?_) | (with_reducible refine HasBox.alloc ?_ _) | (with_reducible refine Box.call ?_ hb3) | (with_reducible refine HasBox.call ?_ hb3) | (with_reducible refine Box.call ?_ hb2) | (with_reducible refine HasBox.call ?_ hb2) | (with_reducible refine Box.call ?_ hb1) | (with_reducible refine HasBox.call ?_ hb1)))); obtain ⟨⟨c_w3_0, d_w3_0⟩, f_w3_0, g_w3_0⟩ := id B_w3_0; have B_w3_1 : Box w3 (w.heap.size + 1) (.int .u64 h2) (.int .u64 l2) := (by (repeat (first | with_reducible assumption | (focus ((with_reducible refine Box.new ?_); simp; done)) | (with_reducible refine Box.alloc ?_ _) | (with_reducible refine Box.drew ?_) | (with_reducible refine Box.put ?_) | (focus ((with_reducible refine Box.set ?_ _ ?_); rotate_left; omega)) | (focus ((with_reducible apply HasBox.of); with_reducible assumption)) | (focus ((with_reducible refine HasBox.new ?_); simp; done)) | (with_reducible refine HasBox.set ?_ _ _) | (with_reducible refine HasBox.drew ?_) | (with_reducible refine HasBox.alloc ?_ _) | (with_reducible refine Box.call ?_ hb3) | (with_reducible refine HasBox.call ?_ hb3) | (with_reducible refine Box.call ?_ hb2) | (with_reducible refine HasBox.call ?_ hb2) | (with_reducible refine Box.call ?_ hb1) | (with_reducible refine HasBox.call ?_ hb1)))); obtain ⟨⟨c_w3_1, d_w3_1⟩, f_w3_1, g_w3_1⟩ := id B_w3_1; have B_w3_2 : Box w3 (w.heap.size + 1 + 1) (.int .u64 0) (.int .u64 0) := (by (repeat (first | with_reducible assumption | (focus ((with_reducible refine Box.new ?_); simp; done)) | (with_reducible refine Box.alloc ?_ _) | (with_reducible refine Box.drew ?_) | (with_reducible refine Box.put ?_) | (focus ((with_reducible refine Box.set ?_ _ ?_); rotate_left; omega)) | (focus ((with_reducible apply HasBox.of); with_reducible assumption)) | (focus ((with_reducible refine HasBox.new ?_); simp; done)) | (with_reducible refine HasBox.set ?_ _ _) | (with_reducible refine HasBox.drew ?_) | (with_reducible refine HasBox.alloc ?_ _) | (with_reducible refine Box.call ?_ hb3) | (with_reducible refine HasBox.call ?_ hb3) | (with_reducible refine Box.call ?_ hb2) | (with_reducible refine HasBox.call ?_ hb2) | (with_reducible refine Box.call ?_ hb1) | (with_reducible refine HasBox.call ?_ hb1)))); obtain ⟨⟨c_w3_2, d_w3_2⟩, f_w3_2, g_w3_2⟩ := id B_w3_2; have B_w3_3 : Box w3 (w.heap.size + 1 + 1 + 1) (.int .u64 0) (.int .u64 0) := (by (repeat (first | with_reducible assumption | (focus ((with_reducible refine Box.new ?_); simp; done)) | (with_reducible refine Box.alloc ?_ _) | (with_reducible refine Box.drew ?_) | (with_reducible refine Box.put ?_) | (focus ((with_reducible refine Box.set ?_ _ ?_); rotate_left; omega)) | (focus ((with_reducible apply HasBox.of); with_reducible assumption)) | (focus ((with_reducible refine HasBox.new ?_); simp; done)) | (with_reducible refine HasBox.set ?_ _ _) | (with_reducible refine HasBox.drew ?_) | (with_reducible refine HasBox.alloc ?_ _) | (with_reducible refine Box.call ?_ hb3) | (with_reducible refine HasBox.call ?_ hb3) | (with_reducible refine Box.call ?_ hb2) | (with_reducible refine HasBox.call ?_ hb2) | (with_reducible refine Box.call ?_ hb1) | (with_reducible refine HasBox.call ?_ hb1)))); obtain ⟨⟨c_w3_3, d_w3_3⟩, f_w3_3, g_w3_3⟩ := id B_w3_3; have hz_hb3 := Below.size hb3; (try simp at hz_hb3); have ne_hb3_0 : ¬ w3.heap.size = w.heap.size := (by omega); have ne_hb3_1 : ¬ w3.heap.size = w.heap.size + 1 := (by omega); have ne_hb3_2 : ¬ w3.heap.size = w.heap.size + 1 + 1 := (by omega); have ne_hb3_3 : ¬ w3.heap.size = w.heap.size + 1 + 1 + 1 := (by omega); have en_hb3_0 : ¬ w.heap.size = w3.heap.size := (by omega); have en_hb3_1 : ¬ w.heap.size + 1 = w3.heap.size := (by omega); have en_hb3_2 : ¬ w.heap.size + 1 + 1 = w3.heap.size := (by omega); have en_hb3_3 : ¬ w.heap.size + 1 + 1 + 1 = w3.heap.size := (by omega); have lt_hb3_0 : w.heap.size < w3.heap.size := (by omega); have lt_hb3_1 : w.heap.size + 1 < w3.heap.size := (by omega); have lt_hb3_2 : w.heap.size + 1 + 1 < w3.heap.size := (by omega); have lt_hb3_3 : w.heap.size + 1 + 1 + 1 < w3.heap.size := (by omega)
  clear B_w2_0 c_w2_0 d_w2_0 f_w2_0 g_w2_0 B_w2_1 c_w2_1 d_w2_1 f_w2_1 g_w2_1 B_w2_2 c_w2_2 d_w2_2 f_w2_2 g_w2_2 B_w2_3 c_w2_3 d_w2_3 f_w2_3 g_w2_3 ne_hb2_0 en_hb2_0 lt_hb2_0 ne_hb2_1 en_hb2_1 lt_hb2_1 ne_hb2_2 en_hb2_2 lt_hb2_2 ne_hb2_3 en_hb2_3 lt_hb2_3
  go_wp2_with fail
  refine (lessSize_any _ _ _ _ _ _ _ hr H2).mono ?_
  rintro e w4 ⟨rfl, hb4⟩
  have nx3 : ¬ w.heap.size + 1 + 1 + 1 = w.heap.size := by omega
  have nx2 : ¬ w.heap.size + 1 + 1 = w.heap.size := by omega
  have B_w4_0 : Box w4 (w.heap.size) (.int .u64 h1) (.int .u64 l1) := (by (repeat (first | with_reducible assumption | (focus ((with_reducible refine Box.new ?_); simp; done)) | (with_reducible refine Box.alloc ?_ _) | (with_reducible refine Box.drew ?_) | (with_reducible refine Box.put ?_) | (focus ((with_reducible refine Box.set ?_ _ ?_); rotate_left; omega)) | (focus ((with_reducible apply HasBox.of); with_reducible assumption)) | (focus ((with_reducible refine HasBox.new ?_); simp; done)) | (with_reducible refine HasBox.set ?_ _ _) | (with_reducible refine HasBox.drew ?_) | (with_reducible refine HasBox.alloc ?_ _) | (with_reducible refine Box.call ?_ hb4) | (with_reducible refine HasBox.call ?_ hb4) | (with_reducible refine Box.call ?_ hb3) | (with_reducible refine HasBox.call ?_ hb3) | (with_reducible refine Box.call ?_ hb2) | (with_reducible refine HasBox.call ?_ hb2) | (with_reducible refine Box.call ?_ hb1) | (with_reducible refine HasBox.call ?_ hb1)))); obtain ⟨⟨c_w4_0, d_w4_0⟩, f_w4_0, g_w4_0⟩ := id B_w4_0; have B_w4_1 : Box w4 (w.heap.size + 1) (.int .u64 h2) (.int .u64 l2) := (by (repeat (first | with_reducible assumption | (focus ((with_reducible refine Box.new ?_); simp; done)) | (with_reducible refine Box.alloc ?_ _) | (with_reducible refine Box.drew ?_) | (with_reducible refine Box.put ?_) | (focus ((with_reducible refine Box.set ?_ _ ?_); rotate_left; omega)) | (focus ((with_reducible apply HasBox.of); with_reducible assumption)) | (focus ((with_reducible refine HasBox.new ?_); simp; done)) | (with_reducible refine HasBox.set ?_ _ _) | (with_reducible refine HasBox.drew ?_) | (with_reducible refine HasBox.alloc ?_ _) | (with_reducible refine Box.call ?_ hb4) | (with_reducible refine HasBox.call ?_ hb4) | (with_reducible refine Box.call ?_ hb3) | (with_reducible refine HasBox.call ?_ hb3) | (with_reducible refine Box.call ?_ hb2) | (with_reducible refine HasBox.call ?_ hb2) | (with_reducible refine Box.call ?_ hb1) | (with_reducible refine HasBox.call ?_ hb1)))); obtain ⟨⟨c_w4_1, d_w4_1⟩, f_w4_1, g_w4_1⟩ := id B_w4_1; have B_w4_2 : Box w4 (w.heap.size + 1 + 1) (.int .u64 0) (.int .u64 0) := (by (repeat (first | with_reducible assumption | (focus ((with_reducible refine Box.new ?_); simp; done)) | (with_reducible refine Box.alloc ?_ _) | (with_reducible refine Box.drew ?_) | (with_reducible refine Box.put ?_) | (focus ((with_reducible refine Box.set ?_ _ ?_); rotate_left; omega)) | (focus ((with_reducible apply HasBox.of); with_reducible assumption)) | (focus ((with_reducible refine HasBox.new ?_); simp; done)) | (with_reducible refine HasBox.set ?_ _ _) | (with_reducible refine HasBox.drew ?_) | (with_reducible refine HasBox.alloc ?_ _) | (with_reducible refine Box.call ?_ hb4) | (with_reducible refine HasBox.call ?_ hb4) | (with_reducible refine Box.call ?_ hb3) | (with_reducible refine HasBox.call ?_ hb3) | (with_reducible refine Box.call ?_ hb2) | (with_reducible refine HasBox.call ?_ hb2) | (with_reducible refine Box.call ?_ hb1) | (with_reducible refine HasBox.call ?_ hb1)))); obtain ⟨⟨c_w4_2, d_w4_2⟩, f_w4_2, g_w4_2⟩ := id B_w4_2; have B_w4_3 : Box w4 (w.heap.size + 1 + 1 + 1) (.int .u64 rh) (.int .u64 rl) := (by (repeat (first | with_reducible assumption | (focus ((with_reducible refine Box.new ?_); simp; done)) | (with_reducible refine Box.alloc ?_ _) | (with_reducible refine Box.drew ?_) | (with_reducible refine Box.put ?_) | (focus ((with_reducible refine Box.set ?_ _ ?_); rotate_left; omega)) | (focus ((with_reducible apply HasBox.of); with_reducible assumption)) | (focus ((with_reducible refine HasBox.new ?_); simp; done)) | (with_reducible refine HasBox.set ?_ _ _) | (with_reducible refine HasBox.drew ?_) | (with_reducible refine HasBox.alloc ?_ _) | (with_reducible refine Box.call ?_ hb4) | (with_reducible refine HasBox.call ?_ hb4) | (with_reducible refine Box.call ?_ hb3) | (with_reducible refine HasBox.call ?_ hb3) | (with_reducible refine Box.call ?_ hb2) | (with_reducible refine HasBox.call ?_ hb2) | (with_reducible refine Box.call ?_ hb1) | (with_reducible refine HasBox.call ?_ hb1)))); obtain ⟨⟨c_w4_3, d_w4_3⟩, f_w4_3, g_w4_3⟩ := id B_w4_3; have hz_hb4 := Below.size hb4; (try simp at hz_hb4); have ne_hb4_0 : ¬ w4.heap.size = w.heap.size := (by omega); have ne_hb4_1 : ¬ w4.heap.size = w.heap.size + 1 := (by omega); have ne_hb4_2 : ¬ w4.heap.size = w.heap.size + 1 + 1 := (by omega); have ne_hb4_3 : ¬ w4.heap.size = w.heap.size + 1 + 1 + 1 := (by omega); have en_hb4_0 : ¬ w.heap.size = w4.heap.size := (by omega); have en_hb4_1 : ¬ w.heap.size + 1 = w4.heap.size := (by omega); have en_hb4_2 : ¬ w.heap.size + 1 + 1 = w4.heap.size := (by omega); have en_hb4_3 : ¬ w.heap.size + 1 + 1 + 1 = w4.heap.size := (by omega); have lt_hb4_0 : w.heap.size < w4.heap.size := (by omega); have lt_hb4_1 : w.heap.size + 1 < w4.heap.size := (by omega); have lt_hb4_2 : w.heap.size + 1 + 1 < w4.heap.size := (by omega); have lt_hb4_3 : w.heap.size + 1 + 1 + 1 < w4.heap.size := (by omega)
  clear B_w3_0 c_w3_0 d_w3_0 f_w3_0 g_w3_0 B_w3_1 c_w3_1 d_w3_1 f_w3_1 g_w3_1 B_w3_2 c_w3_2 d_w3_2 f_w3_2 g_w3_2 B_w3_3 c_w3_3 d_w3_3 f_w3_3 g_w3_3 ne_hb3_0 en_hb3_0 lt_hb3_0 ne_hb3_1 en_hb3_1 lt_hb3_1 ne_hb3_2 en_hb3_2 lt_hb3_2 ne_hb3_3 en_hb3_3 lt_hb3_3
  by_cases hl : n - gm < m
  · obtain ⟨q1, q2⟩ := hless (by omega)
    have HQ := Lib.hid q1; have HR := Lib.hid q2
    clear hless hmore q1 q2
    go_wp2_with fail
    go_region
    all_goals
      go_wp2_with fail
      refine bodyPost_at ?_; intro Wf hWf; have B_Wf_0 : Box Wf (w.heap.size + 1 + 1) (.int .u64 0) (.int .u64 g) := (by rw [hWf]; (repeat (first | with_reducible assumption | (focus ((with_reducible refine Box.new ?_); simp; done)) | (with_reducible refine Box.alloc ?_ _) | (with_reducible refine Box.drew ?_) | (with_reducible refine Box.put ?_) | (focus ((with_reducible refine Box.set ?_ _ ?_); rotate_left; omega)) | (focus ((with_reducible apply HasBox.of); with_reducible assumption)) | (focus ((with_reducible refine HasBox.new ?_); simp; done)) | (with_reducible refine HasBox.set ?_ _ _) | (with_reducible refine HasBox.drew ?_) | (with_reducible refine HasBox.alloc ?_ _) | (with_reducible refine Box.call ?_ hb4) | (with_reducible refine HasBox.call ?_ hb4) | (with_reducible refine Box.call ?_ hb3) | (with_reducible refine HasBox.call ?_ hb3) | (with_reducible refine Box.call ?_ hb2) | (with_reducible refine HasBox.call ?_ hb2) | (with_reducible refine Box.call ?_ hb1) | (with_reducible refine HasBox.call ?_ hb1)))); obtain ⟨⟨c_Wf_0, d_Wf_0⟩, f_Wf_0, g_Wf_0⟩ := id B_Wf_0; have B_Wf_1 : Box Wf (w.heap.size + 1 + 1 + 1) (.int .u64 rh) (.int .u64 rl) := (by rw [hWf]; (repeat (first | with_reducible assumption | (focus ((with_reducible refine Box.new ?_); simp; done)) | (with_reducible refine Box.alloc ?_ _) | (with_reducible refine Box.drew ?_) | (with_reducible refine Box.put ?_) | (focus ((with_reducible refine Box.set ?_ _ ?_); rotate_left; omega)) | (focus ((with_reducible apply HasBox.of); with_reducible assumption)) | (focus ((with_reducible refine HasBox.new ?_); simp; done)) | (with_reducible refine HasBox.set ?_ _ _) | (with_reducible refine HasBox.drew ?_) | (with_reducible refine HasBox.alloc ?_ _) | (with_reducible refine Box.call ?_ hb4) | (with_reducible refine HasBox.call ?_ hb4) | (with_reducible refine Box.call ?_ hb3) | (with_reducible refine HasBox.call ?_ hb3) | (with_reducible refine Box.call ?_ hb2) | (with_reducible refine HasBox.call ?_ hb2) | (with_reducible refine Box.call ?_ hb1) | (with_reducible refine HasBox.call ?_ hb1)))); obtain ⟨⟨c_Wf_1, d_Wf_1⟩, f_Wf_1, g_Wf_1⟩ := id B_Wf_1; have hbl : Below w.heap.size w Wf := (by rw [hWf]; (repeat (first | (with_reducible exact Below.refl _ _) | with_reducible assumption | (with_reducible refine below_alloc ?_ _) | (focus ((with_reducible refine below_set ?_ _ _ _ ?_); rotate_left; omega)) | (with_reducible refine Below.drew ?_) | (with_reducible refine below_call ?_ hb4) | (with_reducible refine below_call ?_ hb3) | (with_reducible refine below_call ?_ hb2) | (with_reducible refine below_call ?_ hb1)))); clear hWf
      exact bodyPost_ret (v := .tuple #[.agg #[.int .u64 0, .int .u64 g], .agg #[.int .u64 rh, .int .u64 rl]]) (by simp only [results, Try.results72]; go_simp) rfl ⟨_, _, _, _, rfl, hG.conv HQ.out, hr.conv HR.out, hbl⟩
  · obtain ⟨q1, q2⟩ := hmore (by omega)
    have HQ := Lib.hid q1; have HR := Lib.hid q2
    have hG1 : IsS 0 (g + 1) (g + 1) := by unfold IsS; omega
    have hsub : Hid (∀ w, Calls Try.prog 86 #[.agg #[.int .u64 rh, .int .u64 rl], .agg #[.int .u64 h2, .int .u64 l2]] w (RS (n - gm - m) w)) := fun w => subSizes_any _ _ _ _ _ _ w hr H2 (by omega)
    have hl' : decide (n - gm < m) = false := decide_eq_false (by omega)
    clear hless hmore q1 q2 hl
    go_wp2_with fail
    refine (hsub.out _).mono ?_
    rintro e w5 ⟨th, tl, rfl, ht, hb5⟩
    have B_w5_0 : Box w5 (w.heap.size) (.int .u64 h1) (.int .u64 l1) := (by (repeat (first | with_reducible assumption | (focus ((with_reducible refine Box.new ?_); simp; done)) | (with_reducible refine Box.alloc ?_ _) | (with_reducible refine Box.drew ?_) | (with_reducible refine Box.put ?_) | (focus ((with_reducible refine Box.set ?_ _ ?_); rotate_left; omega)) | (focus ((with_reducible apply HasBox.of); with_reducible assumption)) | (focus ((with_reducible refine HasBox.new ?_); simp; done)) | (with_reducible refine HasBox.set ?_ _ _) | (with_reducible refine HasBox.drew ?_) | (with_reducible refine HasBox.alloc ?_ _) | (with_reducible refine Box.call ?_ hb5) | (with_reducible refine HasBox.call ?_ hb5) | (with_reducible refine Box.call ?_ hb4) | (with_reducible refine HasBox.call ?_ hb4) | (with_reducible refine Box.call ?_ hb3) | (with_reducible refine HasBox.call ?_ hb3) | (with_reducible refine Box.call ?_ hb2) | (with_reducible refine HasBox.call ?_ hb2) | (with_reducible refine Box.call ?_ hb1) | (with_reducible refine HasBox.call ?_ hb1)))); obtain ⟨⟨c_w5_0, d_w5_0⟩, f_w5_0, g_w5_0⟩ := id B_w5_0; have B_w5_1 : Box w5 (w.heap.size + 1) (.int .u64 h2) (.int .u64 l2) := (by (repeat (first | with_reducible assumption | (focus ((with_reducible refine Box.new ?_); simp; done)) | (with_reducible refine Box.alloc ?_ _) | (with_reducible refine Box.drew ?_) | (with_reducible refine Box.put ?_) | (focus ((with_reducible refine Box.set ?_ _ ?_); rotate_left; omega)) | (focus ((with_reducible apply HasBox.of); with_reducible assumption)) | (focus ((with_reducible refine HasBox.new ?_); simp; done)) | (with_reducible refine HasBox.set ?_ _ _) | (with_reducible refine HasBox.drew ?_) | (with_reducible refine HasBox.alloc ?_ _) | (with_reducible refine Box.call ?_ hb5) | (with_reducible refine HasBox.call ?_ hb5) | (with_reducible refine Box.call ?_ hb4) | (with_reducible refine HasBox.call ?_ hb4) | (with_reducible refine Box.call ?_ hb3) | (with_reducible refine HasBox.call ?_ hb3) | (with_reducible refine Box.call ?_ hb2) | (with_reducible refine HasBox.call ?_ hb2) | (with_reducible refine Box.call ?_ hb1) | (with_reducible refine HasBox.call ?_ hb1)))); obtain ⟨⟨c_w5_1, d_w5_1⟩, f_w5_1, g_w5_1⟩ := id B_w5_1; have B_w5_2 : Box w5 (w.heap.size + 1 + 1) (.int .u64 0) (.int .u64 0) := (by (repeat (first | with_reducible assumption | (focus ((with_reducible refine Box.new ?_); simp; done)) | (with_reducible refine Box.alloc ?_ _) | (with_reducible refine Box.drew ?_) | (with_reducible refine Box.put ?_) | (focus ((with_reducible refine Box.set ?_ _ ?_); rotate_left; omega)) | (focus ((with_reducible apply HasBox.of); with_reducible assumption)) | (focus ((with_reducible refine HasBox.new ?_); simp; done)) | (with_reducible refine HasBox.set ?_ _ _) | (with_reducible refine HasBox.drew ?_) | (with_reducible refine HasBox.alloc ?_ _) | (with_reducible refine Box.call ?_ hb5) | (with_reducible refine HasBox.call ?_ hb5) | (with_reducible refine Box.call ?_ hb4) | (with_reducible refine HasBox.call ?_ hb4) | (with_reducible refine Box.call ?_ hb3) | (with_reducible refine HasBox.call ?_ hb3) | (with_reducible refine Box.call ?_ hb2) | (with_reducible refine HasBox.call ?_ hb2) | (with_reducible refine Box.call ?_ hb1) | (with_reducible refine HasBox.call ?_ hb1)))); obtain ⟨⟨c_w5_2, d_w5_2⟩, f_w5_2, g_w5_2⟩ := id B_w5_2; have B_w5_3 : Box w5 (w.heap.size + 1 + 1 + 1) (.int .u64 rh) (.int .u64 rl) := (by (repeat (first | with_reducible assumption | (focus ((with_reducible refine Box.new ?_); simp; done)) | (with_reducible refine Box.alloc ?_ _) | (with_reducible refine Box.drew ?_) | (with_reducible refine Box.put ?_) | (focus ((with_reducible refine Box.set ?_ _ ?_); rotate_left; omega)) | (focus ((with_reducible apply HasBox.of); with_reducible assumption)) | (focus ((with_reducible refine HasBox.new ?_); simp; done)) | (with_reducible refine HasBox.set ?_ _ _) | (with_reducible refine HasBox.drew ?_) | (with_reducible refine HasBox.alloc ?_ _) | (with_reducible refine Box.call ?_ hb5) | (with_reducible refine HasBox.call ?_ hb5) | (with_reducible refine Box.call ?_ hb4) | (with_reducible refine HasBox.call ?_ hb4) | (with_reducible refine Box.call ?_ hb3) | (with_reducible refine HasBox.call ?_ hb3) | (with_reducible refine Box.call ?_ hb2) | (with_reducible refine HasBox.call ?_ hb2) | (with_reducible refine Box.call ?_ hb1) | (with_reducible refine HasBox.call ?_ hb1)))); obtain ⟨⟨c_w5_3, d_w5_3⟩, f_w5_3, g_w5_3⟩ := id B_w5_3; have hz_hb5 := Below.size hb5; (try simp at hz_hb5); have ne_hb5_0 : ¬ w5.heap.size = w.heap.size := (by omega); have ne_hb5_1 : ¬ w5.heap.size = w.heap.size + 1 := (by omega); have ne_hb5_2 : ¬ w5.heap.size = w.heap.size + 1 + 1 := (by omega); have ne_hb5_3 : ¬ w5.heap.size = w.heap.size + 1 + 1 + 1 := (by omega); have en_hb5_0 : ¬ w.heap.size = w5.heap.size := (by omega); have en_hb5_1 : ¬ w.heap.size + 1 = w5.heap.size := (by omega); have en_hb5_2 : ¬ w.heap.size + 1 + 1 = w5.heap.size := (by omega); have en_hb5_3 : ¬ w.heap.size + 1 + 1 + 1 = w5.heap.size := (by omega); have lt_hb5_0 : w.heap.size < w5.heap.size := (by omega); have lt_hb5_1 : w.heap.size + 1 < w5.heap.size := (by omega); have lt_hb5_2 : w.heap.size + 1 + 1 < w5.heap.size := (by omega); have lt_hb5_3 : w.heap.size + 1 + 1 + 1 < w5.heap.size := (by omega)
    clear B_w4_0 c_w4_0 d_w4_0 f_w4_0 g_w4_0 B_w4_1 c_w4_1 d_w4_1 f_w4_1 g_w4_1 B_w4_2 c_w4_2 d_w4_2 f_w4_2 g_w4_2 B_w4_3 c_w4_3 d_w4_3 f_w4_3 g_w4_3 ne_hb4_0 en_hb4_0 lt_hb4_0 ne_hb4_1 en_hb4_1 lt_hb4_1 ne_hb4_2 en_hb4_2 lt_hb4_2 ne_hb4_3 en_hb4_3 lt_hb4_3
    go_wp2_with fail
    go_region
    all_goals
      go_wp2_with fail
      refine bodyPost_at ?_; intro Wf hWf; have B_Wf_0 : Box Wf (w.heap.size + 1 + 1) (.int .u64 0) (.int .u64 (g + 1)) := (by rw [hWf]; (repeat (first | with_reducible assumption | (focus ((with_reducible refine Box.new ?_); simp; done)) | (with_reducible refine Box.alloc ?_ _) | (with_reducible refine Box.drew ?_) | (with_reducible refine Box.put ?_) | (focus ((with_reducible refine Box.set ?_ _ ?_); rotate_left; omega)) | (focus ((with_reducible apply HasBox.of); with_reducible assumption)) | (focus ((with_reducible refine HasBox.new ?_); simp; done)) | (with_reducible refine HasBox.set ?_ _ _) | (with_reducible refine HasBox.drew ?_) | (with_reducible refine HasBox.alloc ?_ _) | (with_reducible refine Box.call ?_ hb5) | (with_reducible refine HasBox.call ?_ hb5) | (with_reducible refine Box.call ?_ hb4) | (with_reducible refine HasBox.call ?_ hb4) | (with_reducible refine Box.call ?_ hb3) | (with_reducible refine HasBox.call ?_ hb3) | (with_reducible refine Box.call ?_ hb2) | (with_reducible refine HasBox.call ?_ hb2) | (with_reducible refine Box.call ?_ hb1) | (with_reducible refine HasBox.call ?_ hb1)))); obtain ⟨⟨c_Wf_0, d_Wf_0⟩, f_Wf_0, g_Wf_0⟩ := id B_Wf_0; have B_Wf_1 : Box Wf (w.heap.size + 1 + 1 + 1) (.int .u64 th) (.int .u64 tl) := (by rw [hWf]; (repeat (first | with_reducible assumption | (focus ((with_reducible refine Box.new ?_); simp; done)) | (with_reducible refine Box.alloc ?_ _) | (with_reducible refine Box.drew ?_) | (with_reducible refine Box.put ?_) | (focus ((with_reducible refine Box.set ?_ _ ?_); rotate_left; omega)) | (focus ((with_reducible apply HasBox.of); with_reducible assumption)) | (focus ((with_reducible refine HasBox.new ?_); simp; done)) | (with_reducible refine HasBox.set ?_ _ _) | (with_reducible refine HasBox.drew ?_) | (with_reducible refine HasBox.alloc ?_ _) | (with_reducible refine Box.call ?_ hb5) | (with_reducible refine HasBox.call ?_ hb5) | (with_reducible refine Box.call ?_ hb4) | (with_reducible refine HasBox.call ?_ hb4) | (with_reducible refine Box.call ?_ hb3) | (with_reducible refine HasBox.call ?_ hb3) | (with_reducible refine Box.call ?_ hb2) | (with_reducible refine HasBox.call ?_ hb2) | (with_reducible refine Box.call ?_ hb1) | (with_reducible refine HasBox.call ?_ hb1)))); obtain ⟨⟨c_Wf_1, d_Wf_1⟩, f_Wf_1, g_Wf_1⟩ := id B_Wf_1; have hbl : Below w.heap.size w Wf := (by rw [hWf]; (repeat (first | (with_reducible exact Below.refl _ _) | with_reducible assumption | (with_reducible refine below_alloc ?_ _) | (focus ((with_reducible refine below_set ?_ _ _ _ ?_); rotate_left; omega)) | (with_reducible refine Below.drew ?_) | (with_reducible refine below_call ?_ hb5) | (with_reducible refine below_call ?_ hb4) | (with_reducible refine below_call ?_ hb3) | (with_reducible refine below_call ?_ hb2) | (with_reducible refine below_call ?_ hb1)))); clear hWf
      exact bodyPost_ret (v := .tuple #[.agg #[.int .u64 0, .int .u64 (g + 1)], .agg #[.int .u64 th, .int .u64 tl]]) (by simp only [results, Try.results72]; go_simp) rfl ⟨_, _, _, _, rfl, hG1.conv HQ.out, ht.conv HR.out, hbl⟩
theorem divSizes_any (h1 l1 n h2 l2 m : Int) (w : World) (H1 : IsS h1 l1 n) (H2 : IsS h2 l2 m) (hn : n ≤ 170141183460469231731687303715884105728) (m0 : 0 < m) :
    Calls Try.prog 72 #[.agg #[.int .u64 h1, .int .u64 l1], .agg #[.int .u64 h2, .int .u64 l2]] w (RSS (n / m) (n % m) w) := by
  by_cases k : h2 = 0
  · subst k
    obtain ⟨a, b, e⟩ := id H2
    rw [Int.zero_mul, Int.zero_add] at e
    subst e
    exact divSizes_lo h1 l1 n m w H1 H2 m0
  · exact divSizes_hi h1 l1 n h2 l2 m w H1 H2 hn k
end Go.Proofs.Ytlhgmlebjnkonaa
