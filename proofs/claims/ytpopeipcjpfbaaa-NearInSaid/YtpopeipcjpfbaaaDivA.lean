/-
  Plain arithmetic of a long division by two digits of 32 bits. My own text; no program is named.
  Plain arithmetic of the guess at a quotient by a divisor of more than 64 bits. My own text; no program is named.
  math/bits.Div64: the quotient, and what is left. My own text.
  Contracts of package wide: quotients. My own text.
  Contracts of package wide: quotients by divisors of more than 64 bits; Div. My own text.
-/
import Derived.Test.YtpopeipcjpfbaaaWideC
import Derived.Deep.QuietTactic
import Derived.Deep.DeepCutAuto
import Derived.Deep.CutBlock
namespace Go.Proofs.Ytpopeipcjpfbaaa
set_option linter.unusedVariables false

/-- what holds of the divisor's two digits, of what is divided, and of the next digit. -/
structure Kn (u d a b : Int) : Prop where
  a0 : 2147483648 ≤ a
  a1 : a < 4294967296
  b0 : 0 ≤ b
  b1 : b < 4294967296
  u0 : 0 ≤ u
  u1 : u < a * 4294967296 + b
  d0 : 0 ≤ d
  d1 : d < 4294967296
/-- the right digit. -/
def kq (u d a b : Int) : Int := (u * 4294967296 + d) / (a * 4294967296 + b)
/-- what is left. -/
def kr (u d a b : Int) : Int := (u * 4294967296 + d) % (a * 4294967296 + b)
/-- what holds of a digit that is tried. -/
structure KTry (u d a b q r : Int) : Prop where
  sum : q * a + r = u
  q0 : 0 ≤ q
  r0 : 0 ≤ r
  le : kq u d a b ≤ q

variable {u d a b q r : Int}
theorem Kn.y0 (h : Kn u d a b) : 0 < a * 4294967296 + b := by have := h.a0; have := h.b0; omega
theorem Kn.q0 (h : Kn u d a b) : 0 ≤ kq u d a b := Int.ediv_nonneg (by have := h.u0; have := h.d0; omega) (Int.le_of_lt h.y0)
theorem Kn.qlt (h : Kn u d a b) : kq u d a b < 4294967296 := by
  unfold kq
  refine Int.ediv_lt_of_lt_mul h.y0 ?_
  have h1 := h.u1; have h2 := h.d1
  generalize a * 4294967296 + b = y at *
  omega
/-- q times the divisor is not above just if q is not above the digit. -/
theorem Kn.le_iff (h : Kn u d a b) (q : Int) : q ≤ kq u d a b ↔ q * (a * 4294967296 + b) ≤ u * 4294967296 + d := by
  unfold kq
  exact Int.le_ediv_iff_mul_le h.y0
theorem mul_y (q a b : Int) : q * (a * 4294967296 + b) = q * a * 4294967296 + q * b := by rw [Int.mul_add, Int.mul_assoc]
theorem Kn.init (h : Kn u d a b) : KTry u d a b (u / a) (u - u / a * a) := by
  have ha : 0 < a := by have := h.a0; omega
  refine ⟨by omega, Int.ediv_nonneg h.u0 (Int.le_of_lt ha), ?_, ?_⟩
  · have := Int.ediv_mul_le u (show a ≠ 0 by omega)
    omega
  · have h1 := (h.le_iff _).1 (Int.le_refl _)
    rw [mul_y] at h1
    rw [Int.le_ediv_iff_mul_le ha]
    have h2 := Int.mul_nonneg h.q0 h.b0
    have h3 := h.d1
    omega
theorem Kn.init_lt (h : Kn u d a b) : u - u / a * a < a ∧ u - u / a * a < 4294967296 := by
  have ha : 0 < a := by have := h.a0; omega
  have h1 := Int.emod_lt_of_pos u ha
  rw [Int.emod_def, Int.mul_comm] at h1
  have := h.a1
  omega
theorem KTry.down (h : Kn u d a b) (t : KTry u d a b q r) (k : 4294967296 ≤ q ∨ 4294967296 * r + d < q * b) : KTry u d a b (q - 1) (r + a) ∧ 1 ≤ q := by
  have hlt : kq u d a b < q := by
    rcases k with k | k
    · exact Int.lt_of_lt_of_le h.qlt k
    · rcases Int.lt_or_le (kq u d a b) q with l | l
      · exact l
      · have h1 := (h.le_iff q).1 l
        rw [mul_y] at h1
        have h2 := t.sum
        generalize q * a = qa at *
        generalize q * b = qb at *
        omega
  have h0 := h.q0
  refine ⟨⟨?_, by omega, by have := t.r0; have := h.a0; omega, by omega⟩, by omega⟩
  rw [Int.sub_mul, ← t.sum]
  omega
theorem KTry.done (h : Kn u d a b) (t : KTry u d a b q r) (k : q * b ≤ 4294967296 * r + d) : q = kq u d a b := by
  have h1 : q ≤ kq u d a b := by
    rw [h.le_iff, mul_y]
    have h2 := t.sum
    generalize q * a = qa at *
    generalize q * b = qb at *
    omega
  have := t.le
  omega
theorem KTry.q_lt (h : Kn u d a b) (t : KTry u d a b q r) : q < 8589934592 := by
  rcases Int.lt_or_le q 8589934592 with l | l
  · exact l
  · have h1 : 8589934592 * 2147483648 ≤ q * a := Int.mul_le_mul l h.a0 (by omega) t.q0
    have h2 := t.sum; have h3 := h.u1; have h4 := h.b1; have h5 := h.a1; have h6 := t.r0
    omega
theorem KTry.small (h : Kn u d a b) (t : KTry u d a b q r) (k : 4294967296 ≤ r) : q < 4294967296 := by
  rcases Int.lt_or_le q 4294967296 with l | l
  · exact l
  · have h1 := Int.mul_le_mul_of_nonneg_right l (show (0 : Int) ≤ a by have := h.a0; omega)
    have h2 := t.sum; have h3 := h.u1; have h4 := h.b1
    omega
theorem KTry.mul_lt (h : Kn u d a b) (t : KTry u d a b q r) (k : q < 4294967296) : 0 ≤ q * b ∧ q * b < 18446744073709551616 := by
  refine ⟨Int.mul_nonneg t.q0 h.b0, ?_⟩
  have h1 : q * b ≤ 4294967295 * 4294967295 := Int.mul_le_mul (by omega) (by have := h.b1; omega) h.b0 (by omega)
  omega
theorem KTry.out (h : Kn u d a b) (t : KTry u d a b q r) (k : 4294967296 ≤ r) : q = kq u d a b := by
  have h1 := t.small h k
  refine t.done h ?_
  have h2 := (t.mul_lt h h1).2
  have h3 := h.d0
  omega
theorem Kn.rest (h : Kn u d a b) : IntKind.u64.wrap (IntKind.u64.wrap (IntKind.u64.wrap (u * 4294967296) + d) - IntKind.u64.wrap (kq u d a b * (a * 4294967296 + b))) = kr u d a b := by
  have h1 : u * 4294967296 + d - kq u d a b * (a * 4294967296 + b) = kr u d a b := by
    unfold kq kr
    rw [Int.emod_def, Int.mul_comm (a * 4294967296 + b)]
  have h2 : 0 ≤ kr u d a b := Int.emod_nonneg _ (by have := h.y0; omega)
  have h3 : kr u d a b < a * 4294967296 + b := Int.emod_lt_of_pos _ h.y0
  have h4 := h.a1; have h5 := h.b1
  simp only [IntKind.wrap_u64]
  generalize kr u d a b = k at *
  generalize kq u d a b * (a * 4294967296 + b) = p at *
  omega
theorem Kn.next (h : Kn u d a b) (e : Int) (e0 : 0 ≤ e ∧ e < 4294967296) : Kn (kr u d a b) e a b :=
  ⟨h.a0, h.a1, h.b0, h.b1, Int.emod_nonneg _ (by have := h.y0; omega), Int.emod_lt_of_pos _ h.y0, e0.1, e0.2⟩
/-- two digits, one behind the other. -/
theorem Kn.two (h : Kn u d a b) (e : Int) (e0 : 0 ≤ e ∧ e < 4294967296) :
    kq u d a b * 4294967296 + kq (kr u d a b) e a b = (u * 18446744073709551616 + d * 4294967296 + e) / (a * 4294967296 + b) ∧ kr (kr u d a b) e a b = (u * 18446744073709551616 + d * 4294967296 + e) % (a * 4294967296 + b) := by
  have k := h.next e e0
  have y0 := h.y0
  have s1 : u * 4294967296 + d = (a * 4294967296 + b) * kq u d a b + kr u d a b := (Int.mul_ediv_add_emod _ _).symm
  have s2 : kr u d a b * 4294967296 + e = (a * 4294967296 + b) * kq (kr u d a b) e a b + kr (kr u d a b) e a b := (Int.mul_ediv_add_emod _ _).symm
  have r0 : 0 ≤ kr (kr u d a b) e a b := Int.emod_nonneg _ (by omega)
  have r1 : kr (kr u d a b) e a b < a * 4294967296 + b := Int.emod_lt_of_pos _ y0
  generalize kr (kr u d a b) e a b = R at *
  generalize kq (kr u d a b) e a b = Q2 at *
  generalize kr u d a b = R1 at *
  generalize kq u d a b = Q1 at *
  generalize a * 4294967296 + b = y at *
  have t : u * 18446744073709551616 + d * 4294967296 + e = R + y * (Q1 * 4294967296 + Q2) := by
    rw [Int.mul_add, ← Int.mul_assoc]
    generalize y * Q1 = p at *
    generalize y * Q2 = p2 at *
    omega
  rw [t]
  constructor
  · rw [Int.add_mul_ediv_left _ _ (by omega), Int.ediv_eq_zero_of_lt r0 r1]
    omega
  · rw [Int.add_mul_emod_self_left, Int.emod_eq_of_lt r0 r1]
/-- y's length, and what it is shifted by. -/
structure Lz (y s : Int) : Prop where
  s0 : 0 ≤ s
  s1 : s < 64
  lo : 9223372036854775808 ≤ y * 2 ^ s.toNat
  hi : y * 2 ^ s.toNat < 18446744073709551616
theorem lz_of (y : Int) (h0 : 0 < y) (h1 : y < 18446744073709551616) : Lz y (64 - (Lib.bitLen y.toNat : Int)) := by
  obtain ⟨n, rfl⟩ := Int.eq_ofNat_of_zero_le (Int.le_of_lt h0)
  rw [Int.toNat_natCast]
  rcases len_lo n (by omega) with ⟨h, _⟩ | ⟨l1, _, l3, l4⟩
  · omega
  · have l2 : Lib.bitLen n ≤ 64 := Lib.bitLen_le n 64 (Nat.le_refl _) (by rw [two64]; omega)
    have e : (64 - (Lib.bitLen n : Int)).toNat = 64 - Lib.bitLen n := by omega
    have f : (n : Int) * 2 ^ (64 - Lib.bitLen n) = ((n * 2 ^ (64 - Lib.bitLen n) : Nat) : Int) := by simp
    have g1 : 2 ^ 63 ≤ n * 2 ^ (64 - Lib.bitLen n) := by
      have := Nat.mul_le_mul_right (2 ^ (64 - Lib.bitLen n)) l3
      rw [← Nat.pow_add, show Lib.bitLen n - 1 + (64 - Lib.bitLen n) = 63 by omega] at this
      exact this
    have g2 : n * 2 ^ (64 - Lib.bitLen n) < 2 ^ 64 := by
      have := Nat.mul_lt_mul_of_pos_right l4 (Nat.two_pow_pos (64 - Lib.bitLen n))
      rw [← Nat.pow_add, show Lib.bitLen n + (64 - Lib.bitLen n) = 64 by omega] at this
      exact this
    rw [two64] at g2
    rw [show (2 : Nat) ^ 63 = 9223372036854775808 by decide] at g1
    exact ⟨by omega, by omega, by rw [e, f]; omega, by rw [e, f]; omega⟩
/-- what is divided, shifted as the divisor is. -/
structure Nm (hi lo y s U V Y : Int) : Prop where
  y : Y = y * 2 ^ s.toNat
  n : (hi * 18446744073709551616 + lo) * 2 ^ s.toNat = U * 18446744073709551616 + V
  u0 : 0 ≤ U
  u1 : U < Y
  v0 : 0 ≤ V
  v1 : V < 18446744073709551616
theorem nm_of {hi lo y s : Int} (h0 : 0 ≤ hi) (h1 : hi < y) (l : 0 ≤ lo ∧ lo < 18446744073709551616) (k : Lz y s) :
    Nm hi lo y s (bits .or .u64 (IntKind.u64.wrap (hi * 2 ^ s.toNat)) (lo / 2 ^ (64 - s).toNat)) (IntKind.u64.wrap (lo * 2 ^ s.toNat)) (IntKind.u64.wrap (y * 2 ^ s.toNat)) := by
  have p0 : (0 : Int) < 2 ^ s.toNat := Int.pow_pos (by omega)
  have t : (hi * 18446744073709551616 + lo) * 2 ^ s.toNat < y * 2 ^ s.toNat * 18446744073709551616 := by
    rw [Int.mul_right_comm]
    exact Int.mul_lt_mul_of_pos_right (by omega) p0
  have kl := k.hi
  obtain ⟨H, e1, e2, e3⟩ := shl_lo_val hi lo s h0 l ⟨k.s0, k.s1⟩ (by omega)
  have w : IntKind.u64.wrap (y * 2 ^ s.toNat) = y * 2 ^ s.toNat := by
    have := k.lo
    rw [IntKind.wrap_u64]
    omega
  rw [e1, w]
  have v : 0 ≤ IntKind.u64.wrap (lo * 2 ^ s.toNat) ∧ IntKind.u64.wrap (lo * 2 ^ s.toNat) < 18446744073709551616 := by rw [IntKind.wrap_u64]; omega
  refine ⟨rfl, e3, e2.1, ?_, v.1, v.2⟩
  rw [e3] at t
  omega
theorem and32 (x : Int) (h : 0 ≤ x ∧ x < 18446744073709551616) : bits .and .u64 x 4294967295 = x % 4294967296 := by
  obtain ⟨X, rfl⟩ := Int.eq_ofNat_of_zero_le h.1
  have h1 := bits_and_u64_nat X 4294967295 (by omega) (by omega)
  rw [show X &&& 4294967295 = X % 4294967296 from Nat.and_two_pow_sub_one_eq_mod X 32] at h1
  rw [show ((4294967295 : Nat) : Int) = 4294967295 from rfl] at h1
  rw [h1]
  omega
theorem Nm.kn {hi lo y s U V Y : Int} (h : Nm hi lo y s U V Y) (k : Lz y s) : Kn U (V / 4294967296) (Y / 4294967296) (Y % 4294967296) := by
  have a := h.y; have b := h.u0; have c := h.u1; have d := h.v0; have e := h.v1; have f := k.lo; have g := k.hi
  constructor <;> omega
theorem Nm.quo {hi lo y s U V Y : Int} (h : Nm hi lo y s U V Y) (k : Lz y s) : (U * 18446744073709551616 + V / 4294967296 * 4294967296 + V % 4294967296) / (Y / 4294967296 * 4294967296 + Y % 4294967296) = (hi * 18446744073709551616 + lo) / y ∧
    (U * 18446744073709551616 + V / 4294967296 * 4294967296 + V % 4294967296) % (Y / 4294967296 * 4294967296 + Y % 4294967296) / 2 ^ s.toNat = (hi * 18446744073709551616 + lo) % y := by
  have p0 : (0 : Int) < 2 ^ s.toNat := Int.pow_pos (by omega)
  rw [show U * 18446744073709551616 + V / 4294967296 * 4294967296 + V % 4294967296 = U * 18446744073709551616 + V by omega, show Y / 4294967296 * 4294967296 + Y % 4294967296 = Y by omega, ← h.n, h.y]
  generalize (2 : Int) ^ s.toNat = p at *
  constructor
  · exact Int.mul_ediv_mul_of_pos_left _ _ p0
  · rw [Int.emod_def, Int.mul_ediv_mul_of_pos_left _ _ p0, Int.mul_right_comm, ← Int.sub_mul, Int.mul_ediv_cancel _ (by omega), Int.emod_def]
end Go.Proofs.Ytpopeipcjpfbaaa
namespace Go.Proofs.Ytpopeipcjpfbaaa
set_option linter.unusedVariables false

theorem pow64 (s : Int) (s0 : 0 ≤ s) (s1 : s < 64) : (2 : Int) * 2 ^ (63 - s).toNat * 2 ^ s.toNat = 18446744073709551616 ∧ (0 : Int) < 2 ^ (63 - s).toNat ∧ (0 : Int) < 2 ^ s.toNat := by
  refine ⟨?_, Int.pow_pos (by omega), Int.pow_pos (by omega)⟩
  rw [Int.mul_assoc, ← Int.pow_add, show (63 - s).toNat + s.toNat = 63 by omega]
  decide
/-- the guess is the quotient, or one more. -/
theorem guess_ok (A b s T low : Int) (A0 : 0 ≤ A) (A1 : A ≤ 170141183460469231731687303715884105728) (s0 : 0 ≤ s) (s1 : s < 64) (e : b * 2 ^ s.toNat = T * 18446744073709551616 + low) (l0 : 0 ≤ low) (l1 : low < 18446744073709551616) (T0 : 9223372036854775808 ≤ T) :
    A / b ≤ A / 2 / T / 2 ^ (63 - s).toNat ∧ A / 2 / T / 2 ^ (63 - s).toNat ≤ A / b + 1 ∧ A / 2 / T / 2 ^ (63 - s).toNat ≤ 9223372036854775808 := by
  obtain ⟨p1, p2, p3⟩ := pow64 s s0 s1
  generalize (2 : Int) ^ (63 - s).toNat = c at *
  generalize (2 : Int) ^ s.toNat = p at *
  rw [Int.ediv_ediv_of_nonneg (show (0 : Int) ≤ T by omega), Int.ediv_ediv_of_nonneg (show (0 : Int) ≤ 2 by omega)]
  -- D = T * (2 c); b p = T (2 c p) + low
  have hD : T * (2 * c) * p = T * 18446744073709551616 := by rw [Int.mul_assoc, p1]
  have c2 : 2 ≤ 2 * c := by omega
  have D0 : 18446744073709551616 ≤ T * (2 * c) := by
    have := Int.mul_le_mul T0 c2 (by omega) (by omega)
    omega
  have dle : T * (2 * c) ≤ b := by
    have : T * (2 * c) * p ≤ b * p := by rw [hD, e]; omega
    exact Int.le_of_mul_le_mul_right this p3
  have dlt : b < T * (2 * c) + 2 * c := by
    have : b * p < (T * (2 * c) + 2 * c) * p := by rw [Int.add_mul, hD, p1, e]; omega
    exact Int.lt_of_mul_lt_mul_right this (Int.le_of_lt p3)
  rw [show 2 * (T * c) = T * (2 * c) by rw [← Int.mul_assoc, Int.mul_comm 2 T, Int.mul_assoc]]
  generalize hDD : T * (2 * c) = D at *
  have Dp : 0 < D := by omega
  have bp : 0 < b := by omega
  have g1 : A / D * D ≤ A := Int.ediv_mul_le A (by omega)
  have g0 : 0 ≤ A / D := Int.ediv_nonneg A0 (by omega)
  have gt : A / D ≤ 9223372036854775808 := by
    rcases Int.lt_or_le 9223372036854775808 (A / D) with h | h
    · have := Int.mul_le_mul (show 9223372036854775809 ≤ A / D by omega) D0 (by omega) g0
      omega
    · exact h
  refine ⟨?_, ?_, gt⟩
  · rw [Int.le_ediv_iff_mul_le Dp]
    have h1 : A / b * b ≤ A := Int.ediv_mul_le A (by omega)
    have h2 : A / b * D ≤ A / b * b := Int.mul_le_mul_of_nonneg_left dle (Int.ediv_nonneg A0 (by omega))
    omega
  · have : A / D - 1 ≤ A / b := by
      rw [Int.le_ediv_iff_mul_le bp]
      rcases Int.lt_or_le 0 (A / D) with h | h
      · have h2 : (A / D - 1) * b ≤ (A / D - 1) * (D + 2 * c) := Int.mul_le_mul_of_nonneg_left (by omega) (by omega)
        have h3 : (A / D - 1) * (2 * c) ≤ T * (2 * c) := Int.mul_le_mul_of_nonneg_right (by omega) (by omega)
        rw [Int.mul_add, Int.sub_mul (A / D) 1 D, Int.one_mul] at h2
        omega
      · have h2 : (A / D - 1) * b ≤ 0 := Int.mul_nonpos_of_nonpos_of_nonneg (by omega) (by omega)
        omega
    omega
theorem or63 (h l : Nat) (h1 : h * 9223372036854775808 < 18446744073709551616) (h2 : l < 9223372036854775808) (h3 : h * 9223372036854775808 + l < 18446744073709551616) :
    bits .or .u64 ((h * 9223372036854775808 : Nat) : Int) (l : Int) = ((h * 9223372036854775808 + l : Nat) : Int) := by
  have e := or_nat h l 63
  rw [show (2 : Nat) ^ 63 = 9223372036854775808 by decide] at e
  exact e h1 h2 h3
/-- half of a size, as the program takes it. -/
theorem half_val (h l : Int) (bh : 0 ≤ h ∧ h < 18446744073709551616) (bl : 0 ≤ l ∧ l < 18446744073709551616) :
    ∃ L, bits .or .u64 (IntKind.u64.wrap (h * 9223372036854775808)) (l / 2) = L ∧ (0 ≤ L ∧ L < 18446744073709551616) ∧ h / 2 * 18446744073709551616 + L = (h * 18446744073709551616 + l) / 2 := by
  obtain ⟨a, rfl⟩ := Int.eq_ofNat_of_zero_le bh.1
  obtain ⟨b, rfl⟩ := Int.eq_ofNat_of_zero_le bl.1
  have w1 : IntKind.u64.wrap ((a : Int) * 9223372036854775808) = ((a % 2 * 9223372036854775808 : Nat) : Int) := by
    rw [IntKind.wrap_u64]
    omega
  have w2 : (b : Int) / 2 = ((b / 2 : Nat) : Int) := by omega
  refine ⟨_, rfl, ?_⟩
  rw [w1, w2, or63 _ _ (by omega) (by omega) (by omega)]
  omega
theorem lz_shift {h l s : Int} (k : Lz h s) (h0 : 0 ≤ h) (l0 : 0 ≤ l) (l1 : l < 18446744073709551616) :
    (h * 18446744073709551616 + l) * 2 ^ s.toNat < 340282366920938463463374607431768211456 ∧ 170141183460469231731687303715884105728 ≤ (h * 18446744073709551616 + l) * 2 ^ s.toNat := by
  obtain ⟨p1, p2, p3⟩ := pow64 s k.s0 k.s1
  have lo := k.lo; have hi := k.hi
  generalize (2 : Int) ^ (63 - s).toNat = c at *
  generalize (2 : Int) ^ s.toNat = p at *
  have hc : h < 2 * c := by
    rw [← p1] at hi
    exact Int.lt_of_mul_lt_mul_right hi (Int.le_of_lt p3)
  have h2 : (h + 1) * p ≤ 2 * c * p := Int.mul_le_mul_of_nonneg_right (by omega) (Int.le_of_lt p3)
  have h3 : l * p ≤ 18446744073709551615 * p := Int.mul_le_mul_of_nonneg_right (by omega) (Int.le_of_lt p3)
  have h4 : 0 ≤ l * p := Int.mul_nonneg l0 (Int.le_of_lt p3)
  rw [Int.add_mul, Int.one_mul, p1] at h2
  rw [Int.add_mul, Int.mul_right_comm]
  generalize h * p = hp at *
  generalize l * p = lp at *
  omega
end Go.Proofs.Ytpopeipcjpfbaaa
namespace Go.Proofs.Ytpopeipcjpfbaaa
open Go.RowKit
set_option linter.unusedVariables false

theorem below_drewN {w W : World} (h : Below w.heap.size w W) (n : Nat) : Below w.heap.size w (W.drewN n) := ⟨h.os, h.tape, h.output, h.size, h.block⟩
def RLz (y : Int) (w : World) (e : Ending) (w' : World) : Prop := ∃ s : Int, e = .returned (.int .i64 s) ∧ Lz y s ∧ w = w'
theorem ret_pair {a b c d : Int} (h : a = c) (k : b = d) : Ending.returned (.tuple #[.int .u64 a, .int .u64 b]) = .returned (.tuple #[.int .u64 c, .int .u64 d]) := by rw [h, k]
def RDiv (q r : Int) (w : World) (e : Ending) (w' : World) : Prop := e = .returned (.tuple #[.int .u64 q, .int .u64 r]) ∧ Below w.heap.size w w'
end Go.Proofs.Ytpopeipcjpfbaaa
namespace Go.Proofs.Ytpopeipcjpfbaaa
open Go.RowKit
set_option linter.unusedVariables false

def RGuess (q : Int) (w : World) (e : Ending) (w' : World) : Prop := ∃ g : Int, e = .returned (.int .u64 g) ∧ (0 ≤ g ∧ g ≤ q ∧ q ≤ g + 1 ∧ g < 18446744073709551616) ∧ Below w.heap.size w w'
def RSS (q r : Int) (w : World) (e : Ending) (w' : World) : Prop := ∃ a b c d : Int, e = .returned (.tuple #[.agg #[.int .u64 a, .int .u64 b], .agg #[.int .u64 c, .int .u64 d]]) ∧ IsS a b q ∧ IsS c d r ∧ Below w.heap.size w w'
theorem div_lo {h1 l1 n m : Int} (H1 : IsS h1 l1 n) (m0 : 0 < m) (m1 : m < 18446744073709551616) :
    IsS (h1 / m) ((h1 % m * 18446744073709551616 + l1) / m) (n / m) ∧ IsS 0 ((h1 % m * 18446744073709551616 + l1) % m) (n % m) := by
  obtain ⟨b1, b2, rfl⟩ := H1
  have r0 := Int.emod_nonneg h1 (show m ≠ 0 by omega)
  have r1 := Int.emod_lt_of_pos h1 m0
  have e : h1 * 18446744073709551616 + l1 = (h1 % m * 18446744073709551616 + l1) + m * (h1 / m * 18446744073709551616) := by
    have := Int.mul_ediv_add_emod h1 m
    rw [← Int.mul_assoc]
    generalize m * (h1 / m) = k at *
    omega
  have q0 : 0 ≤ h1 / m := Int.ediv_nonneg b1.1 (by omega)
  have q1 : h1 / m ≤ h1 := Int.ediv_le_self _ b1.1
  have s0 := Int.emod_nonneg (h1 % m * 18446744073709551616 + l1) (show m ≠ 0 by omega)
  have s1 := Int.emod_lt_of_pos (h1 % m * 18446744073709551616 + l1) m0
  have t0 : 0 ≤ (h1 % m * 18446744073709551616 + l1) / m := Int.ediv_nonneg (by omega) (by omega)
  have t1 : (h1 % m * 18446744073709551616 + l1) / m < 18446744073709551616 := Int.ediv_lt_of_lt_mul m0 (by omega)
  constructor
  · refine ⟨by omega, by omega, ?_⟩
    rw [e, Int.add_mul_ediv_left _ _ (by omega)]
    omega
  · refine ⟨by omega, by omega, ?_⟩
    rw [e, Int.add_mul_emod_self_left]
    omega
end Go.Proofs.Ytpopeipcjpfbaaa
namespace Go.Proofs.Ytpopeipcjpfbaaa
open Go.RowKit
set_option linter.unusedVariables false

theorem guess_fit {n m g : Int} (n0 : 0 ≤ n) (m0 : 0 < m) (n1 : n < 340282366920938463463374607431768211456) (h : g ≤ n / m) (g0 : 0 ≤ g) : fitS (g * m) = true ∧ g * m ≤ n := by
  have h1 : g * m ≤ n := (Int.le_ediv_iff_mul_le m0).1 h
  unfold fitS
  rw [decide_eq_true_eq]
  exact ⟨by omega, h1⟩
theorem guess_less {n m g : Int} (m0 : 0 < m) (h : g ≤ n / m) (k : n - g * m < m) : g = n / m ∧ n - g * m = n % m := by
  have h1 : g * m ≤ n := (Int.le_ediv_iff_mul_le m0).1 h
  have h2 : n / m < g + 1 := Int.ediv_lt_of_lt_mul m0 (by rw [Int.add_mul]; omega)
  have e : g = n / m := by omega
  refine ⟨e, ?_⟩
  rw [Int.emod_def, e, Int.mul_comm]
theorem guess_more {n m g : Int} (m0 : 0 < m) (h : n / m ≤ g + 1) (k : ¬ n - g * m < m) : g + 1 = n / m ∧ n - g * m - m = n % m := by
  have h2 : g + 1 ≤ n / m := (Int.le_ediv_iff_mul_le m0).2 (by rw [Int.add_mul]; omega)
  have e : g + 1 = n / m := by omega
  refine ⟨e, ?_⟩
  rw [Int.emod_def, ← e, Int.mul_comm m, Int.add_mul]
  omega
theorem quo_small {n m g : Int} (n0 : 0 ≤ n) (hn : n ≤ 170141183460469231731687303715884105728) (m0 : 18446744073709551616 ≤ m) (h : g ≤ n / m) : g < 9223372036854775809 := by
  rcases Int.lt_or_le g 9223372036854775809 with k | k
  · exact k
  · have h1 : g * m ≤ n := (Int.le_ediv_iff_mul_le (by omega)).1 h
    have h2 : 9223372036854775809 * 18446744073709551616 ≤ g * m := Int.mul_le_mul k m0 (by omega) (by omega)
    omega
end Go.Proofs.Ytpopeipcjpfbaaa
