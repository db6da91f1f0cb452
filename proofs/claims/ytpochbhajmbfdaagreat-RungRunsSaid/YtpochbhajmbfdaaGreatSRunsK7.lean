/-
  My own texts, without what this claim does not need. My own text.
-/
import Derived.Deep.QuietTactic
import Derived.Deep.DeepCutAuto
import Derived.Deep.CutBlock
import Derived.Deep.DrawnRows
import Derived.RegionTactic
import Derived.Deep.LoopGhost
import Derived.Test.YtpochbhajmbfdaaGreatSRunsK6
set_option maxRecDepth 100000
set_option maxHeartbeats 64000000
set_option linter.unusedVariables false
set_option linter.unusedSimpArgs false
set_option linter.unusedSectionVars false
open Go.Proofs.Tryz renaming prog → aj
namespace Go.Proofs.YtpochbhajmbfdaaGreat
structure hZ (u d a b : Int) : Prop where
  a0 : 2147483648 ≤ a
  a1 : a < 4294967296
  oC : 0 ≤ b
  b1 : b < 4294967296
  kG : 0 ≤ u
  cP : u < a * 4294967296 + b
  d0 : 0 ≤ d
  d1 : d < 4294967296
def jk (u d a b : Int) : Int := (u * 4294967296 + d) / (a * 4294967296 + b)
def iu (u d a b : Int) : Int := (u * 4294967296 + d) % (a * 4294967296 + b)
structure l4 (u d a b q r : Int) : Prop where
  sum : q * a + r = u
  c9 : 0 ≤ q
  hU : 0 ≤ r
  le : jk u d a b ≤ q
variable {u d a b q r : Int}
theorem hZ.ot (h : hZ u d a b) : 0 < a * 4294967296 + b := by have := h.a0; have := h.oC; omega
theorem hZ.c9 (h : hZ u d a b) : 0 ≤ jk u d a b := qj (by have := h.kG; have := h.d0; omega) (qk h.ot)
theorem hZ.Ex (h : hZ u d a b) : jk u d a b < 4294967296 := by
  unfold jk;refine Int.ediv_lt_of_lt_mul h.ot ?_;have h1 := h.cP; have h2 := h.d1;generalize a * 4294967296 + b = y at *;omega
theorem hZ.le_iff (h : hZ u d a b) (q : Int) : q ≤ jk u d a b ↔ q * (a * 4294967296 + b) ≤ u * 4294967296 + d := by
  unfold jk;exact ql h.ot
theorem IC (q a b : Int) : q * (a * 4294967296 + b) = q * a * 4294967296 + q * b := by rw [Int.mul_add, lU]
theorem hZ.init (h : hZ u d a b) : l4 u d a b (u / a) (u - u / a * a) := by
  have aL : 0 < a := by have := h.a0; omega
  refine ⟨by omega, qj h.kG (qk aL), ?_, ?_⟩
  · have := Int.ediv_mul_le u (show a ≠ 0 by omega)
    omega
  · have h1 := (h.le_iff _).1 (pg _)
    rw [IC] at h1;rw [ql aL];have h2 := jq h.c9 h.oC;have aq := h.d1;omega
theorem hZ.NF (h : hZ u d a b) : u - u / a * a < a ∧ u - u / a * a < 4294967296 := by
  have aL : 0 < a := by have := h.a0; omega
  have h1 := oe u aL;rw [Int.emod_def, ka] at h1;have := h.a1;omega
theorem l4.down (h : hZ u d a b) (t : l4 u d a b q r) (k : 4294967296 ≤ q ∨ 4294967296 * r + d < q * b) : l4 u d a b (q - 1) (r + a) ∧ 1 ≤ q := by
  have bj : jk u d a b < q := by
    rcases k with k | k
    · exact Int.lt_of_lt_of_le h.Ex k
    · rcases qi (jk u d a b) q with l | l
      · exact l
      · have h1 := (h.le_iff q).1 l
        rw [IC] at h1;have h2 := t.sum;generalize q * a = n9 at *;generalize q * b = oa at *;omega
  have aI := h.c9;refine ⟨⟨?_, by omega, by have := t.hU; have := h.a0; omega, by omega⟩, by omega⟩;rw [Int.sub_mul, ← t.sum];omega
theorem l4.done (h : hZ u d a b) (t : l4 u d a b q r) (k : q * b ≤ 4294967296 * r + d) : q = jk u d a b := by
  have h1 : q ≤ jk u d a b := by
    rw [h.le_iff, IC];have h2 := t.sum;generalize q * a = n9 at *;generalize q * b = oa at *;omega
  have := t.le;omega
theorem l4.Ev (h : hZ u d a b) (t : l4 u d a b q r) : q < 8589934592 := by
  rcases qi q 8589934592 with l | l
  · exact l
  · have h1 : 8589934592 * 2147483648 ≤ q * a := Int.mul_le_mul l h.a0 (by omega) t.c9
    have h2 := t.sum; have aq := h.cP; have aK := h.b1; have cO := h.a1; have ek := t.hU;omega
theorem l4.small (h : hZ u d a b) (t : l4 u d a b q r) (k : 4294967296 ≤ r) : q < 4294967296 := by
  rcases qi q 4294967296 with l | l
  · exact l
  · have h1 := qg l (show (0 : Int) ≤ a by have := h.a0; omega)
    have h2 := t.sum; have aq := h.cP; have aK := h.b1;omega
theorem l4.o5 (h : hZ u d a b) (t : l4 u d a b q r) (k : q < 4294967296) : 0 ≤ q * b ∧ q * b < 18446744073709551616 := by
  refine ⟨jq t.c9 h.oC, ?_⟩;have h1 : q * b ≤ 4294967295 * 4294967295 := Int.mul_le_mul (by omega) (by have := h.b1; omega) h.oC (by omega);omega
theorem l4.out (h : hZ u d a b) (t : l4 u d a b q r) (k : 4294967296 ≤ r) : q = jk u d a b := by
  have h1 := t.small h k;refine t.done h ?_;have h2 := (t.o5 h h1).2;have aq := h.d0;omega
theorem hZ.rest (h : hZ u d a b) : IntKind.u64.wrap (IntKind.u64.wrap (IntKind.u64.wrap (u * 4294967296) + d) - IntKind.u64.wrap (jk u d a b * (a * 4294967296 + b))) = iu u d a b := by
  have h1 : u * 4294967296 + d - jk u d a b * (a * 4294967296 + b) = iu u d a b := by
    unfold jk iu;rw [Int.emod_def, ka (a * 4294967296 + b)]
  have h2 : 0 ≤ iu u d a b := pj _ (by have := h.ot; omega);have aq : iu u d a b < a * 4294967296 + b := oe _ h.ot;have aK := h.a1; have cO := h.b1;simp only [IntKind.wrap_u64];generalize iu u d a b = k at *;generalize jk u d a b * (a * 4294967296 + b) = p at *;omega
theorem hZ.next (h : hZ u d a b) (e : Int) (dn : 0 ≤ e ∧ e < 4294967296) : hZ (iu u d a b) e a b :=
  ⟨h.a0, h.a1, h.oC, h.b1, pj _ (by have := h.ot; omega), oe _ h.ot, dn.1, dn.2⟩
theorem hZ.two (h : hZ u d a b) (e : Int) (dn : 0 ≤ e ∧ e < 4294967296) :
    jk u d a b * 4294967296 + jk (iu u d a b) e a b = (u * 18446744073709551616 + d * 4294967296 + e) / (a * 4294967296 + b) ∧ iu (iu u d a b) e a b = (u * 18446744073709551616 + d * 4294967296 + e) % (a * 4294967296 + b) := by
  have k := h.next e dn
  have ot := h.ot;have s1 : u * 4294967296 + d = (a * 4294967296 + b) * jk u d a b + iu u d a b := (sU _ _).symm;have s2 : iu u d a b * 4294967296 + e = (a * 4294967296 + b) * jk (iu u d a b) e a b + iu (iu u d a b) e a b := (sU _ _).symm;have hU : 0 ≤ iu (iu u d a b) e a b := pj _ (by omega);have c3 : iu (iu u d a b) e a b < a * 4294967296 + b := oe _ ot;generalize iu (iu u d a b) e a b = R at *;generalize jk (iu u d a b) e a b = ni at *;generalize iu u d a b = bo at *;generalize jk u d a b = nh at *;generalize a * 4294967296 + b = y at *
  have t : u * 18446744073709551616 + d * 4294967296 + e = R + y * (nh * 4294967296 + ni) := by
    rw [Int.mul_add, ← lU];generalize y * nh = p at *;generalize y * ni = p2 at *;omega
  rw [t]
  constructor
  · rw [Int.add_mul_ediv_left _ _ (by omega), Int.ediv_eq_zero_of_lt hU c3]
    omega
  · rw [Int.add_mul_emod_self_left, Int.emod_eq_of_lt hU c3]
structure Lz (y s : Int) : Prop where
  eP : 0 ≤ s
  s1 : s < 64
  lo : 9223372036854775808 ≤ y * 2 ^ s.toNat
  hi : y * 2 ^ s.toNat < 18446744073709551616
theorem aaU (y : Int) (aI : 0 < y) (h1 : y < 18446744073709551616) : Lz y (64 - (Lib.bitLen y.toNat : Int)) := by
  obtain ⟨n, rfl⟩ := mW (qk aI);rw [kW];rcases Oc n (by omega) with ⟨h, _⟩ | ⟨l1, _, zZ, z1⟩
  · omega
  · have l2 : Lib.bitLen n ≤ 64 := Lib.bitLen_le n 64 (dU _) (by rw [rD]; omega)
    have e : (64 - (Lib.bitLen n : Int)).toNat = 64 - Lib.bitLen n := by omega
    have f : (n : Int) * 2 ^ (64 - Lib.bitLen n) = ((n * 2 ^ (64 - Lib.bitLen n) : Nat) : Int) := by simp
    have g1 : 2 ^ 63 ≤ n * 2 ^ (64 - Lib.bitLen n) := by
      have := ky (2 ^ (64 - Lib.bitLen n)) zZ;rw [← Nat.pow_add, show Lib.bitLen n - 1 + (64 - Lib.bitLen n) = 63 by omega] at this;exact this
    have g2 : n * 2 ^ (64 - Lib.bitLen n) < 2 ^ 64 := by
      have := Nat.mul_lt_mul_of_pos_right z1 (Nat.two_pow_pos (64 - Lib.bitLen n));rw [← Nat.pow_add, show Lib.bitLen n + (64 - Lib.bitLen n) = 64 by omega] at this;exact this
    rw [rD] at g2;rw [show (2 : Nat) ^ 63 = 9223372036854775808 by decide] at g1;exact ⟨by omega, by omega, by rw [e, f]; omega, by rw [e, f]; omega⟩
structure Nm (hi lo y s U V Y : Int) : Prop where
  y : Y = y * 2 ^ s.toNat
  n : (hi * 18446744073709551616 + lo) * 2 ^ s.toNat = U * 18446744073709551616 + V
  kG : 0 ≤ U
  cP : U < Y
  v0 : 0 ≤ V
  v1 : V < 18446744073709551616
theorem abQ {hi lo y s : Int} (aI : 0 ≤ hi) (h1 : hi < y) (l : 0 ≤ lo ∧ lo < 18446744073709551616) (k : Lz y s) :
    Nm hi lo y s (bits .or .u64 (IntKind.u64.wrap (hi * 2 ^ s.toNat)) (lo / 2 ^ (64 - s).toNat)) (IntKind.u64.wrap (lo * 2 ^ s.toNat)) (IntKind.u64.wrap (y * 2 ^ s.toNat)) := by
  have j8 : (0 : Int) < 2 ^ s.toNat := kb (by omega)
  have t : (hi * 18446744073709551616 + lo) * 2 ^ s.toNat < y * 2 ^ s.toNat * 18446744073709551616 := by
    rw [Int.mul_right_comm];exact Int.mul_lt_mul_of_pos_right (by omega) j8
  have o0 := k.hi;obtain ⟨H, aG, aO, cz⟩ := Q9 hi lo s aI l ⟨k.eP, k.s1⟩ (by omega)
  have w : IntKind.u64.wrap (y * 2 ^ s.toNat) = y * 2 ^ s.toNat := by
    have := k.lo;rw [IntKind.wrap_u64];omega
  rw [aG, w];have v : 0 ≤ IntKind.u64.wrap (lo * 2 ^ s.toNat) ∧ IntKind.u64.wrap (lo * 2 ^ s.toNat) < 18446744073709551616 := by rw [IntKind.wrap_u64]; omega
  refine ⟨rfl, cz, aO.1, ?_, v.1, v.2⟩;rw [cz] at t;omega
theorem KN (x : Int) (h : 0 ≤ x ∧ x < 18446744073709551616) : bits .and .u64 x 4294967295 = x % 4294967296 := by
  obtain ⟨X, rfl⟩ := mW h.1;have h1 := bits_and_u64_nat X 4294967295 (by omega) (by omega);rw [show X &&& 4294967295 = X % 4294967296 from Nat.and_two_pow_sub_one_eq_mod X 32] at h1;rw [show ((4294967295 : Nat) : Int) = 4294967295 from rfl] at h1;rw [h1];omega
theorem Nm.aaj {hi lo y s U V Y : Int} (h : Nm hi lo y s U V Y) (k : Lz y s) : hZ U (V / 4294967296) (Y / 4294967296) (Y % 4294967296) := by
  have a := h.y; have b := h.kG; have c := h.cP; have d := h.v0; have e := h.v1; have f := k.lo; have g := k.hi
  constructor <;> omega
theorem Nm.quo {hi lo y s U V Y : Int} (h : Nm hi lo y s U V Y) (k : Lz y s) : (U * 18446744073709551616 + V / 4294967296 * 4294967296 + V % 4294967296) / (Y / 4294967296 * 4294967296 + Y % 4294967296) = (hi * 18446744073709551616 + lo) / y ∧
    (U * 18446744073709551616 + V / 4294967296 * 4294967296 + V % 4294967296) % (Y / 4294967296 * 4294967296 + Y % 4294967296) / 2 ^ s.toNat = (hi * 18446744073709551616 + lo) % y := by
  have j8 : (0 : Int) < 2 ^ s.toNat := kb (by omega);rw [show U * 18446744073709551616 + V / 4294967296 * 4294967296 + V % 4294967296 = U * 18446744073709551616 + V by omega, show Y / 4294967296 * 4294967296 + Y % 4294967296 = Y by omega, ← h.n, h.y];generalize (2 : Int) ^ s.toNat = p at *
  constructor
  · exact Int.mul_ediv_mul_of_pos_left _ _ j8
  · rw [Int.emod_def, Int.mul_ediv_mul_of_pos_left _ _ j8, Int.mul_right_comm, ← Int.sub_mul, Int.mul_ediv_cancel _ (by omega), Int.emod_def]
end Go.Proofs.YtpochbhajmbfdaaGreat
namespace Go.Proofs.YtpochbhajmbfdaaGreat
theorem P6 (s : Int) (eP : 0 ≤ s) (s1 : s < 64) : (2 : Int) * 2 ^ (63 - s).toNat * 2 ^ s.toNat = 18446744073709551616 ∧ (0 : Int) < 2 ^ (63 - s).toNat ∧ (0 : Int) < 2 ^ s.toNat := by
  refine ⟨?_, kb (by omega), kb (by omega)⟩;rw [lU, ← Int.pow_add, show (63 - s).toNat + s.toNat = 63 by omega];decide
theorem Xj (A b s T low : Int) (bU : 0 ≤ A) (hX : A ≤ 170141183460469231731687303715884105728) (eP : 0 ≤ s) (s1 : s < 64) (e : b * 2 ^ s.toNat = T * 18446744073709551616 + low) (q5 : 0 ≤ low) (l1 : low < 18446744073709551616) (Te : 9223372036854775808 ≤ T) :
    A / b ≤ A / 2 / T / 2 ^ (63 - s).toNat ∧ A / 2 / T / 2 ^ (63 - s).toNat ≤ A / b + 1 ∧ A / 2 / T / 2 ^ (63 - s).toNat ≤ 9223372036854775808 := by
  obtain ⟨p1, p2, p3⟩ := P6 s eP s1;generalize (2 : Int) ^ (63 - s).toNat = c at *;generalize (2 : Int) ^ s.toNat = p at *;rw [xS (show (0 : Int) ≤ T by omega), xS (show (0 : Int) ≤ 2 by omega)]
 
  have kN : T * (2 * c) * p = T * 18446744073709551616 := by rw [lU, p1]
  have c2 : 2 ≤ 2 * c := by omega
  have nH : 18446744073709551616 ≤ T * (2 * c) := by
    have := Int.mul_le_mul Te c2 (by omega) (by omega);omega
  have VN : T * (2 * c) ≤ b := by
    have : T * (2 * c) * p ≤ b * p := by rw [kN, e]; omega
    exact Int.le_of_mul_le_mul_right this p3
  have agY : b < T * (2 * c) + 2 * c := by
    have : b * p < (T * (2 * c) + 2 * c) * p := by rw [Int.add_mul, kN, p1, e]; omega
    exact Int.lt_of_mul_lt_mul_right this (qk p3)
  rw [show 2 * (T * c) = T * (2 * c) by rw [← lU, ka 2 T, lU]];generalize ahE : T * (2 * c) = D at *;have Si : 0 < D := by omega
  have Uy : 0 < b := by omega
  have g1 : A / D * D ≤ A := Int.ediv_mul_le A (by omega);have g0 : 0 ≤ A / D := qj bU (by omega)
  have gt : A / D ≤ 9223372036854775808 := by
    rcases qi 9223372036854775808 (A / D) with h | h
    · have := Int.mul_le_mul (show 9223372036854775809 ≤ A / D by omega) nH (by omega) g0
      omega
    · exact h
  refine ⟨?_, ?_, gt⟩
  · rw [ql Si]
    have h1 : A / b * b ≤ A := Int.ediv_mul_le A (by omega);have h2 : A / b * D ≤ A / b * b := rp VN (qj bU (by omega));omega
  · have : A / D - 1 ≤ A / b := by
      rw [ql Uy];rcases qi 0 (A / D) with h | h
      · have h2 : (A / D - 1) * b ≤ (A / D - 1) * (D + 2 * c) := rp (by omega) (by omega)
        have aq : (A / D - 1) * (2 * c) ≤ T * (2 * c) := qg (by omega) (by omega);rw [Int.mul_add, Int.sub_mul (A / D) 1 D, Int.one_mul] at h2;omega
      · have h2 : (A / D - 1) * b ≤ 0 := Int.mul_nonpos_of_nonpos_of_nonneg (by omega) (by omega)
        omega
    omega
theorem acj (h l : Nat) (h1 : h * 9223372036854775808 < 18446744073709551616) (h2 : l < 9223372036854775808) (aq : h * 9223372036854775808 + l < 18446744073709551616) :
    bits .or .u64 ((h * 9223372036854775808 : Nat) : Int) (l : Int) = ((h * 9223372036854775808 + l : Nat) : Int) := by
  have e := IM h l 63;rw [show (2 : Nat) ^ 63 = 9223372036854775808 by decide] at e;exact e h1 h2 aq
theorem XI (h l : Int) (va : 0 ≤ h ∧ h < 18446744073709551616) (tq : 0 ≤ l ∧ l < 18446744073709551616) :
    ∃ L, bits .or .u64 (IntKind.u64.wrap (h * 9223372036854775808)) (l / 2) = L ∧ (0 ≤ L ∧ L < 18446744073709551616) ∧ h / 2 * 18446744073709551616 + L = (h * 18446744073709551616 + l) / 2 := by
  obtain ⟨a, rfl⟩ := mW va.1;obtain ⟨b, rfl⟩ := mW tq.1
  have aP : IntKind.u64.wrap ((a : Int) * 9223372036854775808) = ((a % 2 * 9223372036854775808 : Nat) : Int) := by
    rw [IntKind.wrap_u64];omega
  have w2 : (b : Int) / 2 = ((b / 2 : Nat) : Int) := by omega
  refine ⟨_, rfl, ?_⟩;rw [aP, w2, acj _ _ (by omega) (by omega) (by omega)];omega
theorem aaV {h l s : Int} (k : Lz h s) (aI : 0 ≤ h) (q5 : 0 ≤ l) (l1 : l < 18446744073709551616) :
    (h * 18446744073709551616 + l) * 2 ^ s.toNat < 340282366920938463463374607431768211456 ∧ 170141183460469231731687303715884105728 ≤ (h * 18446744073709551616 + l) * 2 ^ s.toNat := by
  obtain ⟨p1, p2, p3⟩ := P6 s k.eP k.s1;have lo := k.lo; have hi := k.hi;generalize (2 : Int) ^ (63 - s).toNat = c at *;generalize (2 : Int) ^ s.toNat = p at *
  have ak : h < 2 * c := by
    rw [← p1] at hi;exact Int.lt_of_mul_lt_mul_right hi (qk p3)
  have h2 : (h + 1) * p ≤ 2 * c * p := qg (by omega) (qk p3);have aq : l * p ≤ 18446744073709551615 * p := qg (by omega) (qk p3);have aK : 0 ≤ l * p := jq q5 (qk p3);rw [Int.add_mul, Int.one_mul, p1] at h2;rw [Int.add_mul, Int.mul_right_comm];generalize h * p = hp at *;generalize l * p = aiv at *;omega
end Go.Proofs.YtpochbhajmbfdaaGreat
namespace Go.Proofs.YtpochbhajmbfdaaGreat
open Go.RowKit
theorem Ut {w W : World} (h : Below w.heap.size w W) (n : Nat) : Below w.heap.size w (W.drewN n) := ⟨h.os, h.tape, h.output, h.size, h.block⟩
def SY (y : Int) (w : World) (e : Ending) (w' : World) : Prop := ∃ s : Int, e = .returned (.int .i64 s) ∧ Lz y s ∧ w = w'
theorem Ot (y : Int) (w : World) (aI : 0 < y) (h1 : y < 18446744073709551616) : Calls aj 305 #[.int .u64 y] w (SY y w) := by
  refine (Tryz.bits_LeadingZeros64 y w (by omega) (by omega)).mono ?_;rintro e w' ⟨rfl, rfl⟩;exact ⟨_, rfl, aaU y aI h1, rfl⟩
theorem ad9 {a b c d : Int} (h : a = c) (k : b = d) : Ending.returned (.tuple #[.int .u64 a, .int .u64 b]) = .returned (.tuple #[.int .u64 c, .int .u64 d]) := by rw [h, k]
def BN (q r : Int) (w : World) (e : Ending) (w' : World) : Prop := e = .returned (.tuple #[.int .u64 q, .int .u64 r]) ∧ Below w.heap.size w w'
theorem VE (lo y : Int) (w : World) (l : 0 ≤ lo ∧ lo < 18446744073709551616) (ot : 0 < y) (lW : y < 18446744073709551616) :
    Calls aj 301 #[.int .u64 0, .int .u64 lo, .int .u64 y] w (BN (lo / y) (lo % y) w) := by
  have mU : (y == 0) = false := by simp; omega
  have hy : decide (y ≤ 0) = false := by simp; omega
  obtain ⟨q5, l1⟩ := l
  go_enter Tryz.func301, Tryz.ntmps301
  go_wp2
  go_quiet (fail)
  go_wp2
  go_ret2
  exact ⟨rfl, Ut (Below.refl _ _) _⟩
theorem VD (hi lo y : Int) (w : World) (aI : 0 < hi) (h1 : hi < y) (l : 0 ≤ lo ∧ lo < 18446744073709551616) (lW : y < 18446744073709551616) :
    Calls aj 301 #[.int .u64 hi, .int .u64 lo, .int .u64 y] w (BN ((hi * 18446744073709551616 + lo) / y) ((hi * 18446744073709551616 + lo) % y) w) := by
  have mU : (y == 0) = false := by simp; omega
  have hy : decide (y ≤ hi) = false := by simp; omega
  have j2 : (hi == 0) = false := by simp; omega
  go_enter Tryz.func301, Tryz.ntmps301
  go_wp2_with fail
  refine (Ot y _ (by omega) lW).mono ?_;rintro e aP ⟨s, rfl, hs, rfl⟩;have mM := hs.eP; have oR := hs.s1;have Ze : IntKind.u64.wrap s = s := by rw [IntKind.wrap_u64]; omega
  have ua := abQ (qk aI) h1 l hs;generalize dI : bits .or .u64 (IntKind.u64.wrap (hi * 2 ^ s.toNat)) (lo / 2 ^ (64 - s).toNat) = U at ua;generalize pT : IntKind.u64.wrap (lo * 2 ^ s.toNat) = V at ua;generalize MC : IntKind.u64.wrap (y * 2 ^ s.toNat) = Y at ua;have kt := ua.aaj hs;have HF := ua.quo hs;have MD : 0 ≤ Y ∧ Y < 18446744073709551616 := by have := kt.a0; have := kt.a1; omega
  have MI := KN Y MD;have MG := KN V ⟨ua.v0, ua.v1⟩;have two := kt.two (V % 4294967296) (by omega);rw [HF.1] at two;have ME : Y / 4294967296 * 4294967296 + Y % 4294967296 = Y := by omega
  have EC := kt.rest;have zY := kt.next (V % 4294967296) (by omega)
  have AE := zY.rest;rw [ME] at EC AE;have VT : 0 ≤ V % 4294967296 ∧ V % 4294967296 < 4294967296 := by omega
  generalize hd : V / 4294967296 = d at *;generalize he : V % 4294967296 = e at *;generalize aL : Y / 4294967296 = a at *;generalize ab : Y % 4294967296 = b at *;have a0 := kt.a0; have a1 := kt.a1; have oC := kt.oC; have b1 := kt.b1; have kG := kt.kG; have d0 := kt.d0; have d1 := kt.d1;have cP : U < 18446744073709551616 := by have := kt.cP; omega
  have agp : (a == 0) = false := by simp; omega
  have yc := Lib.hid two; have Ss := Lib.hid HF.2; have uV := Lib.hid kt; have l3 := Lib.hid zY;have adQ := kt.Ex; have adP := kt.c9; have I5 := zY.Ex; have I4 := zY.c9;have t1 := kt.init; have Rk := kt.NF;have i1 := t1.Ev kt;have i2 : 0 ≤ U / a := t1.c9
  have i3 : IntKind.u64.wrap (U / a * a) = U / a * a := by
    have := t1.sum; have := t1.hU; rw [IntKind.wrap_u64];have : 0 ≤ U / a * a := jq i2 (by omega);omega
  have i4 := t1.hU;have i7 : 0 ≤ U / a * a := jq i2 (by omega);obtain ⟨m1, xn⟩ : ∃ m, m = U / a * a := ⟨_, rfl⟩;rw [← xn] at i4 i7 t1 Rk;have ah7 : IntKind.u64.wrap (U / a * a) = m1 := by rw [i3, xn]
  obtain ⟨i5, i6⟩ := Rk;have rX := Lib.hid t1;generalize My : jk U d a b = nh at *;generalize XD : iu U d a b = lz at *;have Fv := Lib.hid My;have St := Lib.hid EC; have Su := Lib.hid AE;clear two HF kt zY ua ME VT MD h1 aI l lW i3 xn t1 My XD EC AE
  go_upto_block 0 with fail
  go_cut [15, 16] (fun AP wa fH => w = fH ∧ AP = .int .u64 nh ∧ ∃ r, wa = .int .u64 r)
  case first =>
    go_wp2_with fail
    go_loop [15, 16] (fun AP wa => ∃ q r : Int, AP = .int .u64 q ∧ wa = .int .u64 r ∧ l4 U d a b q r ∧ r < 4294967296) (fun AP _ => (intOf AP).toNat)
    case atStart => exact ⟨_, _, rfl, rfl, rX.out, i6⟩
    case round =>
      obtain ⟨q, r, rfl, rfl, aD, ap⟩ := hrel;have al := aD.Ev uV.out;have uc := aD.c9;have YT := aD.hU
      by_cases ab : 4294967296 ≤ q
      · obtain ⟨gh, mL⟩ := aD.down uV.out (.inl ab)
        have ng := Lib.hid gh;clear gh
        by_cases aa : 4294967296 ≤ r + a
        · have je := ng.out.out uV.out aa
          rw [Fv.out] at je;have my := Lib.hid je;clear je
          go_wp2_with fail
          go_meet
          exact ⟨rfl, congrArg _ my.out, _, rfl⟩
        · go_wp2_with fail
          go_round
          case rel => exact ⟨_, _, rfl, rfl, ng.out, by omega⟩
          case measure => simp [intOf]; omega
      · have Hu := aD.o5 uV.out (by omega)
        obtain ⟨P, fp⟩ : ∃ P, P = q * b := ⟨_, rfl⟩;rw [← fp] at Hu;have Xy : IntKind.u64.wrap (q * b) = P := by rw [← fp, IntKind.wrap_u64]; omega
        have rR := Lib.hid fp;clear fp
        by_cases ak : 4294967296 * r + d < P
        · obtain ⟨gh, mL⟩ := aD.down uV.out (.inr (by rw [← rR.out]; exact ak))
          have ng := Lib.hid gh;clear gh
          by_cases aa : 4294967296 ≤ r + a
          · have je := ng.out.out uV.out aa
            rw [Fv.out] at je;have my := Lib.hid je;clear je
            go_wp2_with fail
            go_meet
            exact ⟨rfl, congrArg _ my.out, _, rfl⟩
          · go_wp2_with fail
            go_round
            case rel => exact ⟨_, _, rfl, rfl, ng.out, by omega⟩
            case measure => simp [intOf]; omega
        · have je := aD.done uV.out (by rw [← rR.out]; omega)
          rw [Fv.out] at je;have my := Lib.hid je;clear je
          go_wp2_with fail
          go_meet
          exact ⟨rfl, congrArg _ my.out, _, rfl⟩
  case rest =>
    obtain ⟨rfl, rfl, c3, rfl⟩ := hcut;have EC := St.out;have v0 := l3.out.kG;have v1 : lz < 18446744073709551616 := by have := l3.out.cP; omega
    have dn := l3.out.d0; have aG := l3.out.d1;have t2 := l3.out.init; have Rl := l3.out.NF;have q4 := t2.Ev l3.out;have Dz : 0 ≤ lz / a := t2.c9
    have NU : IntKind.u64.wrap (lz / a * a) = lz / a * a := by
      have := t2.sum; have := t2.hU; rw [IntKind.wrap_u64];have : 0 ≤ lz / a * a := jq Dz (by omega);omega
    have ZO := t2.hU;have ZQ : 0 ≤ lz / a * a := jq Dz (by omega);obtain ⟨m2, n0⟩ : ∃ m, m = lz / a * a := ⟨_, rfl⟩;rw [← n0] at ZO ZQ t2 Rl;have aik : IntKind.u64.wrap (lz / a * a) = m2 := by rw [NU, n0]
    obtain ⟨ail, ZP⟩ := Rl;have ti := Lib.hid t2;obtain ⟨ni, G0⟩ : ∃ Q, Q = jk lz e a b := ⟨_, rfl⟩;have yd := Lib.hid G0.symm;have I4 := l3.out.c9; have I5 := l3.out.Ex;rw [← G0] at I4 I5;clear NU n0 t2 G0
    go_upto_block 2 with fail
    go_cut [18, 16] (fun AQ wa fH => w = fH ∧ AQ = .int .u64 ni ∧ ∃ r, wa = .int .u64 r)
    case first =>
      go_wp2_with fail
      go_loop [18, 16] (fun AQ wa => ∃ q r : Int, AQ = .int .u64 q ∧ wa = .int .u64 r ∧ l4 lz e a b q r ∧ r < 4294967296) (fun AQ _ => (intOf AQ).toNat)
      case atStart => exact ⟨_, _, rfl, rfl, ti.out, ZP⟩
      case round =>
        obtain ⟨q, r, rfl, rfl, aD, ap⟩ := hrel;have al := aD.Ev l3.out;have uc := aD.c9;have YT := aD.hU
        by_cases ab : 4294967296 ≤ q
        · obtain ⟨gh, mL⟩ := aD.down l3.out (.inl ab)
          have ng := Lib.hid gh;clear gh
          by_cases aa : 4294967296 ≤ r + a
          · have je := ng.out.out l3.out aa
            rw [yd.out] at je;have my := Lib.hid je;clear je
            go_wp2_with fail
            go_meet
            exact ⟨rfl, congrArg _ my.out, _, rfl⟩
          · go_wp2_with fail
            go_round
            case rel => exact ⟨_, _, rfl, rfl, ng.out, by omega⟩
            case measure => simp [intOf]; omega
        · have Hu := aD.o5 l3.out (by omega)
          obtain ⟨P, fp⟩ : ∃ P, P = q * b := ⟨_, rfl⟩;rw [← fp] at Hu;have Xy : IntKind.u64.wrap (q * b) = P := by rw [← fp, IntKind.wrap_u64]; omega
          have rR := Lib.hid fp;clear fp
          by_cases ak : 4294967296 * r + e < P
          · obtain ⟨gh, mL⟩ := aD.down l3.out (.inr (by rw [← rR.out]; exact ak))
            have ng := Lib.hid gh;clear gh
            by_cases aa : 4294967296 ≤ r + a
            · have je := ng.out.out l3.out aa
              rw [yd.out] at je;have my := Lib.hid je;clear je
              go_wp2_with fail
              go_meet
              exact ⟨rfl, congrArg _ my.out, _, rfl⟩
            · go_wp2_with fail
              go_round
              case rel => exact ⟨_, _, rfl, rfl, ng.out, by omega⟩
              case measure => simp [intOf]; omega
          · have je := aD.done l3.out (by rw [← rR.out]; omega)
            rw [yd.out] at je;have my := Lib.hid je;clear je
            go_wp2_with fail
            go_meet
            exact ⟨rfl, congrArg _ my.out, _, rfl⟩
    case rest =>
      obtain ⟨rfl, rfl, ec, rfl⟩ := hcut;have AE := Su.out;rw [yd.out] at AE;have fin := yc.out;have Gz := Ss.out;rw [yd.out] at fin;rw [← fin.2] at Gz;have Sn := Lib.hid fin.1;have So := Lib.hid Gz;generalize iu lz e a b = R at *;clear fin Gz
      go_wp2
      go_ret2
      exact ⟨ad9 Sn.out So.out, Below.refl _ _⟩
theorem Gk (hi lo y : Int) (w : World) (aI : 0 ≤ hi) (h1 : hi < y) (l : 0 ≤ lo ∧ lo < 18446744073709551616) (lW : y < 18446744073709551616) :
    Calls aj 301 #[.int .u64 hi, .int .u64 lo, .int .u64 y] w (BN ((hi * 18446744073709551616 + lo) / y) ((hi * 18446744073709551616 + lo) % y) w) := by
  by_cases h : hi = 0
  · subst h
    rw [Int.zero_mul, Int.zero_add];exact VE lo y w l (by omega) lW
  · exact VD hi lo y w (by omega) h1 l lW
end Go.Proofs.YtpochbhajmbfdaaGreat
namespace Go.Proofs.YtpochbhajmbfdaaGreat
open Go.RowKit
theorem WC (x y : Int) (w : World) : (Instr.field 311 (.agg #[.int .u64 x, .int .u64 y]) 0).run aj w = .ok (.int .u64 x) w := by kernel_rfl
attribute [local go_sem] WC
def SW (q : Int) (w : World) (e : Ending) (w' : World) : Prop := ∃ g : Int, e = .returned (.int .u64 g) ∧ (0 ≤ g ∧ g ≤ q ∧ q ≤ g + 1 ∧ g < 18446744073709551616) ∧ Below w.heap.size w w'
theorem Xf (h1 l1 n h2 l2 m : Int) (w : World) (H1 : cR h1 l1 n) (cm : cR h2 l2 m) (aE : n ≤ 170141183460469231731687303715884105728) (hm : h2 ≠ 0) :
    Calls aj 302 #[.agg #[.int .u64 h1, .int .u64 l1], .agg #[.int .u64 h2, .int .u64 l2]] w (SW (n / m) w) := by
  obtain ⟨b1, b2, aG⟩ := id H1;obtain ⟨eF, dV, aO⟩ := id cm
  go_enter Tryz.func302, Tryz.ntmps302
  go_wp2_with fail
  refine (Ot h2 _ (by omega) (by omega)).mono ?_;rintro e aP ⟨s, rfl, hs, rfl⟩;have mM := hs.eP; have oR := hs.s1;have Ze : IntKind.u64.wrap s = s := by rw [IntKind.wrap_u64]; omega
  go_wp2_with fail
  obtain ⟨AU, ER⟩ := aaV hs eF.1 dV.1 dV.2;rw [← aO] at AU ER;refine (Q8 _ _ m s _ cm mM (by omega) AU).mono ?_;rintro e aP ⟨T, low, rfl, en, bE⟩;have gy : ah aP (w.heap.size) (.int .u64 h1) (.int .u64 l1) := (by (repeat first | focus ((with_reducible refine ah.new ?_); simp; done) | with_reducible refine ah.alloc ?_ _ | with_reducible refine ah.call ?_ bE)); obtain ⟨⟨l6, l7⟩, l9, ma⟩ := id gy; have jM : ah aP (w.heap.size + 1) (.int .u64 h2) (.int .u64 l2) := (by (repeat first | focus ((with_reducible refine ah.new ?_); simp; done) | with_reducible refine ah.call ?_ bE)); obtain ⟨⟨pD, pI⟩, pN, pP⟩ := id jM; have mP := Below.size bE; (try simp at mP); have um : ¬ aP.heap.size = w.heap.size := (by omega); have vP : ¬ aP.heap.size = w.heap.size + 1 := (by omega); have tF : ¬ w.heap.size = aP.heap.size := (by omega); have vf : ¬ w.heap.size + 1 = aP.heap.size := (by omega); have uj : w.heap.size < aP.heap.size := (by omega); have vM : w.heap.size + 1 < aP.heap.size := (by omega);obtain ⟨Ur, tq, LH⟩ := en;have XB : 9223372036854775808 ≤ T := by omega
  obtain ⟨L, hK, Xw, Mt⟩ := XI h1 l1 b1 b2;have aw := Xj n m s T low (by omega) aE mM oR LH tq.1 tq.2 XB;have a6 : h1 / 2 < T := by omega
  have hdiv : Hid (∀ w, Calls aj 301 #[.int .u64 (h1 / 2), .int .u64 L, .int .u64 T] w (BN (n / 2 / T) ((h1 / 2 * 18446744073709551616 + L) % T) w)) := fun w => by
    rw [aG, ← Mt];exact Gk (h1 / 2) L T w (by omega) a6 Xw Ur.2
  have uc : 0 ≤ n / 2 / T := qj (by omega) (by omega);have zq : 0 ≤ n / m := qj (by omega) (by omega);generalize n / 2 / T = Q at *;generalize n / m = q at *;clear AU ER Mt aG aO LH aE hm H1 cm;obtain ⟨ahN, ahO, ahP⟩ := aw
  go_wp2_with fail
  refine (hdiv.out _).mono ?_;rintro e w2 ⟨rfl, b4⟩
  go_wp2_with fail
  · have ck : (Q / 2 ^ (63 - s).toNat != 0) = true := by assumption
    go_ret
    refine ⟨_, rfl, ?_, by (repeat first | with_reducible exact Below.refl _ _ | with_reducible refine c6 ?_ _ | with_reducible refine b6 ?_ b4 | with_reducible refine b6 ?_ bE)⟩;generalize Q / 2 ^ (63 - s).toNat = G at *;rw [bne_iff_ne] at ck
    first | (rw [IntKind.wrap_u64]; omega) | omega
  · have ck : (Q / 2 ^ (63 - s).toNat != 0) = false := by assumption
    go_ret
    refine ⟨_, rfl, ?_, by (repeat first | with_reducible exact Below.refl _ _ | with_reducible refine c6 ?_ _ | with_reducible refine b6 ?_ b4 | with_reducible refine b6 ?_ bE)⟩;generalize Q / 2 ^ (63 - s).toNat = G at *;rw [bne_eq_false_iff_eq] at ck;omega
def FJ (q r : Int) (w : World) (e : Ending) (w' : World) : Prop := ∃ a b c d : Int, e = .returned (.tuple #[.agg #[.int .u64 a, .int .u64 b], .agg #[.int .u64 c, .int .u64 d]]) ∧ cR a b q ∧ cR c d r ∧ Below w.heap.size w w'
theorem VI {h1 l1 n m : Int} (H1 : cR h1 l1 n) (m0 : 0 < m) (m1 : m < 18446744073709551616) :
    cR (h1 / m) ((h1 % m * 18446744073709551616 + l1) / m) (n / m) ∧ cR 0 ((h1 % m * 18446744073709551616 + l1) % m) (n % m) := by
  obtain ⟨b1, b2, rfl⟩ := H1;have hU := pj h1 (show m ≠ 0 by omega);have c3 := oe h1 m0
  have e : h1 * 18446744073709551616 + l1 = (h1 % m * 18446744073709551616 + l1) + m * (h1 / m * 18446744073709551616) := by
    have := sU h1 m;rw [← lU];generalize m * (h1 / m) = k at *;omega
  have c9 : 0 ≤ h1 / m := qj b1.1 (by omega);have q1 : h1 / m ≤ h1 := Int.ediv_le_self _ b1.1;have eP := pj (h1 % m * 18446744073709551616 + l1) (show m ≠ 0 by omega);have s1 := oe (h1 % m * 18446744073709551616 + l1) m0;have t0 : 0 ≤ (h1 % m * 18446744073709551616 + l1) / m := qj (by omega) (by omega);have t1 : (h1 % m * 18446744073709551616 + l1) / m < 18446744073709551616 := Int.ediv_lt_of_lt_mul m0 (by omega)
  constructor
  · refine ⟨by omega, by omega, ?_⟩
    rw [e, Int.add_mul_ediv_left _ _ (by omega)];omega
  · refine ⟨by omega, by omega, ?_⟩
    rw [e, Int.add_mul_emod_self_left];omega
theorem VH (h1 l1 n l2 : Int) (w : World) (H1 : cR h1 l1 n) (cm : cR 0 l2 l2) (m0 : 0 < l2) :
    Calls aj 298 #[.agg #[.int .u64 h1, .int .u64 l1], .agg #[.int .u64 0, .int .u64 l2]] w (FJ (n / l2) (n % l2) w) := by
  have m1 : l2 < 18446744073709551616 := cm.2.1.2;have hd := VI H1 m0 m1;have ng := Lib.hid hd;have b1 := H1.1; have b2 := H1.2.1;have hU := pj h1 (show l2 ≠ 0 by omega);have c3 := oe h1 m0;clear hd
  go_enter Tryz.func298, Tryz.ntmps298
  go_wp2_with fail
  refine (Gk 0 h1 l2 _ (by omega) m0 b1 m1).mono ?_;rintro e aP ⟨rfl, bE⟩;rw [Int.zero_mul, Int.zero_add];have gy : ah aP (w.heap.size) (.int .u64 h1) (.int .u64 l1) := (by (repeat first | focus ((with_reducible refine ah.new ?_); simp; done) | with_reducible refine ah.alloc ?_ _ | with_reducible refine ah.call ?_ bE)); obtain ⟨⟨l6, l7⟩, l9, ma⟩ := id gy; have jM : ah aP (w.heap.size + 1) (.int .u64 0) (.int .u64 l2) := (by (repeat first | focus ((with_reducible refine ah.new ?_); simp; done) | with_reducible refine ah.alloc ?_ _ | with_reducible refine ah.call ?_ bE)); obtain ⟨⟨pD, pI⟩, pN, pP⟩ := id jM; have pr : ah aP (w.heap.size + 1 + 1) (.int .u64 0) (.int .u64 0) := (by (repeat first | focus ((with_reducible refine ah.new ?_); simp; done) | with_reducible refine ah.alloc ?_ _ | with_reducible refine ah.call ?_ bE)); obtain ⟨⟨wO, wT⟩, wZ, w6⟩ := id pr; have rJ : ah aP (w.heap.size + 1 + 1 + 1) (.int .u64 0) (.int .u64 0) := (by (repeat first | focus ((with_reducible refine ah.new ?_); simp; done) | with_reducible refine ah.call ?_ bE)); obtain ⟨⟨yF, yO⟩, yZ, y3⟩ := id rJ; have mP := Below.size bE; (try simp at mP); have um : ¬ aP.heap.size = w.heap.size := (by omega); have vP : ¬ aP.heap.size = w.heap.size + 1 := (by omega); have Ai : ¬ aP.heap.size = w.heap.size + 1 + 1 := (by omega); have OV : ¬ aP.heap.size = w.heap.size + 1 + 1 + 1 := (by omega); have tF : ¬ w.heap.size = aP.heap.size := (by omega); have vf : ¬ w.heap.size + 1 = aP.heap.size := (by omega); have yT : ¬ w.heap.size + 1 + 1 = aP.heap.size := (by omega); have LU : ¬ w.heap.size + 1 + 1 + 1 = aP.heap.size := (by omega); have uj : w.heap.size < aP.heap.size := (by omega); have vM : w.heap.size + 1 < aP.heap.size := (by omega); have Ac : w.heap.size + 1 + 1 < aP.heap.size := (by omega); have Ol : w.heap.size + 1 + 1 + 1 < aP.heap.size := (by omega);generalize h1 % l2 = R at *;generalize h1 / l2 = Q at *
  go_wp2_with fail
  refine (Gk R l1 l2 _ hU c3 b2 m1).mono ?_;rintro e w2 ⟨rfl, b4⟩;have ju : ah w2 (w.heap.size) (.int .u64 h1) (.int .u64 l1) := (by (repeat first | with_reducible assumption | with_reducible refine ah.call ?_ b4)); obtain ⟨⟨pE, pJ⟩, pO, pQ⟩ := id ju; have lX : ah w2 (w.heap.size + 1) (.int .u64 0) (.int .u64 l2) := (by (repeat first | with_reducible assumption | with_reducible refine ah.call ?_ b4)); obtain ⟨⟨tr, tB⟩, tJ, tO⟩ := id lX; have lY : ah w2 (w.heap.size + 1 + 1) (.int .u64 0) (.int .u64 0) := (by (repeat first | with_reducible assumption | with_reducible refine ah.call ?_ b4)); obtain ⟨⟨tu, tC⟩, tK, tP⟩ := id lY; have rK : ah w2 (w.heap.size + 1 + 1 + 1) (.int .u64 0) (.int .u64 0) := (by (repeat first | with_reducible assumption | with_reducible refine ah.call ?_ b4)); obtain ⟨⟨yG, yP⟩, y0, y4⟩ := id rK; have n5 := Below.size b4; (try simp at n5); have xG : ¬ w2.heap.size = w.heap.size := (by omega); have Aj : ¬ w2.heap.size = w.heap.size + 1 := (by omega); have D1 : ¬ w2.heap.size = w.heap.size + 1 + 1 := (by omega); have OW : ¬ w2.heap.size = w.heap.size + 1 + 1 + 1 := (by omega); have wW : ¬ w.heap.size = w2.heap.size := (by omega); have yU : ¬ w.heap.size + 1 = w2.heap.size := (by omega); have Cw : ¬ w.heap.size + 1 + 1 = w2.heap.size := (by omega); have LV : ¬ w.heap.size + 1 + 1 + 1 = w2.heap.size := (by omega); have xA : w.heap.size < w2.heap.size := (by omega); have Ad : w.heap.size + 1 < w2.heap.size := (by omega); have DO : w.heap.size + 1 + 1 < w2.heap.size := (by omega); have Om : w.heap.size + 1 + 1 + 1 < w2.heap.size := (by omega);generalize (R * 18446744073709551616 + l1) / l2 = ni at *;generalize (R * 18446744073709551616 + l1) % l2 = eT at *
  go_wp2_with fail
  refine bodyPost_ret (v := .tuple #[.agg #[.int .u64 Q, .int .u64 ni], .agg #[.int .u64 0, .int .u64 eT]]) (by simp only [results, Tryz.results298]; go_simp) rfl ⟨_, _, _, _, rfl, ng.out.1, ng.out.2, ?_⟩;(repeat first | with_reducible exact Below.refl _ _ | with_reducible refine c6 ?_ _ | focus ((with_reducible refine eW ?_ _ _ _ ?_); rotate_left; omega) | with_reducible refine b6 ?_ b4 | with_reducible refine b6 ?_ bE)
end Go.Proofs.YtpochbhajmbfdaaGreat
namespace Go.Proofs.YtpochbhajmbfdaaGreat
open Go.RowKit
theorem Xg {n m g : Int} (mU : 0 ≤ n) (m0 : 0 < m) (hy : n < 340282366920938463463374607431768211456) (h : g ≤ n / m) (g0 : 0 ≤ g) : lb (g * m) = true ∧ g * m ≤ n := by
  have h1 : g * m ≤ n := (ql m0).1 h;unfold lb;rw [c0];exact ⟨by omega, h1⟩
theorem Xh {n m g : Int} (m0 : 0 < m) (h : g ≤ n / m) (k : n - g * m < m) : g = n / m ∧ n - g * m = n % m := by
  have h1 : g * m ≤ n := (ql m0).1 h;have h2 : n / m < g + 1 := Int.ediv_lt_of_lt_mul m0 (by rw [Int.add_mul]; omega);have e : g = n / m := by omega
  refine ⟨e, ?_⟩;rw [Int.emod_def, e, ka]
theorem Xi {n m g : Int} (m0 : 0 < m) (h : n / m ≤ g + 1) (k : ¬ n - g * m < m) : g + 1 = n / m ∧ n - g * m - m = n % m := by
  have h2 : g + 1 ≤ n / m := (ql m0).2 (by rw [Int.add_mul]; omega);have e : g + 1 = n / m := by omega
  refine ⟨e, ?_⟩;rw [Int.emod_def, ← e, ka m, Int.add_mul];omega
theorem ad0 {n m g : Int} (mU : 0 ≤ n) (aE : n ≤ 170141183460469231731687303715884105728) (m0 : 18446744073709551616 ≤ m) (h : g ≤ n / m) : g < 9223372036854775809 := by
  rcases qi g 9223372036854775809 with k | k
  · exact k
  · have h1 : g * m ≤ n := (ql (by omega)).1 h
    have h2 : 9223372036854775809 * 18446744073709551616 ≤ g * m := Int.mul_le_mul k m0 (by omega) (by omega);omega
theorem VG (h1 l1 n h2 l2 m : Int) (w : World) (H1 : cR h1 l1 n) (cm : cR h2 l2 m) (aE : n ≤ 170141183460469231731687303715884105728) (hm : h2 ≠ 0) :
    Calls aj 298 #[.agg #[.int .u64 h1, .int .u64 l1], .agg #[.int .u64 h2, .int .u64 l2]] w (FJ (n / m) (n % m) w) := by
  have mU : 0 ≤ n := by have := H1; unfold cR at this; omega
  have m0 : 0 < m := by have := cm; unfold cR at this; omega
  have ai5 : (h2 == 0) = false := by simpa using hm
  go_enter Tryz.func298, Tryz.ntmps298
  go_wp2_with fail
  refine (Xf _ _ _ _ _ _ _ H1 cm aE hm).mono ?_;rintro e aP ⟨g, rfl, ⟨g0, g1, g2, g3⟩, bE⟩;have gy : ah aP (w.heap.size) (.int .u64 h1) (.int .u64 l1) := (by (repeat first | focus ((with_reducible refine ah.new ?_); simp; done) | with_reducible refine ah.alloc ?_ _ | with_reducible refine ah.call ?_ bE)); obtain ⟨⟨l6, l7⟩, l9, ma⟩ := id gy; have jM : ah aP (w.heap.size + 1) (.int .u64 h2) (.int .u64 l2) := (by (repeat first | focus ((with_reducible refine ah.new ?_); simp; done) | with_reducible refine ah.alloc ?_ _ | with_reducible refine ah.call ?_ bE)); obtain ⟨⟨pD, pI⟩, pN, pP⟩ := id jM; have pr : ah aP (w.heap.size + 1 + 1) (.int .u64 0) (.int .u64 0) := (by (repeat first | focus ((with_reducible refine ah.new ?_); simp; done) | with_reducible refine ah.alloc ?_ _ | with_reducible refine ah.call ?_ bE)); obtain ⟨⟨wO, wT⟩, wZ, w6⟩ := id pr; have rJ : ah aP (w.heap.size + 1 + 1 + 1) (.int .u64 0) (.int .u64 0) := (by (repeat first | focus ((with_reducible refine ah.new ?_); simp; done) | with_reducible refine ah.call ?_ bE)); obtain ⟨⟨yF, yO⟩, yZ, y3⟩ := id rJ; have mP := Below.size bE; (try simp at mP); have um : ¬ aP.heap.size = w.heap.size := (by omega); have vP : ¬ aP.heap.size = w.heap.size + 1 := (by omega); have Ai : ¬ aP.heap.size = w.heap.size + 1 + 1 := (by omega); have OV : ¬ aP.heap.size = w.heap.size + 1 + 1 + 1 := (by omega); have tF : ¬ w.heap.size = aP.heap.size := (by omega); have vf : ¬ w.heap.size + 1 = aP.heap.size := (by omega); have yT : ¬ w.heap.size + 1 + 1 = aP.heap.size := (by omega); have LU : ¬ w.heap.size + 1 + 1 + 1 = aP.heap.size := (by omega); have uj : w.heap.size < aP.heap.size := (by omega); have vM : w.heap.size + 1 < aP.heap.size := (by omega); have Ac : w.heap.size + 1 + 1 < aP.heap.size := (by omega); have Ol : w.heap.size + 1 + 1 + 1 < aP.heap.size := (by omega);have qS : cR 0 g g := by unfold cR; omega
  obtain ⟨W8, W9⟩ := Xg mU m0 (by omega) g1 g0;have Hs := Xh m0 g1;have Hv := Xi m0 g2;generalize MT : g * m = GL at *;have g4 : g < 9223372036854775809 := ad0 mU aE (by have := cm; unfold cR at this; omega) g1;clear hm
  go_wp2_with fail
  refine (OQ _ _ _ _ _ _ _ qS cm).mono ?_;rw [MT];rintro e w2 ⟨ph, pl, rfl, hp, b4⟩;rw [if_pos W8] at hp;clear MT;have ju : ah w2 (w.heap.size) (.int .u64 h1) (.int .u64 l1) := (by (repeat first | with_reducible assumption | with_reducible refine ah.call ?_ b4)); obtain ⟨⟨pE, pJ⟩, pO, pQ⟩ := id ju; have lX : ah w2 (w.heap.size + 1) (.int .u64 h2) (.int .u64 l2) := (by (repeat first | with_reducible assumption | with_reducible refine ah.call ?_ b4)); obtain ⟨⟨tr, tB⟩, tJ, tO⟩ := id lX; have lY : ah w2 (w.heap.size + 1 + 1) (.int .u64 0) (.int .u64 0) := (by (repeat first | with_reducible assumption | with_reducible refine ah.call ?_ b4)); obtain ⟨⟨tu, tC⟩, tK, tP⟩ := id lY; have rK : ah w2 (w.heap.size + 1 + 1 + 1) (.int .u64 0) (.int .u64 0) := (by (repeat first | with_reducible assumption | with_reducible refine ah.call ?_ b4)); obtain ⟨⟨yG, yP⟩, y0, y4⟩ := id rK; have n5 := Below.size b4; (try simp at n5); have xG : ¬ w2.heap.size = w.heap.size := (by omega); have Aj : ¬ w2.heap.size = w.heap.size + 1 := (by omega); have D1 : ¬ w2.heap.size = w.heap.size + 1 + 1 := (by omega); have OW : ¬ w2.heap.size = w.heap.size + 1 + 1 + 1 := (by omega); have wW : ¬ w.heap.size = w2.heap.size := (by omega); have yU : ¬ w.heap.size + 1 = w2.heap.size := (by omega); have Cw : ¬ w.heap.size + 1 + 1 = w2.heap.size := (by omega); have LV : ¬ w.heap.size + 1 + 1 + 1 = w2.heap.size := (by omega); have xA : w.heap.size < w2.heap.size := (by omega); have Ad : w.heap.size + 1 < w2.heap.size := (by omega); have DO : w.heap.size + 1 + 1 < w2.heap.size := (by omega); have Om : w.heap.size + 1 + 1 + 1 < w2.heap.size := (by omega);clear gy l6 l7 l9 ma jM pD pI pN pP pr wO wT wZ w6 rJ yF yO yZ y3 um tF uj vP vf vM Ai yT Ac OV LU Ol
  go_wp2_with fail
  refine (Ri _ _ _ _ _ _ _ H1 hp W9).mono ?_;rintro e w3 ⟨jH, jI, rfl, ap, c8⟩;have lZ : ah w3 (w.heap.size) (.int .u64 h1) (.int .u64 l1) := (by (repeat first | with_reducible assumption | with_reducible refine ah.alloc ?_ _ | with_reducible refine ah.call ?_ c8)); obtain ⟨⟨wP, wU⟩, w0, w7⟩ := id lZ; have rN : ah w3 (w.heap.size + 1) (.int .u64 h2) (.int .u64 l2) := (by (repeat first | with_reducible assumption | with_reducible refine ah.alloc ?_ _ | with_reducible refine ah.call ?_ c8)); obtain ⟨⟨Cg, Cs⟩, CH, CQ⟩ := id rN; have wx : ah w3 (w.heap.size + 1 + 1) (.int .u64 0) (.int .u64 0) := (by (repeat first | with_reducible assumption | with_reducible refine ah.alloc ?_ _ | with_reducible refine ah.call ?_ c8)); obtain ⟨⟨Ga, Gi⟩, Gx, GJ⟩ := id wx; have JM : ah w3 (w.heap.size + 1 + 1 + 1) (.int .u64 0) (.int .u64 0) := (by (repeat first | with_reducible assumption | with_reducible refine ah.alloc ?_ _ | with_reducible refine ah.call ?_ c8)); obtain ⟨⟨UN, Vv⟩, Ww, W1⟩ := id JM; have sC := Below.size c8; (try simp at sC); have Ak : ¬ w3.heap.size = w.heap.size := (by omega); have D2 : ¬ w3.heap.size = w.heap.size + 1 := (by omega); have II : ¬ w3.heap.size = w.heap.size + 1 + 1 := (by omega); have abA : ¬ w3.heap.size = w.heap.size + 1 + 1 + 1 := (by omega); have yV : ¬ w.heap.size = w3.heap.size := (by omega); have Cx : ¬ w.heap.size + 1 = w3.heap.size := (by omega); have Gs : ¬ w.heap.size + 1 + 1 = w3.heap.size := (by omega); have V5 : ¬ w.heap.size + 1 + 1 + 1 = w3.heap.size := (by omega); have Ae : w.heap.size < w3.heap.size := (by omega); have DP : w.heap.size + 1 < w3.heap.size := (by omega); have Il : w.heap.size + 1 + 1 < w3.heap.size := (by omega); have aaR : w.heap.size + 1 + 1 + 1 < w3.heap.size := (by omega);clear ju pE pJ pO pQ lX tr tB tJ tO lY tu tC tK tP rK yG yP y0 y4 xG wW xA Aj yU Ad D1 Cw DO OW LV Om
  go_wp2_with fail
  refine (aaJ _ _ _ _ _ _ _ ap cm).mono ?_;rintro e fA ⟨rfl, fh⟩;have abY : ¬ w.heap.size + 1 + 1 + 1 = w.heap.size := by omega
  have abX : ¬ w.heap.size + 1 + 1 = w.heap.size := by omega
  have Bl : ah fA (w.heap.size) (.int .u64 h1) (.int .u64 l1) := (by (repeat first | with_reducible assumption | focus ((with_reducible refine ah.set ?_ _ ?_); rotate_left; omega) | with_reducible refine ah.call ?_ fh)); obtain ⟨⟨K7, Lv⟩, L4, Mh⟩ := id Bl; have Bm : ah fA (w.heap.size + 1) (.int .u64 h2) (.int .u64 l2) := (by (repeat first | with_reducible assumption | focus ((with_reducible refine ah.set ?_ _ ?_); rotate_left; omega) | with_reducible refine ah.call ?_ fh)); obtain ⟨⟨K8, Lw⟩, L5, Mi⟩ := id Bm; have Bn : ah fA (w.heap.size + 1 + 1) (.int .u64 0) (.int .u64 0) := (by (repeat first | with_reducible assumption | focus ((with_reducible refine ah.set ?_ _ ?_); rotate_left; omega) | with_reducible refine ah.call ?_ fh)); obtain ⟨⟨K9, Lx⟩, L6, Mj⟩ := id Bn; have JN : ah fA (w.heap.size + 1 + 1 + 1) (.int .u64 jH) (.int .u64 jI) := (by (repeat first | with_reducible refine ah.put ?_ | focus ((with_reducible apply fB.of); with_reducible assumption) | with_reducible refine ah.call ?_ fh)); obtain ⟨⟨UR, Vz⟩, WA, W5⟩ := id JN; have HY := Below.size fh; (try simp at HY); have OX : ¬ fA.heap.size = w.heap.size := (by omega); have OY : ¬ fA.heap.size = w.heap.size + 1 := (by omega); have abB : ¬ fA.heap.size = w.heap.size + 1 + 1 := (by omega); have abC : ¬ fA.heap.size = w.heap.size + 1 + 1 + 1 := (by omega); have LW : ¬ w.heap.size = fA.heap.size := (by omega); have LX : ¬ w.heap.size + 1 = fA.heap.size := (by omega); have V6 : ¬ w.heap.size + 1 + 1 = fA.heap.size := (by omega); have V7 : ¬ w.heap.size + 1 + 1 + 1 = fA.heap.size := (by omega); have On : w.heap.size < fA.heap.size := (by omega); have Oo : w.heap.size + 1 < fA.heap.size := (by omega); have aaS : w.heap.size + 1 + 1 < fA.heap.size := (by omega); have aaT : w.heap.size + 1 + 1 + 1 < fA.heap.size := (by omega);clear lZ wP wU w0 w7 rN Cg Cs CH CQ wx Ga Gi Gx GJ JM UN Vv Ww W1 Ak yV Ae D2 Cx DP II Gs Il abA V5 aaR
  by_cases ao : n - GL < m
  · obtain ⟨q1, q2⟩ := Hs (by omega)
    have yc := Lib.hid q1; have Fw := Lib.hid q2;clear Hs Hv q1 q2
    go_wp2_with fail
    go_region
    all_goals
      go_wp2_with fail
      refine yC ?_; intro kJ iG; have rH : ah kJ (w.heap.size + 1 + 1) (.int .u64 0) (.int .u64 g) := (by rw [iG]; (repeat first | with_reducible refine ah.drew ?_ | with_reducible refine ah.put ?_ | focus ((with_reducible refine ah.set ?_ _ ?_); rotate_left; omega) | focus ((with_reducible apply fB.of); with_reducible assumption))); obtain ⟨⟨Cc, Cq⟩, CD, CO⟩ := id rH; have rI : ah kJ (w.heap.size + 1 + 1 + 1) (.int .u64 jH) (.int .u64 jI) := (by rw [iG]; (repeat first | with_reducible refine ah.drew ?_ | with_reducible refine ah.put ?_ | focus ((with_reducible apply fB.of); with_reducible assumption) | with_reducible refine fB.set ?_ _ _)); obtain ⟨⟨Cd, Cr⟩, CE, CP⟩ := id rI; have oK : Below w.heap.size w kJ := (by rw [iG]; (repeat first | with_reducible exact Below.refl _ _ | with_reducible refine c6 ?_ _ | focus ((with_reducible refine eW ?_ _ _ _ ?_); rotate_left; omega) | with_reducible refine Below.drew ?_ | with_reducible refine b6 ?_ fh | with_reducible refine b6 ?_ c8 | with_reducible refine b6 ?_ b4 | with_reducible refine b6 ?_ bE)); clear iG;exact bodyPost_ret (v := .tuple #[.agg #[.int .u64 0, .int .u64 g], .agg #[.int .u64 jH, .int .u64 jI]]) (by simp only [results, Tryz.results298]; go_simp) rfl ⟨_, _, _, _, rfl, qS.conv yc.out, ap.conv Fw.out, oK⟩
  · obtain ⟨q1, q2⟩ := Hv (by omega)
    have yc := Lib.hid q1; have Fw := Lib.hid q2;have Xr : cR 0 (g + 1) (g + 1) := by unfold cR; omega
    have vD : Hid (∀ w, Calls aj 303 #[.agg #[.int .u64 jH, .int .u64 jI], .agg #[.int .u64 h2, .int .u64 l2]] w (aX (n - GL - m) w)) := fun w => Ri _ _ _ _ _ _ w ap cm (by omega);have h4 : decide (n - GL < m) = false := bl (by omega);clear Hs Hv q1 q2 ao
    go_wp2_with fail
    refine (vD.out _).mono ?_;rintro e iW ⟨Jv, Jw, rfl, aD, hM⟩;have RX : ah iW (w.heap.size) (.int .u64 h1) (.int .u64 l1) := (by (repeat first | with_reducible assumption | with_reducible refine ah.call ?_ hM)); obtain ⟨⟨agy, agR⟩, ahi, ahw⟩ := id RX; have RY : ah iW (w.heap.size + 1) (.int .u64 h2) (.int .u64 l2) := (by (repeat first | with_reducible assumption | with_reducible refine ah.call ?_ hM)); obtain ⟨⟨agz, agS⟩, ahj, ahx⟩ := id RY; have RZ : ah iW (w.heap.size + 1 + 1) (.int .u64 0) (.int .u64 0) := (by (repeat first | with_reducible assumption | with_reducible refine ah.call ?_ hM)); obtain ⟨⟨agA, agT⟩, ahk, ahy⟩ := id RZ; have R1 : ah iW (w.heap.size + 1 + 1 + 1) (.int .u64 jH) (.int .u64 jI) := (by (repeat first | with_reducible assumption | with_reducible refine ah.call ?_ hM)); obtain ⟨⟨agB, agU⟩, ahl, ahz⟩ := id R1; have Zm := Below.size hM; (try simp at Zm); have aiV : ¬ iW.heap.size = w.heap.size := (by omega); have aiW : ¬ iW.heap.size = w.heap.size + 1 := (by omega); have aiX : ¬ iW.heap.size = w.heap.size + 1 + 1 := (by omega); have aiY : ¬ iW.heap.size = w.heap.size + 1 + 1 + 1 := (by omega); have ag3 : ¬ w.heap.size = iW.heap.size := (by omega); have ag4 : ¬ w.heap.size + 1 = iW.heap.size := (by omega); have ag5 : ¬ w.heap.size + 1 + 1 = iW.heap.size := (by omega); have ag6 : ¬ w.heap.size + 1 + 1 + 1 = iW.heap.size := (by omega); have aiw : w.heap.size < iW.heap.size := (by omega); have aix : w.heap.size + 1 < iW.heap.size := (by omega); have aiy : w.heap.size + 1 + 1 < iW.heap.size := (by omega); have aiz : w.heap.size + 1 + 1 + 1 < iW.heap.size := (by omega);clear Bl K7 Lv L4 Mh Bm K8 Lw L5 Mi Bn K9 Lx L6 Mj JN UR Vz WA W5 OX LW On OY LX Oo abB V6 aaS abC V7 aaT
    go_wp2_with fail
    go_region
    all_goals
      go_wp2_with fail
      refine yC ?_; intro kJ iG; have rH : ah kJ (w.heap.size + 1 + 1) (.int .u64 0) (.int .u64 (g + 1)) := (by rw [iG]; (repeat first | with_reducible refine ah.drew ?_ | with_reducible refine ah.put ?_ | focus ((with_reducible refine ah.set ?_ _ ?_); rotate_left; omega) | focus ((with_reducible apply fB.of); with_reducible assumption) | with_reducible refine fB.set ?_ _ _)); obtain ⟨⟨Cc, Cq⟩, CD, CO⟩ := id rH; have rI : ah kJ (w.heap.size + 1 + 1 + 1) (.int .u64 Jv) (.int .u64 Jw) := (by rw [iG]; (repeat first | with_reducible refine ah.drew ?_ | with_reducible refine ah.put ?_ | focus ((with_reducible apply fB.of); with_reducible assumption) | with_reducible refine fB.set ?_ _ _)); obtain ⟨⟨Cd, Cr⟩, CE, CP⟩ := id rI; have oK : Below w.heap.size w kJ := (by rw [iG]; (repeat first | with_reducible exact Below.refl _ _ | with_reducible refine c6 ?_ _ | focus ((with_reducible refine eW ?_ _ _ _ ?_); rotate_left; omega) | with_reducible refine Below.drew ?_ | with_reducible refine b6 ?_ hM | with_reducible refine b6 ?_ fh | with_reducible refine b6 ?_ c8 | with_reducible refine b6 ?_ b4 | with_reducible refine b6 ?_ bE)); clear iG;exact bodyPost_ret (v := .tuple #[.agg #[.int .u64 0, .int .u64 (g + 1)], .agg #[.int .u64 Jv, .int .u64 Jw]]) (by simp only [results, Tryz.results298]; go_simp) rfl ⟨_, _, _, _, rfl, Xr.conv yc.out, aD.conv Fw.out, oK⟩
theorem VF (h1 l1 n h2 l2 m : Int) (w : World) (H1 : cR h1 l1 n) (cm : cR h2 l2 m) (aE : n ≤ 170141183460469231731687303715884105728) (m0 : 0 < m) :
    Calls aj 298 #[.agg #[.int .u64 h1, .int .u64 l1], .agg #[.int .u64 h2, .int .u64 l2]] w (FJ (n / m) (n % m) w) := by
  by_cases k : h2 = 0
  · subst k
    obtain ⟨a, b, e⟩ := id cm;rw [Int.zero_mul, Int.zero_add] at e;subst e;exact VH h1 l1 n m w H1 cm m0
  · exact VG h1 l1 n h2 l2 m w H1 cm aE k
end Go.Proofs.YtpochbhajmbfdaaGreat
namespace Go.Proofs.YtpochbhajmbfdaaGreat
open Go.RowKit
def Sh (w : World) (Q R : Int) (a b c d : Value) (we Jj : Value) (fH : World) : Prop :=
 ∃ (g7 g8 : Nat) (Ay Az jH jI : Int), we = .pointer (some ⟨g7, 0, none⟩) ∧ Jj = .pointer (some ⟨g8, 0, none⟩) ∧ w.heap.size + 4 ≤ g7 ∧ w.heap.size + 4 ≤ g8 ∧ cR Ay Az Q ∧ cR jH jI R ∧
  ah fH g7 (.int .u64 Ay) (.int .u64 Az) ∧ ah fH g8 (.int .u64 jH) (.int .u64 jI) ∧ ah fH w.heap.size a b ∧ ah fH (w.heap.size + 1) c d ∧ ah fH (w.heap.size + 1 + 1) (.int .i64 0) (.int .u64 0) ∧ ah fH (w.heap.size + 1 + 1 + 1) (.int .i64 0) (.int .u64 0) ∧ Below w.heap.size w fH
theorem aah {W : World} {b bT : Nat} {u v kF aW : Value} (h : ah W b u v) (k : ah W bT kF aW) : (W.cell? ⟨b, 0, none⟩ = some u ∧ W.cell? ⟨b, 1, none⟩ = some v) ∧ (W.cell? ⟨bT, 0, none⟩ = some kF ∧ W.cell? ⟨bT, 1, none⟩ = some aW) := ⟨h.1, k.1⟩
theorem DF {W : World} {b bT F4 : Nat} {u v kF aW Rw Ry : Value} (h : ah W b u v) (k : ah W bT kF aW) (l : ah W F4 Rw Ry) : (W.cell? ⟨b, 0, none⟩ = some u ∧ W.cell? ⟨b, 1, none⟩ = some v) ∧ (W.cell? ⟨bT, 0, none⟩ = some kF ∧ W.cell? ⟨bT, 1, none⟩ = some aW) ∧ (W.cell? ⟨F4, 0, none⟩ = some Rw ∧ W.cell? ⟨F4, 1, none⟩ = some Ry) := ⟨h.1, k.1, l.1⟩
def Sg (w : World) (x y : Int) (fH : World) : Prop := ∃ c1 c2 aG aO : Int, bx c1 c2 x ∧ bx aG aO y ∧ ah fH (w.heap.size + 1 + 1) (.int .i64 c1) (.int .u64 c2) ∧ ah fH (w.heap.size + 1 + 1 + 1) (.int .i64 aG) (.int .u64 aO) ∧ Below w.heap.size w fH
theorem af7 {P : Program} {c : Code} {Q : Exit → Act → World → Prop} {a : Act} {W : World} (h : ∀ bq, bq = W → c.wp P Q a bq) : c.wp P Q a W := h W rfl
theorem aaC {n m : Int} (hm : 0 < m) (h : -170141183460469231731687303715884105728 ≤ n) : -170141183460469231731687303715884105728 * m ≤ n := by grind
theorem VL {n m N M : Int} (hm : 0 < m) (kr : ((n.natAbs : Nat) : Int) = N) (jz : ((m.natAbs : Nat) : Int) = M) (k : 0 ≤ n) : N / M = n / m ∧ N % M = n % m := by
 obtain rfl : M = m := by omega
 obtain rfl : N = n := by omega
 exact ⟨rfl, rfl⟩
theorem VJ {n m N M : Int} (hm : 0 < m) (kr : ((n.natAbs : Nat) : Int) = N) (jz : ((m.natAbs : Nat) : Int) = M) (k : n < 0) (z : N % M = 0) : -(N / M) = n / m ∧ 0 = n % m := by
 obtain rfl : M = m := by omega
 obtain rfl : n = -N := by omega
 have h1 := sU N M;rw [z, Int.add_zero] at h1;have h2 : -N = M * (-(N / M)) := by rw [Int.mul_neg, h1]
 rw [h2]
 constructor
 ·rw [Int.mul_ediv_cancel_left _ (by omega)]
 ·rw [Int.mul_emod_right]
theorem VK {n m N M : Int} (hm : 0 < m) (kr : ((n.natAbs : Nat) : Int) = N) (jz : ((m.natAbs : Nat) : Int) = M) (k : n < 0) (z : N % M ≠ 0) : -(N / M) - 1 = n / m ∧ -(N % M) + m = n % m := by
 obtain rfl : M = m := by omega
 obtain rfl : n = -N := by omega
 have h1 := sU N M;have hU := pj N (show M ≠ 0 by omega);have c3 := oe N hm;have h2 : -N = (M - N % M) + M * (-(N / M) - 1) := by rw [Int.mul_sub, Int.mul_neg, Int.mul_one]; omega
 have q : (-N) / M = -(N / M) - 1 := by
  rw [h2, Int.add_mul_ediv_left _ _ (by omega), Int.ediv_eq_zero_of_lt (by omega) (by omega)];omega
 have r : (-N) % M = M - N % M := by
  rw [h2, Int.add_mul_emod_self_left, Int.emod_eq_of_lt (by omega) (by omega)]
 rw [q, r];omega
def SU (n m : Int) (w : World) (e : Ending) (w' : World) : Prop := ∃ a b c d : Int, e = .returned (.tuple #[.agg #[.int .i64 a, .int .u64 b], .agg #[.int .i64 c, .int .u64 d], .bool true]) ∧ bx a b (n / m) ∧ bx c d (n % m) ∧ Below w.heap.size w w'
theorem JQ (h1 l1 n h2 l2 m : Int) (w : World) (H1 : bx h1 l1 n) (cm : bx h2 l2 m) (hm : 0 < m) :
  Calls aj 289 #[.agg #[.int .i64 h1, .int .u64 l1], .agg #[.int .i64 h2, .int .u64 l2]] w (SU n m w) := by
 have ak : 0 < gb m 0 := by unfold gb; split <;> (try split) <;> omega
 have hs : Hid (∀ w, Calls aj 247 #[.agg #[.int .i64 h2, .int .u64 l2]] w (hj (.int .i64 (gb m 0)) w)) := fun w => BQ _ _ _ w cm;generalize gb m 0 = s at *;have aE : ((n.natAbs : Nat) : Int) ≤ 170141183460469231731687303715884105728 := by have := H1; unfold bx at this; omega
 have zq : 0 < ((m.natAbs : Nat) : Int) := by omega
 go_enter Tryz.func289, Tryz.ntmps289
 go_wp2_with fail
 refine (hs.out _).mono ?_;rintro e x4 ⟨rfl, mH⟩;have JI : ah x4 (w.heap.size) (.int .i64 h1) (.int .u64 l1) := (by (repeat first | focus ((with_reducible refine ah.new ?_); simp; done) | with_reducible refine ah.alloc ?_ _ | with_reducible refine ah.call ?_ mH)); obtain ⟨⟨UH, Vp⟩, Wq, WV⟩ := id JI; have JJ : ah x4 (w.heap.size + 1) (.int .i64 h2) (.int .u64 l2) := (by (repeat first | focus ((with_reducible refine ah.new ?_); simp; done) | with_reducible refine ah.alloc ?_ _ | with_reducible refine ah.call ?_ mH)); obtain ⟨⟨UI, Vq⟩, Wr, WW⟩ := id JJ; have JK : ah x4 (w.heap.size + 1 + 1) (.int .i64 0) (.int .u64 0) := (by (repeat first | focus ((with_reducible refine ah.new ?_); simp; done) | with_reducible refine ah.alloc ?_ _ | with_reducible refine ah.call ?_ mH)); obtain ⟨⟨UJ, Vr⟩, Ws, WX⟩ := id JK; have JL : ah x4 (w.heap.size + 1 + 1 + 1) (.int .i64 0) (.int .u64 0) := (by (repeat first | focus ((with_reducible refine ah.new ?_); simp; done) | with_reducible refine ah.call ?_ mH)); obtain ⟨⟨UK, Vs⟩, Wt, WY⟩ := id JL;have HX := Below.size mH;simp at HX;generalize kr : ((n.natAbs : Nat) : Int) = N at *;generalize jz : ((m.natAbs : Nat) : Int) = M at *;have nK := Lib.hid kr; have ou := Lib.hid jz;have Nw : Hid (∀ w, Calls aj 279 #[.agg #[.int .i64 h1, .int .u64 l1]] w (aX N w)) := fun w => by rw [← nK.out]; exact AV h1 l1 n w H1
 have uf : Hid (∀ w, Calls aj 279 #[.agg #[.int .i64 h2, .int .u64 l2]] w (aX M w)) := fun w => by rw [← ou.out]; exact AV h2 l2 m w cm
 clear kr jz
 go_upto_region 3 with fail
 go_cut [7, 8] (fun we Jj fH => Sh w (N / M) (N % M) (.int .i64 h1) (.int .u64 l1) (.int .i64 h2) (.int .u64 l2) we Jj fH)
 case first =>
  go_region_held3 (fun w' => (w'.cell? ⟨w.heap.size, 0, none⟩ = some (.int .i64 h1) ∧ w'.cell? ⟨w.heap.size, 1, none⟩ = some (.int .u64 l1)) ∧ (w'.cell? ⟨w.heap.size + 1, 0, none⟩ = some (.int .i64 h2) ∧ w'.cell? ⟨w.heap.size + 1, 1, none⟩ = some (.int .u64 l2)))
   ((refine aah ?_ ?_ <;> ((repeat first | with_reducible assumption | with_reducible refine ah.alloc ?_ _ | with_reducible refine ah.drew ?_ | focus ((with_reducible refine ah.set ?_ _ ?_); rotate_left; omega) | with_reducible refine ah.call ?_ c8 | with_reducible refine ah.call ?_ b4 | with_reducible refine ah.call ?_ bE); done)))
   (first
    | (go_at_call 279; ((with_reducible refine (Nw.out _).mono ?_); rintro e aP ⟨AU, afd, rfl, oR, bE⟩; have HV := Below.size bE; (try simp at HV)))
    | (go_at_call 279; ((with_reducible refine (uf.out _).mono ?_); rintro e w2 ⟨ER, afe, rfl, zC, b4⟩; have zM := Below.size b4; (try simp at zM)))
    | (go_at_call 298; ((with_reducible refine (VF _ _ _ _ _ _ _ oR zC aE zq).mono ?_); rintro e w3 ⟨Ay, Az, jH, jI, rfl, al, ap, c8⟩; have Zh := Below.size c8; (try simp at Zh); (try ((refine lC (p := ah w3 (x4.heap.size) (.int .u64 0) (.int .u64 0)) ?_ ?_); (repeat first | focus ((with_reducible refine ah.new ?_); simp; done) | with_reducible refine ah.alloc ?_ _ | with_reducible refine ah.drew ?_ | with_reducible refine ah.call ?_ c8 | with_reducible refine ah.call ?_ b4 | with_reducible refine ah.call ?_ bE | with_reducible refine ah.call ?_ mH); intro rO; obtain ⟨⟨UO, Vw⟩, Wx, W2⟩ := id rO; have aap := ah.lt rO; have abx := iP (ah.lt rO); have aa1 := iQ (ah.lt rO))); (try ((refine lC (p := ah w3 (x4.heap.size + 1) (.int .u64 0) (.int .u64 0)) ?_ ?_); (repeat first | focus ((with_reducible refine ah.new ?_); simp; done) | with_reducible refine ah.alloc ?_ _ | with_reducible refine ah.drew ?_ | with_reducible refine ah.call ?_ c8 | with_reducible refine ah.call ?_ b4 | with_reducible refine ah.call ?_ bE | with_reducible refine ah.call ?_ mH); intro rP; obtain ⟨⟨UP, Vx⟩, Wy, W3⟩ := id rP; have aaq := ah.lt rP; have aby := iP (ah.lt rP); have aa2 := iQ (ah.lt rP))); (try ((refine lC (p := ah w3 (aP.heap.size) (.int .u64 0) (.int .u64 0)) ?_ ?_); (repeat first | focus ((with_reducible refine ah.new ?_); simp; done) | with_reducible refine ah.alloc ?_ _ | with_reducible refine ah.drew ?_ | with_reducible refine ah.call ?_ c8 | with_reducible refine ah.call ?_ b4 | with_reducible refine ah.call ?_ bE | with_reducible refine ah.call ?_ mH); intro rQ; obtain ⟨⟨UQ, Vy⟩, Wz, W4⟩ := id rQ; have aar := ah.lt rQ; have abz := iP (ah.lt rQ); have aa3 := iQ (ah.lt rQ))); (try ((refine lC (p := ah w3 (aP.heap.size + 1) (.int .u64 0) (.int .u64 0)) ?_ ?_); (repeat first | focus ((with_reducible refine ah.new ?_); simp; done) | with_reducible refine ah.alloc ?_ _ | with_reducible refine ah.drew ?_ | with_reducible refine ah.call ?_ c8 | with_reducible refine ah.call ?_ b4 | with_reducible refine ah.call ?_ bE | with_reducible refine ah.call ?_ mH); intro Bi; obtain ⟨⟨agv, agO⟩, ahf, aht⟩ := id Bi; have aio := ah.lt Bi; have aiN := iP (ah.lt Bi); have aiE := iQ (ah.lt Bi))); (try ((refine lC (p := ah w3 (w2.heap.size) (.int .u64 0) (.int .u64 0)) ?_ ?_); (repeat first | focus ((with_reducible refine ah.new ?_); simp; done) | with_reducible refine ah.alloc ?_ _ | with_reducible refine ah.drew ?_ | with_reducible refine ah.call ?_ c8 | with_reducible refine ah.call ?_ b4 | with_reducible refine ah.call ?_ bE | with_reducible refine ah.call ?_ mH); intro Bj; obtain ⟨⟨agw, agP⟩, ahg, ahu⟩ := id Bj; have aip := ah.lt Bj; have aiO := iP (ah.lt Bj); have aiF := iQ (ah.lt Bj))); (try ((refine lC (p := ah w3 (w2.heap.size + 1) (.int .u64 0) (.int .u64 0)) ?_ ?_); (repeat first | focus ((with_reducible refine ah.new ?_); simp; done) | with_reducible refine ah.alloc ?_ _ | with_reducible refine ah.drew ?_ | with_reducible refine ah.call ?_ c8 | with_reducible refine ah.call ?_ b4 | with_reducible refine ah.call ?_ bE | with_reducible refine ah.call ?_ mH); intro Bk; obtain ⟨⟨agx, agQ⟩, ahh, ahv⟩ := id Bk; have aiq := ah.lt Bk; have aiP := iP (ah.lt Bk); have aiG := iQ (ah.lt Bk))))))
  all_goals
   go_wp2_with fail
   go_meet
   refine ⟨_, _, Ay, Az, jH, jI, rfl, rfl, by omega, by omega, al, ap, ?_, ?_, ?_, ?_, ?_, ?_, ?_⟩
   ·(repeat first | focus ((with_reducible refine ah.new ?_); simp; done) | with_reducible refine ah.alloc ?_ _ | with_reducible refine ah.put ?_ | focus ((with_reducible refine ah.set ?_ _ ?_); rotate_left; omega) | focus ((with_reducible apply fB.of); with_reducible assumption))
   ·(repeat first | focus ((with_reducible refine ah.new ?_); simp; done) | with_reducible refine ah.alloc ?_ _ | with_reducible refine ah.put ?_ | focus ((with_reducible apply fB.of); with_reducible assumption) | with_reducible refine fB.set ?_ _ _)
   ·(repeat first | with_reducible assumption | with_reducible refine ah.alloc ?_ _ | with_reducible refine ah.drew ?_ | focus ((with_reducible refine ah.set ?_ _ ?_); rotate_left; omega) | with_reducible refine ah.call ?_ c8 | with_reducible refine ah.call ?_ b4 | with_reducible refine ah.call ?_ bE)
   ·(repeat first | with_reducible assumption | with_reducible refine ah.alloc ?_ _ | with_reducible refine ah.drew ?_ | focus ((with_reducible refine ah.set ?_ _ ?_); rotate_left; omega) | with_reducible refine ah.call ?_ c8 | with_reducible refine ah.call ?_ b4 | with_reducible refine ah.call ?_ bE)
   ·(repeat first | with_reducible assumption | with_reducible refine ah.alloc ?_ _ | with_reducible refine ah.drew ?_ | focus ((with_reducible refine ah.set ?_ _ ?_); rotate_left; omega) | with_reducible refine ah.call ?_ c8 | with_reducible refine ah.call ?_ b4 | with_reducible refine ah.call ?_ bE)
   ·(repeat first | with_reducible assumption | with_reducible refine ah.alloc ?_ _ | with_reducible refine ah.drew ?_ | focus ((with_reducible refine ah.set ?_ _ ?_); rotate_left; omega) | with_reducible refine ah.call ?_ c8 | with_reducible refine ah.call ?_ b4 | with_reducible refine ah.call ?_ bE)
   ·(repeat first | with_reducible exact Below.refl _ _ | with_reducible refine c6 ?_ _ | focus ((with_reducible refine eW ?_ _ _ _ ?_); rotate_left; omega) | with_reducible refine Below.drew ?_ | with_reducible refine b6 ?_ c8 | with_reducible refine b6 ?_ b4 | with_reducible refine b6 ?_ bE | with_reducible refine b6 ?_ mH)
 case rest =>
  obtain ⟨g7, g8, Ay, Az, jH, jI, rfl, rfl, Yl, Ym, al, ap, Et, Eu, n9, oa, I7, I8, ab⟩ := hcut;have abI : ¬ g7 = w.heap.size := by omega
  have abJ : ¬ g7 = w.heap.size + 1 := by omega
  have abK : ¬ g7 = w.heap.size + 1 + 1 := by omega
  have abL : ¬ g7 = w.heap.size + 1 + 1 + 1 := by omega
  have abM : ¬ g8 = w.heap.size := by omega
  have abN : ¬ g8 = w.heap.size + 1 := by omega
  have abO : ¬ g8 = w.heap.size + 1 + 1 := by omega
  have abP : ¬ g8 = w.heap.size + 1 + 1 + 1 := by omega
  have c9 : 0 ≤ N / M := qj (by have := nK.out; omega) (by omega);have q1 : N / M ≤ N := Int.ediv_le_self _ (by have := nK.out; omega);have hU : 0 ≤ N % M := pj _ (by omega);have c3 : N % M < M := oe _ zq;have aa4 : M ≤ 170141183460469231731687303715884105727 := by have := cm; have := ou.out; unfold bx at *; omega
  have hy : 0 ≤ n → N ≤ 170141183460469231731687303715884105727 := by have := H1; have := nK.out; unfold bx at *; omega
  have j2 : N ≤ 170141183460469231731687303715884105728 := aE;have c1 := VL hm nK.out ou.out; have c2 := VJ hm nK.out ou.out; have k6 := VK hm nK.out ou.out;have aM := Lib.hid c1; have bI := Lib.hid c2; have et := Lib.hid k6;have zv := H1.neg;generalize N / M = Q at *;generalize N % M = R at *;clear c1 c2 k6 Nw uf hs ak mH HX nK ou;have Ew := n9.1; have I6 := oa.1; have adY := I7; have adZ := I8; have adS := Et.1; have adV := Eu.1;obtain ⟨⟨dh, dE⟩, kZ, nE⟩ := id I7;obtain ⟨⟨lW, rG⟩, agb, agc⟩ := id I8;obtain ⟨kf, z2⟩ := Ew;obtain ⟨z3, z4⟩ := I6;obtain ⟨z5, age⟩ := adS;obtain ⟨agf, agh⟩ := adV
  by_cases k : h1 < 0
  ·have k' : n < 0 := zv.1 k;have f1 : Hid (fits (-Q) = true) := by unfold Hid fits; rw [c0]; omega
   have f2 : Hid (fits (-R) = true) := by unfold Hid fits; rw [c0]; omega
   have N6 : decide (h1 < 0) = true := bg k;clear zv hy
   go_wp2_with fail
   refine (Jo _ _ _ _ al).mono ?_;rintro e aP ⟨a1, b1, rfl, mL, bE⟩;rw [if_pos f1.out] at mL;have gy : ah aP (w.heap.size) (.int .i64 h1) (.int .u64 l1) := (by (repeat first | with_reducible assumption | with_reducible refine ah.call ?_ bE)); obtain ⟨⟨l6, l7⟩, l9, ma⟩ := id gy; have jM : ah aP (w.heap.size + 1) (.int .i64 h2) (.int .u64 l2) := (by (repeat first | with_reducible assumption | with_reducible refine ah.call ?_ bE)); obtain ⟨⟨pD, pI⟩, pN, pP⟩ := id jM; have pr : ah aP (w.heap.size + 1 + 1) (.int .i64 0) (.int .u64 0) := (by (repeat first | with_reducible assumption | with_reducible refine ah.call ?_ bE)); obtain ⟨⟨wO, wT⟩, wZ, w6⟩ := id pr; have rJ : ah aP (w.heap.size + 1 + 1 + 1) (.int .i64 0) (.int .u64 0) := (by (repeat first | with_reducible assumption | with_reducible refine ah.call ?_ bE)); obtain ⟨⟨yF, yO⟩, yZ, y3⟩ := id rJ; have Bg : ah aP (g8) (.int .u64 jH) (.int .u64 jI) := (by (repeat first | with_reducible assumption | with_reducible refine ah.call ?_ bE)); obtain ⟨⟨K6, Lu⟩, L3, Mg⟩ := id Bg
   go_wp2_with fail
   refine (Jo _ _ _ _ ap).mono ?_;rintro e w2 ⟨a2, b2, rfl, jB, b4⟩;rw [if_pos f2.out] at jB;have ju : ah w2 (w.heap.size) (.int .i64 h1) (.int .u64 l1) := (by (repeat first | with_reducible assumption | focus ((with_reducible refine ah.set ?_ _ ?_); rotate_left; omega) | with_reducible refine ah.call ?_ b4)); obtain ⟨⟨pE, pJ⟩, pO, pQ⟩ := id ju; have lX : ah w2 (w.heap.size + 1) (.int .i64 h2) (.int .u64 l2) := (by (repeat first | with_reducible assumption | focus ((with_reducible refine ah.set ?_ _ ?_); rotate_left; omega) | with_reducible refine ah.call ?_ b4)); obtain ⟨⟨tr, tB⟩, tJ, tO⟩ := id lX; have lY : ah w2 (w.heap.size + 1 + 1) (.int .i64 a1) (.int .u64 b1) := (by (repeat first | with_reducible refine ah.put ?_ | focus ((with_reducible apply fB.of); with_reducible assumption) | with_reducible refine ah.call ?_ b4)); obtain ⟨⟨tu, tC⟩, tK, tP⟩ := id lY; have rK : ah w2 (w.heap.size + 1 + 1 + 1) (.int .i64 0) (.int .u64 0) := (by (repeat first | with_reducible assumption | focus ((with_reducible refine ah.set ?_ _ ?_); rotate_left; omega) | with_reducible refine ah.call ?_ b4)); obtain ⟨⟨yG, yP⟩, y0, y4⟩ := id rK
   by_cases EP : R = 0
   ·obtain ⟨aG, aO⟩ := bI.out k' EP;have jv := Lib.hid aG; have qy := Lib.hid aO;have FO : 0 ≤ a2 := by have := jB.neg; omega
    have YU : bx a2 b2 0 := jB.conv (by omega)
    clear aG aO EP
    go_wp2_with fail
    go_region
    all_goals
     go_wp2_with fail
     refine yC ?_; intro kJ iG; have rH : ah kJ (w.heap.size + 1 + 1) (.int .i64 a1) (.int .u64 b1) := (by rw [iG]; (repeat first | with_reducible refine ah.drew ?_ | with_reducible refine ah.put ?_ | focus ((with_reducible refine ah.set ?_ _ ?_); rotate_left; omega) | focus ((with_reducible apply fB.of); with_reducible assumption) | with_reducible refine fB.set ?_ _ _)); obtain ⟨⟨Cc, Cq⟩, CD, CO⟩ := id rH; have rI : ah kJ (w.heap.size + 1 + 1 + 1) (.int .i64 a2) (.int .u64 b2) := (by rw [iG]; (repeat first | with_reducible refine ah.drew ?_ | with_reducible refine ah.put ?_ | focus ((with_reducible apply fB.of); with_reducible assumption) | with_reducible refine fB.set ?_ _ _)); obtain ⟨⟨Cd, Cr⟩, CE, CP⟩ := id rI; have oK : Below w.heap.size w kJ := (by rw [iG]; (repeat first | with_reducible assumption | focus ((with_reducible refine eW ?_ _ _ _ ?_); rotate_left; omega) | with_reducible refine Below.drew ?_ | with_reducible refine b6 ?_ b4 | with_reducible refine b6 ?_ bE)); clear iG;exact bodyPost_ret (v := .tuple #[.agg #[.int .i64 a1, .int .u64 b1], .agg #[.int .i64 a2, .int .u64 b2], .bool true]) (by simp only [results, Tryz.results289]; go_simp) rfl ⟨_, _, _, _, rfl, mL.conv jv.out, YU.conv qy.out, oK⟩
   ·obtain ⟨aG, aO⟩ := et.out k' EP;have jv := Lib.hid aG; have qy := Lib.hid aO;have FO : a2 < 0 := by have := jB.neg; omega
    have kj : Hid (fits (-Q - 1) = true) := by
     have au := H1.fits;unfold Hid fits at *;rw [c0] at *;have := Int.le_ediv_of_mul_le hm (show -170141183460469231731687303715884105728 * m ≤ n from aaC hm au.1);omega
    have nI : Hid (fits (-R + m) = true) := by
     have au := cm.fits;unfold Hid fits at *;rw [c0] at *;omega
    clear aG aO EP;have YE : Hid (∀ w, Calls aj 224 #[.int .i64 1] w (px 1 w)) := fun w => rT 1 w (by omega) (by omega)
    have tY : Hid (∀ o1 o2 w, bx o1 o2 1 → Calls aj 245 #[.agg #[.int .i64 a1, .int .u64 b1], .agg #[.int .i64 o1, .int .u64 o2]] w (px (-Q - 1) w)) := fun o1 o2 w az => by
     have := Ag a1 b1 o1 o2 _ _ w mL az;rw [JF kj.out] at this;exact this
    have oQ : Hid (∀ w, Calls aj 299 #[.agg #[.int .i64 a2, .int .u64 b2], .agg #[.int .i64 h2, .int .u64 l2]] w (px (-R + m) w)) := fun w => by
     have := P3 a2 b2 h2 l2 _ _ w jB cm;rw [JF nI.out] at this;exact this
    go_upto_region 7 with fail
    go_cut [] (fun fH => Sg w (-Q - 1) (-R + m) fH)
    case first =>
     refine af7 ?_;intro W fg;have MH : Below w.heap.size w W := by rw [fg]; (repeat first | with_reducible assumption | focus ((with_reducible refine eW ?_ _ _ _ ?_); rotate_left; omega) | with_reducible refine b6 ?_ b4 | with_reducible refine b6 ?_ bE)
     have FN : ah W (w.heap.size + 1 + 1) (.int .i64 a1) (.int .u64 b1) := by rw [fg]; (repeat first | with_reducible assumption | focus ((with_reducible refine ah.set ?_ _ ?_); rotate_left; omega))
     have h0 : ah W (w.heap.size + 1 + 1 + 1) (.int .i64 a2) (.int .u64 b2) := by rw [fg]; (repeat first | with_reducible refine ah.put ?_ | focus ((with_reducible apply fB.of); with_reducible assumption))
     have BS : ah W (w.heap.size + 1) (.int .i64 h2) (.int .u64 l2) := by rw [fg]; (repeat first | with_reducible assumption | focus ((with_reducible refine ah.set ?_ _ ?_); rotate_left; omega))
     clear JI UH Vp Wq WV JJ UI Vq Wr WW JK UJ Vr Ws WX JL UK Vs Wt WY gy l6 l7 l9 ma jM pD pI pN pP pr wO wT wZ w6 rJ yF yO yZ y3 Bg K6 Lu L3 Mg ju pE pJ pO pQ lX tr tB tJ tO lY tu tC tK tP rK yG yP y0 y4;clear fg dh dE kZ nE lW rG agb agc kf z2 z3 z4 z5 age agf agh abI abJ abK abL abM abN abO abP b4 bE Et Eu n9 oa I7 I8 adY adZ c9 q1 hU c3 aa4 j2 Yl Ym al ap f1 f2 N6 k k' FO ab aE zq hm aM bI et jv qy kj nI;obtain ⟨⟨UC, Vm⟩, Wl, WS⟩ := id FN;obtain ⟨⟨UD, Vn⟩, Wm, WT⟩ := id h0;obtain ⟨⟨UE, Vo⟩, Wn, WU⟩ := id BS;have mC := ah.drew FN; have Kj := ah.drew h0; have Kk := ah.drew BS;have MG := Below.drew MH;clear Wl WS Wm WT Wn WU UC Vm UD Vn UE Vo FN h0 BS MH;refine af8 (S := fun w' => (w'.cell? ⟨w.heap.size + 1 + 1, 0, none⟩ = some (.int .i64 a1) ∧ w'.cell? ⟨w.heap.size + 1 + 1, 1, none⟩ = some (.int .u64 b1)) ∧ (w'.cell? ⟨w.heap.size + 1 + 1 + 1, 0, none⟩ = some (.int .i64 a2) ∧ w'.cell? ⟨w.heap.size + 1 + 1 + 1, 1, none⟩ = some (.int .u64 b2)) ∧ (w'.cell? ⟨w.heap.size + 1, 0, none⟩ = some (.int .i64 h2) ∧ w'.cell? ⟨w.heap.size + 1, 1, none⟩ = some (.int .u64 l2))) (T := fun j => j == 6 || j == 7) (by kernel_rfl) ?_;generalize W.drew = V at *;have G3 := DF mC Kj Kk;refine JE 2 (i := 0) (v := .agg #[.int .i64 a1, .int .u64 b1]) rfl (by kernel_rfl) (by kernel_rfl) (by kernel_rfl) (fun _ _ _ h => h) (Or.inl ⟨by rfl, ?_⟩) G3 ?_
     ·intro w zb;obtain ⟨⟨p1, p2⟩, ⟨p3, p4⟩, ri, PE⟩ := id zb
      go_simp
     simp only [Act.put, List.setIfInBounds_toArray];refine JE 5 (i := 3) (v := .agg #[.int .i64 a2, .int .u64 b2]) rfl (by kernel_rfl) (by kernel_rfl) (by kernel_rfl) (fun _ _ _ h => h) (Or.inl ⟨by rfl, ?_⟩) G3 ?_
     ·intro w zb;obtain ⟨⟨p1, p2⟩, ⟨p3, p4⟩, ri, PE⟩ := id zb
      go_simp
     simp only [Act.put];refine JE 5 (i := 4) (v := .agg #[.int .i64 h2, .int .u64 l2]) rfl (by kernel_rfl) (by kernel_rfl) (by kernel_rfl) (fun _ _ _ h => h) (Or.inl ⟨by rfl, ?_⟩) G3 ?_
     ·intro w zb;obtain ⟨⟨p1, p2⟩, ⟨p3, p4⟩, ri, PE⟩ := id zb
      go_simp
     simp only [Act.put];refine Ba (i := 1) (by kernel_rfl) rfl (fun K ef => ?_)
     go_simp
     refine (YE.out _).mono ?_;rintro e w3 ⟨o1, o2, rfl, az, c8⟩;have Kl := ah.call mC c8; have Km := ah.call Kj c8; have Kn := ah.call Kk c8; have XO := b6 MG c8;obtain ⟨⟨s1, s2⟩, ⟨bY, b3⟩, wb, qo⟩ := DF Kl Km Kn
     go_wp2_with fail
     refine ef.out _ _ (.inr ⟨⟨s1, s2⟩, ⟨bY, b3⟩, wb, qo⟩) ?_;clear ef K s1 s2 bY b3 wb qo;refine Ba (i := 2) (by kernel_rfl) rfl (fun K ef => ?_)
     go_simp
     refine (tY.out _ _ _ az).mono ?_;rintro e fA ⟨c1, c2, rfl, ak, fh⟩;have Ko := ah.call Kl fh; have Kp := ah.call Km fh; have Kq := ah.call Kn fh; have MI := b6 XO fh;obtain ⟨⟨s1, s2⟩, ⟨bY, b3⟩, wb, qo⟩ := DF Ko Kp Kq
     go_wp2_with fail
     refine ef.out _ _ (.inr ⟨⟨s1, s2⟩, ⟨bY, b3⟩, wb, qo⟩) ?_;clear ef K s1 s2 bY b3 wb qo;refine Ba (i := 5) (by kernel_rfl) rfl (fun K ef => ?_)
     go_simp
     refine (oQ.out _).mono ?_;rintro e iW ⟨aG, aO, rfl, he, hM⟩;have fo := ah.call Ko hM; have rY := ah.call Kp hM; have u4 := ah.call Kq hM; have XP := b6 MI hM;obtain ⟨⟨s1, s2⟩, ⟨bY, b3⟩, wb, qo⟩ := DF fo rY u4;have f0 := fo.2; have f1 := rY.2;obtain ⟨aha, ahb⟩ := f0; obtain ⟨ahc, ahd⟩ := f1
     go_wp2_with fail
     refine ef.out _ _ (.inr ⟨⟨s1, s2⟩, ⟨bY, b3⟩, wb, qo⟩) ?_;clear ef K;refine Ba (i := 6) (by kernel_rfl) rfl (fun K ef => ?_)
     go_simp
     refine ef.out _ _ (.inl rfl) ?_;clear ef K;refine Ba (i := 7) (by kernel_rfl) rfl (fun K ef => ?_)
     go_simp
     refine ef.out _ _ (.inl rfl) ?_;clear ef K;refine af6 (by kernel_rfl) ?_ _
     go_wp2_with fail
     go_meet
     exact ⟨c1, c2, aG, aO, ak, he, ah.set (ah.set (ah.put (.of fo)) _ (by omega)) _ (by omega), ah.put (fB.set (fB.set (.of rY) _ _) _ _), eW (eW (eW (eW XP _ _ _ (by omega)) _ _ _ (by omega)) _ _ _ (by omega)) _ _ _ (by omega)⟩
    case rest =>
     obtain ⟨c1, c2, aG, aO, ak, he, F5, be, c8⟩ := hcut;obtain ⟨⟨v1, v2⟩, v3, v4⟩ := id F5;obtain ⟨⟨v5, v6⟩, ajn, ajo⟩ := id be
     go_wp2_with fail
     go_region
     all_goals
      go_wp2_with fail
      refine yC ?_; intro kJ iG; have rH : ah kJ (w.heap.size + 1 + 1) (.int .i64 c1) (.int .u64 c2) := (by rw [iG]; (repeat first | with_reducible refine ah.drew ?_ | with_reducible refine ah.put ?_ | focus ((with_reducible refine ah.set ?_ _ ?_); rotate_left; omega) | focus ((with_reducible apply fB.of); with_reducible assumption))); obtain ⟨⟨Cc, Cq⟩, CD, CO⟩ := id rH; have rI : ah kJ (w.heap.size + 1 + 1 + 1) (.int .i64 aG) (.int .u64 aO) := (by rw [iG]; (repeat first | with_reducible refine ah.drew ?_ | with_reducible refine ah.put ?_ | focus ((with_reducible apply fB.of); with_reducible assumption) | with_reducible refine fB.set ?_ _ _)); obtain ⟨⟨Cd, Cr⟩, CE, CP⟩ := id rI; have oK : Below w.heap.size w kJ := (by rw [iG]; (repeat first | with_reducible assumption | focus ((with_reducible refine eW ?_ _ _ _ ?_); rotate_left; omega) | with_reducible refine Below.drew ?_)); clear iG;exact bodyPost_ret (v := .tuple #[.agg #[.int .i64 c1, .int .u64 c2], .agg #[.int .i64 aG, .int .u64 aO], .bool true]) (by simp only [results, Tryz.results289]; go_simp) rfl ⟨_, _, _, _, rfl, ak.conv jv.out, he.conv qy.out, oK⟩
  ·have k' : 0 ≤ h1 := by omega
   obtain ⟨aG, aO⟩ := aM.out (by have := zv.1; omega);have jv := Lib.hid aG; have qy := Lib.hid aO;have aiK := hy (by have := zv.1; omega);have f1 : Hid (fits Q = true) := by unfold Hid fits; rw [c0]; omega
   have f2 : Hid (fits R = true) := by unfold Hid fits; rw [c0]; omega
   have N6 : decide (h1 < 0) = false := bl k;clear zv k aG aO
   go_wp2_with fail
   refine (Jp _ _ _ _ al).mono ?_;rintro e aP ⟨a1, b1, rfl, mL, bE⟩;rw [if_pos f1.out] at mL;have gy : ah aP (w.heap.size) (.int .i64 h1) (.int .u64 l1) := (by (repeat first | with_reducible assumption | with_reducible refine ah.call ?_ bE)); obtain ⟨⟨l6, l7⟩, l9, ma⟩ := id gy; have jM : ah aP (w.heap.size + 1) (.int .i64 h2) (.int .u64 l2) := (by (repeat first | with_reducible assumption | with_reducible refine ah.call ?_ bE)); obtain ⟨⟨pD, pI⟩, pN, pP⟩ := id jM; have pr : ah aP (w.heap.size + 1 + 1) (.int .i64 0) (.int .u64 0) := (by (repeat first | with_reducible assumption | with_reducible refine ah.call ?_ bE)); obtain ⟨⟨wO, wT⟩, wZ, w6⟩ := id pr; have rJ : ah aP (w.heap.size + 1 + 1 + 1) (.int .i64 0) (.int .u64 0) := (by (repeat first | with_reducible assumption | with_reducible refine ah.call ?_ bE)); obtain ⟨⟨yF, yO⟩, yZ, y3⟩ := id rJ; have Bg : ah aP (g8) (.int .u64 jH) (.int .u64 jI) := (by (repeat first | with_reducible assumption | with_reducible refine ah.call ?_ bE)); obtain ⟨⟨K6, Lu⟩, L3, Mg⟩ := id Bg
   go_wp2_with fail
   refine (Jp _ _ _ _ ap).mono ?_;rintro e w2 ⟨a2, b2, rfl, jB, b4⟩;rw [if_pos f2.out] at jB;have ju : ah w2 (w.heap.size) (.int .i64 h1) (.int .u64 l1) := (by (repeat first | with_reducible assumption | focus ((with_reducible refine ah.set ?_ _ ?_); rotate_left; omega) | with_reducible refine ah.call ?_ b4)); obtain ⟨⟨pE, pJ⟩, pO, pQ⟩ := id ju; have lX : ah w2 (w.heap.size + 1) (.int .i64 h2) (.int .u64 l2) := (by (repeat first | with_reducible assumption | focus ((with_reducible refine ah.set ?_ _ ?_); rotate_left; omega) | with_reducible refine ah.call ?_ b4)); obtain ⟨⟨tr, tB⟩, tJ, tO⟩ := id lX; have lY : ah w2 (w.heap.size + 1 + 1) (.int .i64 a1) (.int .u64 b1) := (by (repeat first | with_reducible refine ah.put ?_ | focus ((with_reducible apply fB.of); with_reducible assumption) | with_reducible refine ah.call ?_ b4)); obtain ⟨⟨tu, tC⟩, tK, tP⟩ := id lY; have rK : ah w2 (w.heap.size + 1 + 1 + 1) (.int .i64 0) (.int .u64 0) := (by (repeat first | with_reducible assumption | focus ((with_reducible refine ah.set ?_ _ ?_); rotate_left; omega) | with_reducible refine ah.call ?_ b4)); obtain ⟨⟨yG, yP⟩, y0, y4⟩ := id rK;have FO : 0 ≤ a2 := by have := jB.neg; omega
   go_wp2_with fail
   go_region
   all_goals
    go_wp2_with fail
    refine yC ?_; intro kJ iG; have rH : ah kJ (w.heap.size + 1 + 1) (.int .i64 a1) (.int .u64 b1) := (by rw [iG]; (repeat first | with_reducible refine ah.drew ?_ | with_reducible refine ah.put ?_ | focus ((with_reducible refine ah.set ?_ _ ?_); rotate_left; omega) | focus ((with_reducible apply fB.of); with_reducible assumption) | with_reducible refine fB.set ?_ _ _)); obtain ⟨⟨Cc, Cq⟩, CD, CO⟩ := id rH; have rI : ah kJ (w.heap.size + 1 + 1 + 1) (.int .i64 a2) (.int .u64 b2) := (by rw [iG]; (repeat first | with_reducible refine ah.drew ?_ | with_reducible refine ah.put ?_ | focus ((with_reducible apply fB.of); with_reducible assumption) | with_reducible refine fB.set ?_ _ _)); obtain ⟨⟨Cd, Cr⟩, CE, CP⟩ := id rI; have oK : Below w.heap.size w kJ := (by rw [iG]; (repeat first | with_reducible assumption | focus ((with_reducible refine eW ?_ _ _ _ ?_); rotate_left; omega) | with_reducible refine Below.drew ?_ | with_reducible refine b6 ?_ b4 | with_reducible refine b6 ?_ bE)); clear iG;exact bodyPost_ret (v := .tuple #[.agg #[.int .i64 a1, .int .u64 b1], .agg #[.int .i64 a2, .int .u64 b2], .bool true]) (by simp only [results, Tryz.results289]; go_simp) rfl ⟨_, _, _, _, rfl, mL.conv jv.out, jB.conv qy.out, oK⟩
def dA (w : World) (b : Nat) (u v x y : Value) : Prop := (w.cell? ⟨b, 0, none⟩ = some u ∧ w.cell? ⟨b, 1, none⟩ = some v ∧ w.cell? ⟨b, 2, none⟩ = some x ∧ w.cell? ⟨b, 3, none⟩ = some y) ∧ (w.frozen? ⟨b, 0, none⟩ = false ∧ w.frozen? ⟨b, 1, none⟩ = false ∧ w.frozen? ⟨b, 2, none⟩ = false ∧ w.frozen? ⟨b, 3, none⟩ = false)
section
variable {w W aP : World} {b g : Nat} {u v x y q : Value}
theorem dA.lt (h : dA w b u v x y) : b < w.heap.size := World.block_lt_of_cell? w _ h.1.1
theorem dA.call (h : dA W b u v x y) (ab : Below W.heap.size W aP) : dA aP b u v x y := by
 have ao := h.lt;obtain ⟨⟨h1, h2, aq, aK⟩, bC, cf, h5, jD⟩ := h;exact ⟨⟨(ab.cell (p := ⟨b, 0, none⟩) ao).trans h1, (ab.cell (p := ⟨b, 1, none⟩) ao).trans h2, (ab.cell (p := ⟨b, 2, none⟩) ao).trans aq, (ab.cell (p := ⟨b, 3, none⟩) ao).trans aK⟩, (ab.frozen (p := ⟨b, 0, none⟩) ao).trans bC, (ab.frozen (p := ⟨b, 1, none⟩) ao).trans cf, (ab.frozen (p := ⟨b, 2, none⟩) ao).trans h5, (ab.frozen (p := ⟨b, 3, none⟩) ao).trans jD⟩
theorem dA.alloc (h : dA W b u v x y) (o : Obj) : dA (W.alloc o) b u v x y := h.call ((Below.refl _ _).alloc (dU _) o)
theorem dA.drew (h : dA W b u v x y) : dA W.drew b u v x y := h.call ((Below.refl _ _).drew)
theorem dA.new {t : TypeId} (e : b = W.heap.size) : dA (W.alloc (.cells #[u, v, x, y] t)) b u v x y := by
 subst e;unfold dA
 go_simp
theorem dA.set (h : dA W b u v x y) (o : Nat) (ne : g ≠ b) : dA (W.setCell ⟨g, o, none⟩ q) b u v x y := by
 obtain ⟨⟨h1, h2, aq, aK⟩, bC, cf, h5, jD⟩ := h;have mU : ∀ i, (⟨g, o, none⟩ : Addr) ≠ ⟨b, i, none⟩ := fun i e => ne (congrArg Addr.block e);refine ⟨⟨?_, ?_, ?_, ?_⟩, ?_, ?_, ?_, ?_⟩
 ·rw [World.cell?_setCell_other _ _ _ _ (mU 0)]; exact h1
 ·rw [World.cell?_setCell_other _ _ _ _ (mU 1)]; exact h2
 ·rw [World.cell?_setCell_other _ _ _ _ (mU 2)]; exact aq
 ·rw [World.cell?_setCell_other _ _ _ _ (mU 3)]; exact aK
 ·go_simp
 ·go_simp
 ·go_simp
 ·go_simp
end
section
variable {W : World} {b : Nat} {u v x y kF aW : Value}
theorem dA.ai8 (h : dA W b u v x y) : dA ((W.setCell ⟨b, 0, none⟩ kF).setCell ⟨b, 1, none⟩ aW) b kF aW x y := by
 obtain ⟨⟨h1, h2, aq, aK⟩, bC, cf, h5, jD⟩ := h;unfold dA
 go_simp
theorem dA.ai9 (h : dA W b u v x y) : dA ((W.setCell ⟨b, 2, none⟩ kF).setCell ⟨b, 3, none⟩ aW) b u v kF aW := by
 obtain ⟨⟨h1, h2, aq, aK⟩, bC, cf, h5, jD⟩ := h;unfold dA
 go_simp
end
theorem Zt (d : Int) : decide (0 < gb d 0) = decide (0 < d) := by unfold gb; grind
theorem FK (h l aF cG d : Int) (w : World) (H : bx aF cG d) : Calls aj 269 #[.agg #[.int .i64 h, .int .u64 l, .int .i64 aF, .int .u64 cG]] w (hj (.bool (decide (0 < d))) w) := by
 have nJ := Lib.hid (Zt d)
 go_enter Tryz.func269, Tryz.ntmps269
 go_wp2_with (go_at_call 247; ((with_reducible refine (BQ _ _ _ _ H).mono ?_); rintro e aP ⟨rfl, ab⟩))
 go_ret
 exact ⟨Qy nJ.out, by (repeat first | with_reducible exact Below.refl _ _ | with_reducible refine c6 ?_ _ | with_reducible refine b6 ?_ ab)⟩
end Go.Proofs.YtpochbhajmbfdaaGreat
namespace Go.Proofs.YtpochbhajmbfdaaGreat
open Go.RowKit
attribute [local go_sem ↓] Go.wp_at_zero Go.wp_at_succ
theorem Sp (h l n aF cG d : Int) (w : World) (H : bx h l n) (ft : bx aF cG d) (hd : 0 < d) : Calls aj 272 #[.agg #[.int .i64 h, .int .u64 l, .int .i64 aF, .int .u64 cG]] w (px (n / d) w) := by
 go_enter Tryz.func272, Tryz.ntmps272
 go_wp2_with (go_at_call 289; ((with_reducible refine (JQ _ _ _ _ _ _ _ H ft hd).mono ?_); rintro e aP ⟨n9, oa, sY, sZ, rfl, al, ap, ab⟩; have gy : ah aP (w.heap.size + 1) (.int .i64 0) (.int .u64 0) := (by (repeat first | focus ((with_reducible refine ah.new ?_); simp; done) | with_reducible refine ah.call ?_ ab)); obtain ⟨⟨l6, l7⟩, l9, ma⟩ := id gy; have n4 := Below.size ab; (try simp at n4); have xH : ¬ aP.heap.size = w.heap.size := (by omega); have Al : ¬ aP.heap.size = w.heap.size + 1 := (by omega); have ag7 : ¬ w.heap.size = aP.heap.size := (by omega); have ag8 : ¬ w.heap.size + 1 = aP.heap.size := (by omega); have aiA : w.heap.size < aP.heap.size := (by omega); have aiB : w.heap.size + 1 < aP.heap.size := (by omega)))
 refine bodyPost_ret (v := .agg #[.int .i64 n9, .int .u64 oa]) (by simp only [results, Tryz.results272]; go_simp) rfl ⟨_, _, rfl, al, ?_⟩;(repeat first | with_reducible exact Below.refl _ _ | with_reducible refine c6 ?_ _ | focus ((with_reducible refine eW ?_ _ _ _ ?_); rotate_left; omega) | with_reducible refine b6 ?_ ab)
theorem ah.both {w : World} {b : Nat} {u v : Value} (h : ah w b u v) : w.cell? ⟨b, 0, none⟩ = some u ∧ w.cell? ⟨b, 1, none⟩ = some v := h.1
def n7 (n d : Int) : Int := if n % d < d - n % d then n / d else n / d + 1
theorem abE {n d : Int} (aE : fits n = true) (hd : 0 < d) (X3 : fits d = true) : fits (d - n % d) = true ∧ (d - n % d ≤ n % d → fits (n / d + 1) = true) := by
 unfold fits at *;rw [c0] at aE X3;have aI := pj n (show d ≠ 0 by omega);have h1 := oe n hd;have h2 := sU n d;rw [c0, c0];refine ⟨by omega, fun hle => ?_⟩;have xe : 2 ≤ d := by omega
 have q1 : n / d * 2 ≤ 170141183460469231731687303715884105727 ∧ -170141183460469231731687303715884105728 ≤ n / d := by
  refine ⟨?_, ?_⟩
  ·rcases qi (n / d) 0 with q | q
   ·omega
   ·have : n / d * 2 ≤ n / d * d := rp xe q;rw [ka (n / d) d] at this;omega
  ·rcases qi (n / d) 0 with q | q
   ·have : d * (n / d + 1) ≤ 1 * (n / d + 1) := Int.mul_le_mul_of_nonpos_right (by omega) (by omega);rw [Int.mul_add] at this;omega
   ·omega
 omega
theorem O1 (h l n aF cG d : Int) (w : World) (H : bx h l n) (ft : bx aF cG d) (hd : 0 < d) : Calls aj 270 #[.agg #[.int .i64 h, .int .u64 l], .agg #[.int .i64 aF, .int .u64 cG]] w (px (n7 n d) w) := by
 have au := abE H.fits hd ft.fits;have kj := Lib.hid au.1;have nI := Lib.hid au.2;clear au
 go_enter Tryz.func270, Tryz.ntmps270
 go_wp2_with fail
 refine (JQ _ _ _ _ _ _ _ H ft hd).mono ?_;rintro e aP ⟨n9, oa, sY, sZ, rfl, al, ap, bE⟩;have gy : ah aP (w.heap.size + 1) (.int .i64 aF) (.int .u64 cG) := (by (repeat first | focus ((with_reducible refine ah.new ?_); simp; done) | with_reducible refine ah.alloc ?_ _ | with_reducible refine ah.call ?_ bE)); obtain ⟨⟨l6, l7⟩, l9, ma⟩ := id gy; have jM : ah aP (w.heap.size + 1 + 1) (.int .i64 0) (.int .u64 0) := (by (repeat first | focus ((with_reducible refine ah.new ?_); simp; done) | with_reducible refine ah.call ?_ bE)); obtain ⟨⟨pD, pI⟩, pN, pP⟩ := id jM;have mP := Below.size bE; (try simp at mP); have um : ¬ aP.heap.size = w.heap.size := (by omega); have vP : ¬ aP.heap.size = w.heap.size + 1 := (by omega); have Ai : ¬ aP.heap.size = w.heap.size + 1 + 1 := (by omega); have tF : ¬ w.heap.size = aP.heap.size := (by omega); have vf : ¬ w.heap.size + 1 = aP.heap.size := (by omega); have yT : ¬ w.heap.size + 1 + 1 = aP.heap.size := (by omega); have uj : w.heap.size < aP.heap.size := (by omega); have vM : w.heap.size + 1 < aP.heap.size := (by omega); have Ac : w.heap.size + 1 + 1 < aP.heap.size := (by omega)
 go_wp2_with fail
 refine (Ke _ _ _ _ _ _ _ ft ap).mono ?_;rintro e w2 ⟨aji, ajj, rfl, hs, b4⟩;rw [if_pos kj.out] at hs;have ju : ah w2 (w.heap.size + 1 + 1) (.int .i64 0) (.int .u64 0) := (by (repeat first | with_reducible assumption | with_reducible refine ah.alloc ?_ _ | with_reducible refine ah.call ?_ b4)); obtain ⟨⟨pE, pJ⟩, pO, pQ⟩ := id ju; have lX : ah w2 (aP.heap.size) (.int .i64 n9) (.int .u64 oa) := (by (repeat first | focus ((with_reducible refine ah.new ?_); simp; done) | with_reducible refine ah.alloc ?_ _ | with_reducible refine ah.call ?_ b4)); obtain ⟨⟨tr, tB⟩, tJ, tO⟩ := id lX; have lY : ah w2 (aP.heap.size + 1) (.int .i64 sY) (.int .u64 sZ) := (by (repeat first | focus ((with_reducible refine ah.new ?_); simp; done) | with_reducible refine ah.call ?_ b4)); obtain ⟨⟨tu, tC⟩, tK, tP⟩ := id lY;have n5 := Below.size b4; (try simp at n5);have zZ := ah.lt ju; have z1 := ah.lt lX; have Ic := ah.lt lY;have m3 := iQ zZ; have m4 := iQ z1; have m5 := iQ Ic; have sI := iP zZ; have sJ := iP z1; have ID := iP Ic
 go_wp2_with fail
 refine (JO _ _ _ _ _ _ _ ap hs).mono ?_;rintro e w3 ⟨rfl, c8⟩;have lZ : ah w3 (w.heap.size + 1 + 1) (.int .i64 0) (.int .u64 0) := (by (repeat first | with_reducible assumption | with_reducible refine ah.alloc ?_ _ | with_reducible refine ah.call ?_ c8)); obtain ⟨⟨wP, wU⟩, w0, w7⟩ := id lZ; have rN : ah w3 (aP.heap.size) (.int .i64 n9) (.int .u64 oa) := (by (repeat first | with_reducible assumption | with_reducible refine ah.alloc ?_ _ | with_reducible refine ah.call ?_ c8)); obtain ⟨⟨Cg, Cs⟩, CH, CQ⟩ := id rN;have Ie := ah.lt lZ; have Ig := ah.lt rN;have m6 := iQ Ie; have m7 := iQ Ig; have IE := iP Ie; have aiL := iP Ig;have aiT : ¬ (aP.heap.size = w.heap.size + 1 + 1) := by omega
 have aiU : ¬ (w.heap.size + 1 + 1 = aP.heap.size) := by omega
 by_cases bj : n % d < d - n % d
 ·have HZ := Ny bj;rw [HZ];have hv : Hid (n7 n d = n / d) := by unfold Hid n7; rw [if_pos bj]
  clear HZ bj
  go_wp2_with fail
  rw [hv.out];refine bodyPost_ret (v := .agg #[.int .i64 n9, .int .u64 oa]) (by simp only [results, Tryz.results270]; go_simp) rfl ⟨_, _, rfl, al, ?_⟩;(repeat first | with_reducible exact Below.refl _ _ | with_reducible refine c6 ?_ _ | focus ((with_reducible refine eW ?_ _ _ _ ?_); rotate_left; omega) | with_reducible refine b6 ?_ c8 | with_reducible refine b6 ?_ b4 | with_reducible refine b6 ?_ bE)
 ·have HZ : 0 ≤ gb (n % d) (d - n % d) := Zr.2 (by omega);have hv : Hid (n7 n d = n / d + 1) := by unfold Hid n7; rw [if_neg bj]
  have Fq := Lib.hid (nI.out (by omega));clear bj;generalize gb (n % d) (d - n % d) = c at *
  go_wp2_with fail
  go_region_held3 (fun w' => w'.cell? ⟨aP.heap.size, 0, none⟩ = some (.int .i64 n9) ∧ w'.cell? ⟨aP.heap.size, 1, none⟩ = some (.int .u64 oa)) (((refine ah.both ?_); ((repeat first | with_reducible assumption | with_reducible refine ah.alloc ?_ _ | with_reducible refine ah.drew ?_ | focus ((with_reducible refine ah.set ?_ _ ?_); rotate_left; omega) | with_reducible refine ah.call ?_ hM | with_reducible refine ah.call ?_ fh); done)))
   (first
    | (go_at_call 224; ((with_reducible refine (rT 1 _ (by omega) (by omega)).mono ?_); rintro e fA ⟨ab5, iw, rfl, az, fh⟩; have Zi := Below.size fh; (try simp at Zi)))
    | (go_at_call 290; ((with_reducible refine (RT _ _ _ _ _ _ _ al az).mono ?_); rintro e iW ⟨s9, ta, rfl, hu, hM⟩; rw [if_pos Fq.out] at hu; rw [Fq.out]; have Zj := Below.size hM; (try simp at Zj); (try ((refine lC (p := ah iW (w3.heap.size) (.int .i64 0) (.int .u64 0)) ?_ ?_); (repeat first | focus ((with_reducible refine ah.new ?_); simp; done) | with_reducible refine ah.alloc ?_ _ | with_reducible refine ah.drew ?_ | with_reducible refine ah.call ?_ hM | with_reducible refine ah.call ?_ fh | with_reducible refine ah.call ?_ c8 | with_reducible refine ah.call ?_ b4 | with_reducible refine ah.call ?_ bE); intro Bo; obtain ⟨⟨agC, agV⟩, ahm, ahA⟩ := id Bo; have air := ah.lt Bo; have aiQ := iP (ah.lt Bo); have aiH := iQ (ah.lt Bo))); (try ((refine lC (p := ah iW (fA.heap.size) (.int .i64 0) (.int .u64 0)) ?_ ?_); (repeat first | focus ((with_reducible refine ah.new ?_); simp; done) | with_reducible refine ah.alloc ?_ _ | with_reducible refine ah.drew ?_ | with_reducible refine ah.call ?_ hM | with_reducible refine ah.call ?_ fh | with_reducible refine ah.call ?_ c8 | with_reducible refine ah.call ?_ b4 | with_reducible refine ah.call ?_ bE); intro Bp; obtain ⟨⟨agD, agW⟩, ahn, ahB⟩ := id Bp; have ais := ah.lt Bp; have aiR := iP (ah.lt Bp); have aiI := iQ (ah.lt Bp))); (try ((refine lC (p := ah iW (w.heap.size + 1 + 1) (.int .i64 0) (.int .u64 0)) ?_ ?_); (repeat first | with_reducible assumption | with_reducible refine ah.alloc ?_ _ | with_reducible refine ah.drew ?_ | with_reducible refine ah.call ?_ hM | with_reducible refine ah.call ?_ fh); intro Bq; obtain ⟨⟨agE, agX⟩, aho, ahC⟩ := id Bq; have ait := ah.lt Bq; have aiS := iP (ah.lt Bq); have aiJ := iQ (ah.lt Bq))))))
  all_goals
   go_wp2_with fail
   rw [hv.out];refine bodyPost_ret (v := .agg #[.int .i64 s9, .int .u64 ta]) (by simp only [results, Tryz.results270]; go_simp) rfl ⟨_, _, rfl, hu, ?_⟩;(repeat first | with_reducible exact Below.refl _ _ | with_reducible refine c6 ?_ _ | focus ((with_reducible refine eW ?_ _ _ _ ?_); rotate_left; omega) | with_reducible refine Below.drew ?_ | with_reducible refine b6 ?_ hM | with_reducible refine b6 ?_ fh | with_reducible refine b6 ?_ c8 | with_reducible refine b6 ?_ b4 | with_reducible refine b6 ?_ bE)
end Go.Proofs.YtpochbhajmbfdaaGreat
namespace Go.Proofs.YtpochbhajmbfdaaGreat
open Go.RowKit
attribute [local go_sem ↓] Go.wp_at_zero Go.wp_at_succ
def SV (n d : Int) (w : World) (e : Ending) (w' : World) : Prop := ∃ a b c f, e = .returned (.agg #[.int .i64 a, .int .u64 b, .int .i64 c, .int .u64 f]) ∧ bx a b n ∧ bx c f d ∧ Below w.heap.size w w'
def FI (is : Bool) (n d : Int) (w : World) (e : Ending) (w' : World) : Prop := ∃ a b c f, e = .returned (.tuple #[.agg #[.int .i64 a, .int .u64 b, .int .i64 c, .int .u64 f], .bool is]) ∧ bx a b n ∧ bx c f d ∧ Below w.heap.size w w'
theorem Wk (k : Int) (w : World) (aI : -9223372036854775808 ≤ k) (h1 : k < 9223372036854775808) : Calls aj 220 #[.int .i64 k] w (SV k 1 w) := by
 have eE := Lib.hid (fun w => rT k w aI h1);clear aI h1
 go_enter Tryz.func220, Tryz.ntmps220
 go_wp2_with fail
 refine (eE.out _).mono ?_;rintro e aP ⟨a, b, rfl, aL, bE⟩
 go_wp2_with fail
 refine (rT 1 _ (by omega) (by omega)).mono ?_;rintro e w2 ⟨c, f, rfl, ak, b4⟩;have bp : dA w2 w.heap.size (.int .i64 0) (.int .u64 0) (.int .i64 0) (.int .u64 0) := by (repeat first | focus ((with_reducible refine dA.new ?_); simp; done) | with_reducible refine dA.call ?_ b4 | with_reducible refine dA.call ?_ bE)
 obtain ⟨⟨j8, p1, p2, p3⟩, c9, q1, q2, cj⟩ := id bp
 go_wp2_with fail
 refine bodyPost_ret (v := .agg #[.int .i64 a, .int .u64 b, .int .i64 c, .int .u64 f]) (by simp only [results, Tryz.results220]; go_simp) rfl ⟨_, _, _, _, rfl, aL, ak, ?_⟩;(repeat first | with_reducible exact Below.refl _ _ | with_reducible refine c6 ?_ _ | focus ((with_reducible refine eW ?_ _ _ _ ?_); rotate_left; omega) | with_reducible refine b6 ?_ b4 | with_reducible refine b6 ?_ bE)
theorem SK (h l n aF cG d : Int) (w : World) (H : bx h l n) (ft : bx aF cG d) (hd : 0 < d) : Calls aj 223 #[.agg #[.int .i64 h, .int .u64 l], .agg #[.int .i64 aF, .int .u64 cG]] w (FI true n d w) := by
 have eE : Hid (∀ w, Calls aj 247 #[.agg #[.int .i64 aF, .int .u64 cG]] w (hj (.int .i64 1) w)) := fun w => by have := BQ aF cG d w ft; rw [Zs hd] at this; exact this
 go_enter Tryz.func223, Tryz.ntmps223
 go_wp2_with fail
 refine (eE.out _).mono ?_;rintro e aP ⟨rfl, bE⟩;have gy : ah aP (w.heap.size) (.int .i64 h) (.int .u64 l) := (by (repeat first | focus ((with_reducible refine ah.new ?_); simp; done) | with_reducible refine ah.alloc ?_ _ | with_reducible refine ah.call ?_ bE)); obtain ⟨⟨l6, l7⟩, l9, ma⟩ := id gy; have jM : ah aP (w.heap.size + 1) (.int .i64 aF) (.int .u64 cG) := (by (repeat first | focus ((with_reducible refine ah.new ?_); simp; done) | with_reducible refine ah.alloc ?_ _ | with_reducible refine ah.call ?_ bE)); obtain ⟨⟨pD, pI⟩, pN, pP⟩ := id jM;have bp : dA aP (w.heap.size + 1 + 1) (.int .i64 0) (.int .u64 0) (.int .i64 0) (.int .u64 0) := by (repeat first | focus ((with_reducible refine dA.new ?_); simp; done) | with_reducible refine dA.call ?_ bE)
 obtain ⟨⟨j8, p1, p2, p3⟩, c9, q1, q2, cj⟩ := id bp
 go_wp2_with fail
 refine bodyPost_ret (v := .tuple #[.agg #[.int .i64 h, .int .u64 l, .int .i64 aF, .int .u64 cG], .bool true]) (by simp only [results, Tryz.results223]; go_simp) rfl ⟨_, _, _, _, rfl, H, ft, ?_⟩;(repeat first | with_reducible exact Below.refl _ _ | with_reducible refine c6 ?_ _ | focus ((with_reducible refine eW ?_ _ _ _ ?_); rotate_left; omega) | with_reducible refine b6 ?_ bE)
def wE (n d : Int) (w : World) (e : Ending) (w' : World) : Prop := FI (fits (-n) && fits (-d)) (if (fits (-n) && fits (-d)) = true then -n else 0) (if (fits (-n) && fits (-d)) = true then -d else 0) w e w'
theorem aec {n d : Int} {w w' : World} {a b c f : Int} (f1 : fits (-n) = true) (f2 : fits (-d) = true) (h1 : bx a b (-n)) (h2 : bx c f (-d)) (ab : Below w.heap.size w w') : wE n d w (.returned (.tuple #[.agg #[.int .i64 a, .int .u64 b, .int .i64 c, .int .u64 f], .bool true])) w' := by
 unfold wE; rw [f1, f2]; exact ⟨a, b, c, f, rfl, h1, h2, ab⟩
theorem QB {n d : Int} {w w' : World} (h : (fits (-n) && fits (-d)) = false) (ab : Below w.heap.size w w') : wE n d w (.returned (.tuple #[.agg #[.int .i64 0, .int .u64 0, .int .i64 0, .int .u64 0], .bool false])) w' := by
 unfold wE; rw [h]; exact ⟨0, 0, 0, 0, rfl, oX, oX, ab⟩
theorem SJ (aL dX n aF cG d : Int) (w : World) (H : bx aL dX n) (ft : bx aF cG d) (hd : d < 0) :
  Calls aj 223 #[.agg #[.int .i64 aL, .int .u64 dX], .agg #[.int .i64 aF, .int .u64 cG]] w (wE n d w) := by
 have eE : Hid (∀ w, Calls aj 247 #[.agg #[.int .i64 aF, .int .u64 cG]] w (hj (.int .i64 (-1)) w)) := fun w => by have := BQ aF cG d w ft; rw [Ny hd] at this; exact this
 have zq := oX
 go_enter Tryz.func223, Tryz.ntmps223
 go_wp2_with fail
 refine (eE.out _).mono ?_;rintro e aP ⟨rfl, bE⟩;have gy : ah aP (w.heap.size) (.int .i64 aL) (.int .u64 dX) := (by (repeat first | focus ((with_reducible refine ah.new ?_); simp; done) | with_reducible refine ah.alloc ?_ _ | with_reducible refine ah.call ?_ bE)); obtain ⟨⟨l6, l7⟩, l9, ma⟩ := id gy; have jM : ah aP (w.heap.size + 1) (.int .i64 aF) (.int .u64 cG) := (by (repeat first | focus ((with_reducible refine ah.new ?_); simp; done) | with_reducible refine ah.alloc ?_ _ | with_reducible refine ah.call ?_ bE)); obtain ⟨⟨pD, pI⟩, pN, pP⟩ := id jM; have mP := Below.size bE; (try simp at mP); have um : ¬ aP.heap.size = w.heap.size := (by omega); have vP : ¬ aP.heap.size = w.heap.size + 1 := (by omega); have Ai : ¬ aP.heap.size = w.heap.size + 1 + 1 := (by omega); have tF : ¬ w.heap.size = aP.heap.size := (by omega); have vf : ¬ w.heap.size + 1 = aP.heap.size := (by omega); have yT : ¬ w.heap.size + 1 + 1 = aP.heap.size := (by omega); have uj : w.heap.size < aP.heap.size := (by omega); have vM : w.heap.size + 1 < aP.heap.size := (by omega); have Ac : w.heap.size + 1 + 1 < aP.heap.size := (by omega)
 go_wp2_with fail
 refine (JY _ _ _ _ H).mono ?_;rintro e w2 ⟨OT, OU, rfl, aE, b4⟩;have ju : ah w2 (w.heap.size + 1) (.int .i64 aF) (.int .u64 cG) := (by (repeat first | with_reducible assumption | with_reducible refine ah.call ?_ b4)); obtain ⟨⟨pE, pJ⟩, pO, pQ⟩ := id ju; have n5 := Below.size b4; (try simp at n5); have xG : ¬ w2.heap.size = w.heap.size := (by omega); have Aj : ¬ w2.heap.size = w.heap.size + 1 := (by omega); have D1 : ¬ w2.heap.size = w.heap.size + 1 + 1 := (by omega); have wW : ¬ w.heap.size = w2.heap.size := (by omega); have yU : ¬ w.heap.size + 1 = w2.heap.size := (by omega); have Cw : ¬ w.heap.size + 1 + 1 = w2.heap.size := (by omega); have xA : w.heap.size < w2.heap.size := (by omega); have Ad : w.heap.size + 1 < w2.heap.size := (by omega); have DO : w.heap.size + 1 + 1 < w2.heap.size := (by omega)
 go_wp2_with fail
 refine (JY _ _ _ _ ft).mono ?_;rintro e w3 ⟨VA, VB, rfl, vo, c8⟩;have lZ : ah w3 (w2.heap.size) (.int .i64 OT) (.int .u64 OU) := (by (repeat first | focus ((with_reducible refine ah.new ?_); simp; done) | with_reducible refine ah.call ?_ c8)); obtain ⟨⟨wP, wU⟩, w0, w7⟩ := id lZ; have sC := Below.size c8; (try simp at sC); have Ak : ¬ w3.heap.size = w.heap.size := (by omega); have D2 : ¬ w3.heap.size = w.heap.size + 1 := (by omega); have II : ¬ w3.heap.size = w.heap.size + 1 + 1 := (by omega); have yV : ¬ w.heap.size = w3.heap.size := (by omega); have Cx : ¬ w.heap.size + 1 = w3.heap.size := (by omega); have Gs : ¬ w.heap.size + 1 + 1 = w3.heap.size := (by omega); have Ae : w.heap.size < w3.heap.size := (by omega); have DP : w.heap.size + 1 < w3.heap.size := (by omega); have Il : w.heap.size + 1 + 1 < w3.heap.size := (by omega);have bp : dA w3 (w.heap.size + 1 + 1) (.int .i64 0) (.int .u64 0) (.int .i64 0) (.int .u64 0) := by (repeat first | focus ((with_reducible refine dA.new ?_); simp; done) | with_reducible refine dA.alloc ?_ _ | with_reducible refine dA.call ?_ c8 | with_reducible refine dA.call ?_ b4 | with_reducible refine dA.call ?_ bE)
 obtain ⟨⟨j8, p1, p2, p3⟩, c9, q1, q2, cj⟩ := id bp;have l2 := ah.lt lZ; have zZ := iQ (ah.lt lZ); have z1 := iP (ah.lt lZ);have Ic := bp.lt; have Ie := iQ bp.lt; have Ig := iP bp.lt
 by_cases f1 : fits (-n) = true
 ·by_cases f2 : fits (-d) = true
  ·rw [if_pos f1] at aE;rw [if_pos f2] at vo;have pu := Lib.hid f1;have ya := Lib.hid f2;rw [f1, f2];clear f1 f2
   go_wp2_with fail
   refine bodyPost_ret (v := .tuple #[.agg #[.int .i64 OT, .int .u64 OU, .int .i64 VA, .int .u64 VB], .bool true]) (by simp only [results, Tryz.results223]; go_simp) rfl (aec pu.out ya.out aE vo ?_);(repeat first | with_reducible exact Below.refl _ _ | with_reducible refine c6 ?_ _ | focus ((with_reducible refine eW ?_ _ _ _ ?_); rotate_left; omega) | with_reducible refine b6 ?_ c8 | with_reducible refine b6 ?_ b4 | with_reducible refine b6 ?_ bE)
  ·have Gw : fits (-d) = false := by simpa using f2
   have G : Hid ((fits (-n) && fits (-d)) = false) := by unfold Hid; rw [Gw, Bool.and_false]
   rw [f1, Gw];clear f1 f2 Gw aE vo
   go_wp2_with fail
   refine bodyPost_ret (v := .tuple #[.agg #[.int .i64 0, .int .u64 0, .int .i64 0, .int .u64 0], .bool false]) (by simp only [results, Tryz.results223]; go_simp) rfl (QB G.out ?_);(repeat first | with_reducible exact Below.refl _ _ | with_reducible refine c6 ?_ _ | focus ((with_reducible refine eW ?_ _ _ _ ?_); rotate_left; omega) | with_reducible refine b6 ?_ c8 | with_reducible refine b6 ?_ b4 | with_reducible refine b6 ?_ bE)
 ·have se : fits (-n) = false := by simpa using f1
  have G : Hid ((fits (-n) && fits (-d)) = false) := by unfold Hid; rw [se, Bool.false_and]
  rw [se];clear f1 se aE vo
  go_wp2_with fail
  refine bodyPost_ret (v := .tuple #[.agg #[.int .i64 0, .int .u64 0, .int .i64 0, .int .u64 0], .bool false]) (by simp only [results, Tryz.results223]; go_simp) rfl (QB G.out ?_);(repeat first | with_reducible exact Below.refl _ _ | with_reducible refine c6 ?_ _ | focus ((with_reducible refine eW ?_ _ _ _ ?_); rotate_left; omega) | with_reducible refine b6 ?_ c8 | with_reducible refine b6 ?_ b4 | with_reducible refine b6 ?_ bE)
end Go.Proofs.YtpochbhajmbfdaaGreat
namespace Go.Proofs.YtpochbhajmbfdaaGreat
open Go.RowKit
attribute [local go_sem ↓] Go.wp_at_zero Go.wp_at_succ
theorem dA.cs {w : World} {b : Nat} {u v x y : Value} (h : dA w b u v x y) : w.cell? ⟨b, 0, none⟩ = some u ∧ w.cell? ⟨b, 1, none⟩ = some v ∧ w.cell? ⟨b, 2, none⟩ = some x ∧ w.cell? ⟨b, 3, none⟩ = some y := h.1
def BO (n : Int) (w : World) (e : Ending) (w' : World) : Prop := ∃ H L, e = .returned (.tuple #[.agg #[.int .i64 H, .int .u64 L], .bool true]) ∧ bx H L n ∧ Below w.heap.size w w'
def lr (n d : Int) (k : Nat) : Int := if k = 0 then n7 n d else n7 (n / d) (2 ^ k)
theorem adJ {k : Nat} (h : k ≤ 100) : fits ((2 : Int) ^ k) = true := by
 have h1 := Nat.pow_le_pow_right (show 0 < 2 by decide) h;rw [show (2 : Nat) ^ 100 = 1267650600228229401496703205376 by decide] at h1;have h2 := (P5 k).1;have e : ((2 : Int) ^ k) = ((2 ^ k : Nat) : Int) := by simp
 unfold fits;rw [e, c0];generalize (2 : Nat) ^ k = P at *;omega
theorem Tb (aL dX n aF cG d k : Int) (w : World) (H : bx aL dX n) (ft : bx aF cG d) (jX : ¬ (0 < d) ∨ (k < 0 ∨ 100 < k)) : Calls aj 240 #[.agg #[.int .i64 aL, .int .u64 dX, .int .i64 aF, .int .u64 cG], .int .i64 k] w (hj (.tuple #[.agg #[.int .i64 0, .int .u64 0], .bool false]) w) := by
 have eE := Lib.hid (fun w => FK aL dX aF cG d w ft)
 have eg : decide (0 < d) = false ∨ (decide (0 < d) = true ∧ k < 0) ∨ (decide (0 < d) = true ∧ 0 ≤ k ∧ 100 < k) := by
  by_cases e : 0 < d
  ·right;rcases jX with q | q | q
   ·exact absurd e q
   ·exact .inl ⟨bg e, q⟩
   ·exact .inr ⟨bg e, by omega, q⟩
  ·exact .inl (bl e)
 clear jX;rcases eg with e | ⟨e, q⟩ | ⟨e, q, cK⟩
 ·have aM : Hid (∀ w, Calls aj 269 #[.agg #[.int .i64 aL, .int .u64 dX, .int .i64 aF, .int .u64 cG]] w (hj (.bool false) w)) := fun w => by have := eE.out w; rw [e] at this; exact this
  clear e eE
  go_enter Tryz.func240, Tryz.ntmps240
  go_wp2_with (go_at_call 269; ((with_reducible refine (aM.out _).mono ?_); rintro e aP ⟨rfl, bE⟩; have gy : ah aP (w.heap.size + 1) (.int .i64 0) (.int .u64 0) := (by (repeat first | focus ((with_reducible refine ah.new ?_); simp; done) | with_reducible refine ah.call ?_ bE)); obtain ⟨⟨l6, l7⟩, l9, ma⟩ := id gy))
  refine bodyPost_ret (v := .tuple #[.agg #[.int .i64 0, .int .u64 0], .bool false]) (by simp only [results, Tryz.results240]; go_simp) rfl ⟨rfl, ?_⟩;(repeat first | with_reducible exact Below.refl _ _ | with_reducible refine c6 ?_ _ | focus ((with_reducible refine eW ?_ _ _ _ ?_); rotate_left; omega) | with_reducible refine b6 ?_ bE)
 ·have aM : Hid (∀ w, Calls aj 269 #[.agg #[.int .i64 aL, .int .u64 dX, .int .i64 aF, .int .u64 cG]] w (hj (.bool true) w)) := fun w => by have := eE.out w; rw [e] at this; exact this
  have VM : decide (k < 0) = true := bg q;clear e eE
  go_enter Tryz.func240, Tryz.ntmps240
  go_wp2_with (go_at_call 269; ((with_reducible refine (aM.out _).mono ?_); rintro e aP ⟨rfl, bE⟩; have gy : ah aP (w.heap.size + 1) (.int .i64 0) (.int .u64 0) := (by (repeat first | focus ((with_reducible refine ah.new ?_); simp; done) | with_reducible refine ah.call ?_ bE)); obtain ⟨⟨l6, l7⟩, l9, ma⟩ := id gy))
  refine bodyPost_ret (v := .tuple #[.agg #[.int .i64 0, .int .u64 0], .bool false]) (by simp only [results, Tryz.results240]; go_simp) rfl ⟨rfl, ?_⟩;(repeat first | with_reducible exact Below.refl _ _ | with_reducible refine c6 ?_ _ | focus ((with_reducible refine eW ?_ _ _ _ ?_); rotate_left; omega) | with_reducible refine b6 ?_ bE)
 ·have aM : Hid (∀ w, Calls aj 269 #[.agg #[.int .i64 aL, .int .u64 dX, .int .i64 aF, .int .u64 cG]] w (hj (.bool true) w)) := fun w => by have := eE.out w; rw [e] at this; exact this
  have VM : decide (k < 0) = false := bl (by omega);clear e eE
  go_enter Tryz.func240, Tryz.ntmps240
  go_wp2_with (go_at_call 269; ((with_reducible refine (aM.out _).mono ?_); rintro e aP ⟨rfl, bE⟩; have gy : ah aP (w.heap.size + 1) (.int .i64 0) (.int .u64 0) := (by (repeat first | focus ((with_reducible refine ah.new ?_); simp; done) | with_reducible refine ah.call ?_ bE)); obtain ⟨⟨l6, l7⟩, l9, ma⟩ := id gy))
  refine bodyPost_ret (v := .tuple #[.agg #[.int .i64 0, .int .u64 0], .bool false]) (by simp only [results, Tryz.results240]; go_simp) rfl ⟨rfl, ?_⟩;(repeat first | with_reducible exact Below.refl _ _ | with_reducible refine c6 ?_ _ | focus ((with_reducible refine eW ?_ _ _ _ ?_); rotate_left; omega) | with_reducible refine b6 ?_ bE)
theorem Td (aL dX n aF cG d : Int) (w : World) (H : bx aL dX n) (ft : bx aF cG d) (hd : 0 < d) : Calls aj 240 #[.agg #[.int .i64 aL, .int .u64 dX, .int .i64 aF, .int .u64 cG], .int .i64 0] w (BO (n7 n d) w) := by
 have aM : Hid (∀ w, Calls aj 269 #[.agg #[.int .i64 aL, .int .u64 dX, .int .i64 aF, .int .u64 cG]] w (hj (.bool true) w)) := fun w => by have := FK aL dX aF cG d w ft; rw [bg hd] at this; exact this
 have bI := Lib.hid (fun w => O1 aL dX n aF cG d w H ft hd)
 go_enter Tryz.func240, Tryz.ntmps240
 go_wp2_with (first
  | (go_at_call 269; ((with_reducible refine (aM.out _).mono ?_); rintro e aP ⟨rfl, bE⟩; have nh : dA aP w.heap.size (.int .i64 aL) (.int .u64 dX) (.int .i64 aF) (.int .u64 cG) := (by (repeat first | focus ((with_reducible refine dA.new ?_); simp; done) | with_reducible refine dA.alloc ?_ _ | with_reducible refine dA.call ?_ bE)); obtain ⟨⟨j8, p1, p2, p3⟩, c9, q1, q2, cj⟩ := id nh))
  | (go_at_call 270; ((with_reducible refine (bI.out _).mono ?_); rintro e w2 ⟨sY, sZ, rfl, ap, b4⟩; have ju : ah w2 (w.heap.size + 1) (.int .i64 0) (.int .u64 0) := (by (repeat first | focus ((with_reducible refine ah.new ?_); simp; done) | with_reducible refine ah.call ?_ b4 | with_reducible refine ah.call ?_ bE)); obtain ⟨⟨pE, pJ⟩, pO, pQ⟩ := id ju)))
 refine bodyPost_ret (v := .tuple #[.agg #[.int .i64 sY, .int .u64 sZ], .bool true]) (by simp only [results, Tryz.results240]; go_simp) rfl ⟨_, _, rfl, ap, ?_⟩;(repeat first | with_reducible exact Below.refl _ _ | with_reducible refine c6 ?_ _ | focus ((with_reducible refine eW ?_ _ _ _ ?_); rotate_left; omega) | with_reducible refine b6 ?_ b4 | with_reducible refine b6 ?_ bE)
theorem Tc (aL dX n aF cG d : Int) (k : Nat) (w : World) (H : bx aL dX n) (ft : bx aF cG d) (hd : 0 < d) (jj : 0 < k) (bC : k ≤ 100) : Calls aj 240 #[.agg #[.int .i64 aL, .int .u64 dX, .int .i64 aF, .int .u64 cG], .int .i64 k] w (BO (n7 (n / d) (2 ^ k)) w) := by
 have aM : Hid (∀ w, Calls aj 269 #[.agg #[.int .i64 aL, .int .u64 dX, .int .i64 aF, .int .u64 cG]] w (hj (.bool true) w)) := fun w => by have := FK aL dX aF cG d w ft; rw [bg hd] at this; exact this
 have bI : Hid (∀ a b w, bx a b 1 → Calls aj 271 #[.agg #[.int .i64 a, .int .u64 b], .int .i64 k] w (BO (2 ^ k) w)) := fun a b w h => (S6 a b 1 k w h (by omega) (by omega)).mono fun e w' ⟨p, q, he, hi, ab⟩ => by
  rw [Int.one_mul, kW] at he hi;rw [adJ bC] at he hi;exact ⟨p, q, he, hi, ab⟩
 have et := Lib.hid (fun w => Sp aL dX n aF cG d w H ft hd);have nG : Hid (∀ a b a' bT w, bx a b (n / d) → bx a' bT (2 ^ k) → Calls aj 270 #[.agg #[.int .i64 a, .int .u64 b], .agg #[.int .i64 a', .int .u64 bT]] w (px (n7 (n / d) (2 ^ k)) w)) := fun a b a' bT w h aF => O1 a b _ a' bT _ w h aF (P5 k).1;generalize jS : n7 (n / d) (2 ^ k) = E at nG ⊢;clear jS;have aim : ((k : Int) == 0) = false := by simp; omega
 go_enter Tryz.func240, Tryz.ntmps240
 go_wp2_with fail
 refine (aM.out _).mono ?_;rintro e aP ⟨rfl, bE⟩;have hy := Lib.hid bE.size
 go_wp2_with fail
 refine (rT 1 _ (by omega) (by omega)).mono ?_;rintro e w2 ⟨ab5, iw, rfl, az, b4⟩
 go_wp2_with fail
 refine (bI.out _ _ _ az).mono ?_;rintro e w3 ⟨s9, ta, rfl, hu, c8⟩;have nh : dA w3 w.heap.size (.int .i64 aL) (.int .u64 dX) (.int .i64 aF) (.int .u64 cG) := (by (repeat first | focus ((with_reducible refine dA.new ?_); simp; done) | with_reducible refine dA.alloc ?_ _ | with_reducible refine dA.call ?_ c8 | with_reducible refine dA.call ?_ b4 | with_reducible refine dA.call ?_ bE));have bo : ah w3 (w.heap.size + 1) (.int .i64 0) (.int .u64 0) := (by (repeat first | focus ((with_reducible refine ah.new ?_); simp; done) | with_reducible refine ah.call ?_ c8 | with_reducible refine ah.call ?_ b4 | with_reducible refine ah.call ?_ bE));have agq : Below w.heap.size w w3 := (by (repeat first | with_reducible exact Below.refl _ _ | with_reducible refine c6 ?_ _ | with_reducible refine b6 ?_ c8 | with_reducible refine b6 ?_ b4 | with_reducible refine b6 ?_ bE));clear bE b4 c8 hy;have l1 := nh.lt; have l2 := bo.lt;have aG : ¬ (w.heap.size = w3.heap.size) := by omega
 have aO : ¬ (w.heap.size + 1 = w3.heap.size) := by omega
 have cz : ¬ (w3.heap.size = w.heap.size) := by omega
 have eX : ¬ (w3.heap.size = w.heap.size + 1) := by omega
 have lD : ¬ (w.heap.size + 1 = w.heap.size) := by omega
 obtain ⟨⟨j8, p1, p2, p3⟩, c9, q1, q2, cj⟩ := id nh
 go_wp2_with fail
 have agm : ah (w3.alloc (.cells #[.int .i64 s9, .int .u64 ta] 159)).drew w3.heap.size (.int .i64 s9) (.int .u64 ta) := (by (repeat first | focus ((with_reducible refine ah.new ?_); simp; done) | with_reducible refine ah.drew ?_));have ni := (nh.alloc (.cells #[.int .i64 s9, .int .u64 ta] 159)).drew;have eT := (bo.alloc (.cells #[.int .i64 s9, .int .u64 ta] 159)).drew
 go_region_held3 (fun w' => (w'.cell? ⟨w.heap.size, 0, none⟩ = some (.int .i64 aL) ∧ w'.cell? ⟨w.heap.size, 1, none⟩ = some (.int .u64 dX) ∧ w'.cell? ⟨w.heap.size, 2, none⟩ = some (.int .i64 aF) ∧ w'.cell? ⟨w.heap.size, 3, none⟩ = some (.int .u64 cG)) ∧ (w'.cell? ⟨w3.heap.size, 0, none⟩ = some (.int .i64 s9) ∧ w'.cell? ⟨w3.heap.size, 1, none⟩ = some (.int .u64 ta)))
  ((refine And.intro (dA.cs ?_) (ah.both ?_) <;> ((repeat first | with_reducible assumption | focus ((with_reducible refine ah.set ?_ _ ?_); rotate_left; omega) | focus ((with_reducible refine dA.set ?_ _ ?_); rotate_left; omega) | with_reducible refine ah.call ?_ hM | with_reducible refine dA.call ?_ hM | with_reducible refine ah.call ?_ fh | with_reducible refine dA.call ?_ fh); done)))
  (first
   | (go_at_call 272; ((with_reducible refine (et.out _).mono ?_); rintro e fA ⟨ahp, ahq, rfl, au, fh⟩))
   | (go_at_call 270; ((with_reducible refine (nG.out _ _ _ _ _ au hu).mono ?_); rintro e iW ⟨sY, sZ, rfl, ap, hM⟩; have SQ := (eT.call fh).call hM; obtain ⟨⟨t0, t1⟩, t2, t3⟩ := id SQ)))
 all_goals
  go_wp2_with fail
  refine bodyPost_ret (v := .tuple #[.agg #[.int .i64 sY, .int .u64 sZ], .bool true]) (by simp only [results, Tryz.results240]; go_simp) rfl ⟨_, _, rfl, ap, ?_⟩;(repeat first | with_reducible assumption | with_reducible refine c6 ?_ _ | focus ((with_reducible refine eW ?_ _ _ _ ?_); rotate_left; omega) | with_reducible refine Below.drew ?_ | with_reducible refine b6 ?_ hM | with_reducible refine b6 ?_ fh)
theorem Kd (aL dX n aF cG d : Int) (k : Nat) (w : World) (H : bx aL dX n) (ft : bx aF cG d) (hd : 0 < d) (bC : k ≤ 100) : Calls aj 240 #[.agg #[.int .i64 aL, .int .u64 dX, .int .i64 aF, .int .u64 cG], .int .i64 k] w (BO (lr n d k) w) := by
 unfold lr;rcases k with _ | k
 ·rw [if_pos rfl]; exact Td aL dX n aF cG d w H ft hd
 ·rw [if_neg (by omega)]; exact Tc aL dX n aF cG d (k + 1) w H ft hd (by omega) bC
end Go.Proofs.YtpochbhajmbfdaaGreat
namespace Go.Proofs.YtpochbhajmbfdaaGreat
open Go.RowKit
attribute [local go_sem ↓] Go.wp_at_zero Go.wp_at_succ
end Go.Proofs.YtpochbhajmbfdaaGreat
namespace Go.Proofs.YtpochbhajmbfdaaGreat
open Go.RowKit
attribute [local go_sem ↓] Go.wp_at_zero Go.wp_at_succ
end Go.Proofs.YtpochbhajmbfdaaGreat
namespace Go.Proofs.YtpochbhajmbfdaaGreat
open Go.RowKit
attribute [local go_sem ↓] Go.wp_at_zero Go.wp_at_succ
section
variable {w W aP : World} {g jx : Nat} {a b c d s t : Int}
end
end Go.Proofs.YtpochbhajmbfdaaGreat
namespace Go.Proofs.YtpochbhajmbfdaaGreat
open Go.RowKit
def kS (n : Int) : Int := n / 18446744073709551616
def kV (n : Int) : Int := n % 18446744073709551616
abbrev NT (n : Int) : bK := .agg [.c (.int .i64 (kS n)), .c (.int .u64 (kV n))]
abbrev rF (n : Int) : ai := .w (NT n)
theorem oY {n : Int} (h : fits n = true) : bx (kS n) (kV n) n := by
 unfold fits at h;rw [c0] at h;unfold bx kS kV;omega
theorem vI {H L n : Int} (h : bx H L n) : H = kS n ∧ L = kV n := by
 obtain ⟨a, b, rfl⟩ := h;unfold kS kV;omega
theorem zn : kS 0 = 0 := by decide
theorem Ab : kV 0 = 0 := by decide
theorem adr {n : Int} (aI : -9223372036854775808 ≤ n) (h1 : n < 9223372036854775808) : aT aj 224 [aV n] (rF n) :=
 nz [.int .i64 n] (.agg #[.int .i64 (kS n), .int .u64 (kV n)]) rfl rfl rfl rfl rfl fun W => (rT n W aI h1).mono fun e w' ⟨H, L, he, hw, ab⟩ => by
  obtain ⟨rfl, rfl⟩ := vI hw; exact ⟨he, ab⟩
abbrev wf (z : Int) : ai := .da [NT (if fits z then z else 0), .one (.c (.bool (fits z)))]
theorem aeM {z : Int} {w w' : World} {e : Ending} (h : mA z w e w') : e = .returned (.tuple #[.agg #[.int .i64 (kS (if fits z then z else 0)), .int .u64 (kV (if fits z then z else 0))], .bool (fits z)]) ∧ Below w.heap.size w w' := by
 obtain ⟨H, L, he, hw, ab⟩ := h;obtain ⟨rfl, rfl⟩ := vI hw;exact ⟨he, ab⟩
theorem ads {n m : Int} (f : fits n = true) (g : fits m = true) : aT aj 221 [rF n, rF m] (wf (n - m)) :=
 nz [.agg #[.int .i64 (kS n), .int .u64 (kV n)], .agg #[.int .i64 (kS m), .int .u64 (kV m)]] _ rfl rfl rfl rfl rfl fun W => (Ke _ _ _ _ _ _ W (oY f) (oY g)).mono fun e w' h => aeM h
abbrev CI (n d : Int) : bK := .agg [.c (.int .i64 (kS n)), .c (.int .u64 (kV n)), .c (.int .i64 (kS d)), .c (.int .u64 (kV d))]
abbrev fv (n d : Int) : ai := .w (CI n d)
abbrev fx (n d : Int) : Value := .agg #[.int .i64 (kS n), .int .u64 (kV n), .int .i64 (kS d), .int .u64 (kV d)]
abbrev fH (n : Int) : Value := .agg #[.int .i64 (kS n), .int .u64 (kV n)]
theorem aeb {n d : Int} {a b c f : Int} {w w' : World} {e : Ending} (he : e = .returned (.agg #[.int .i64 a, .int .u64 b, .int .i64 c, .int .u64 f])) (h1 : bx a b n) (h2 : bx c f d) (ab : Below w.heap.size w w') : e = .returned (fx n d) ∧ Below w.heap.size w w' := by
 obtain ⟨rfl, rfl⟩ := vI h1;obtain ⟨rfl, rfl⟩ := vI h2;exact ⟨he, ab⟩
theorem QA {s : Bool} {n d : Int} {w w' : World} {e : Ending} (h : FI s n d w e w') : e = .returned (.tuple #[fx n d, .bool s]) ∧ Below w.heap.size w w' := by
 obtain ⟨a, b, c, f, he, h1, h2, ab⟩ := h;obtain ⟨rfl, rfl⟩ := vI h1;obtain ⟨rfl, rfl⟩ := vI h2;exact ⟨he, ab⟩
theorem aeL {n : Int} {w w' : World} {e : Ending} (h : px n w e w') : e = .returned (fH n) ∧ Below w.heap.size w w' := by
 obtain ⟨a, b, he, h1, ab⟩ := h;obtain ⟨rfl, rfl⟩ := vI h1;exact ⟨he, ab⟩
theorem PI {k : Int} (aI : -9223372036854775808 ≤ k) (h1 : k < 9223372036854775808) : aT aj 220 [aV k] (fv k 1) :=
 nz [.int .i64 k] (fx k 1) rfl rfl rfl rfl rfl fun W => (Wk k W aI h1).mono fun e w' ⟨a, b, c, f, he, h1, h2, ab⟩ => aeb he h1 h2 ab
theorem acE {n d : Int} (f : fits n = true) (g : fits d = true) (hd : 0 < d) : aT aj 223 [rF n, rF d] (.da [CI n d, .one (.c (.bool true))]) :=
 nz [fH n, fH d] (.tuple #[fx n d, .bool true]) rfl rfl rfl rfl rfl fun W => (SK _ _ n _ _ d W (oY f) (oY g) hd).mono fun e w' h => QA h
theorem acD {n d : Int} (f : fits n = true) (g : fits d = true) (hd : d < 0) {s : Bool} {x y : Int} (hs : (fits (-n) && fits (-d)) = s) (aa : x = if s then -n else 0) (ag : y = if s then -d else 0) : aT aj 223 [rF n, rF d] (.da [CI x y, .one (.c (.bool s))]) :=
 nz [fH n, fH d] (.tuple #[fx x y, .bool s]) rfl rfl rfl rfl rfl fun W => (SJ _ _ n _ _ d W (oY f) (oY g) hd).mono fun e w' h => by unfold wE at h; rw [hs] at h; rw [aa, ag]; exact QA h
theorem OZ {n d : Int} (hd : 0 < d) : n7 n d = (n + n + d) / (d * 2) := by
 have h1 := sU n d;have h2 := pj n (show d ≠ 0 by omega);have aq := oe n hd;unfold n7;generalize n / d = q at *;generalize n % d = r at *;have e : n + n + d = (r + r + d) + q * (d * 2) := by rw [← h1, ka q (d * 2), lU, Int.mul_left_comm d 2 q]; omega
 rw [e, Int.add_mul_ediv_right _ _ (by omega)]
 split
 ·rw [Int.ediv_eq_zero_of_lt (by omega) (by omega)]; omega
 ·have : (r + r + d) / (d * 2) = 1 := by
   rw [show r + r + d = (r + r - d) + 1 * (d * 2) by omega, Int.add_mul_ediv_right _ _ (by omega), Int.ediv_eq_zero_of_lt (by omega) (by omega)];omega
  rw [this]; omega
theorem afl {n d : Int} (k : Nat) (hd : 0 < d) : (n + n + d * 2 ^ k) / (d * 2 ^ (k + 1)) = lr n d k := by
 unfold lr;rcases k with _ | k
 ·rw [if_pos rfl, OZ hd];simp
 ·rw [if_neg (by omega), OZ (kb (by decide))];have hp : (0 : Int) < 2 ^ k := kb (by decide);rw [Int.pow_succ 2 (k + 1), Int.pow_succ 2 k];generalize (2 : Int) ^ k = Q at *
  have aG : (n + n + d * (Q * 2)) / (d * (Q * 2 * 2)) = (n + d * Q) / (d * (Q * 2)) := by
   rw [show n + n + d * (Q * 2) = 2 * (n + d * Q) by rw [ka Q 2, Int.mul_left_comm]; omega, show d * (Q * 2 * 2) = 2 * (d * (Q * 2)) by rw [ka (Q * 2) 2, Int.mul_left_comm], Int.mul_ediv_mul_of_pos _ _ (by decide)]
  have aO : (n / d + n / d + Q * 2) / (Q * 2 * 2) = (n / d + Q) / (Q * 2) := by
   rw [show n / d + n / d + Q * 2 = 2 * (n / d + Q) by omega, ka (Q * 2) 2, Int.mul_ediv_mul_of_pos _ _ (by decide)]
  rw [aG, aO, ← xS (by omega), ka d Q, Int.add_mul_ediv_right _ _ (by omega)]
end Go.Proofs.YtpochbhajmbfdaaGreat
