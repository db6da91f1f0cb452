/-
  My own texts, without what this claim does not need. My own text.
-/
import Derived.Deep.QuietTactic
import Derived.Deep.DeepCutAuto
import Derived.Deep.CutBlock
import Derived.Deep.DrawnRows
import Derived.RegionTactic
import Derived.Deep.LoopGhost
import Derived.Test.YtpochbhajmbfdaaGreatSTurnedK6
set_option maxRecDepth 100000
set_option maxHeartbeats 64000000
set_option linter.unusedVariables false
set_option linter.unusedSimpArgs false
set_option linter.unusedSectionVars false
open Go.Proofs.Tryz renaming prog → aj
namespace Go.Proofs.YtpochbhajmbfdaaGreat
structure h8 (u d a b : Int) : Prop where
  a0 : 2147483648 ≤ a
  a1 : a < 4294967296
  oS : 0 ≤ b
  b1 : b < 4294967296
  kJ : 0 ≤ u
  cH : u < a * 4294967296 + b
  d0 : 0 ≤ d
  d1 : d < 4294967296
def jo (u d a b : Int) : Int := (u * 4294967296 + d) / (a * 4294967296 + b)
def iA (u d a b : Int) : Int := (u * 4294967296 + d) % (a * 4294967296 + b)
structure mg (u d a b q r : Int) : Prop where
  sum : q * a + r = u
  db : 0 ≤ q
  iD : 0 ≤ r
  le : jo u d a b ≤ q
variable {u d a b q r : Int}
theorem h8.oK (h : h8 u d a b) : 0 < a * 4294967296 + b := by have := h.a0; have := h.oS; omega
theorem h8.db (h : h8 u d a b) : 0 ≤ jo u d a b := qE (by have := h.kJ; have := h.d0; omega) (qF h.oK)
theorem h8.Fk (h : h8 u d a b) : jo u d a b < 4294967296 := by
  unfold jo;refine Int.ediv_lt_of_lt_mul h.oK ?_;have h1 := h.cH; have h2 := h.d1;generalize a * 4294967296 + b = y at *;omega
theorem h8.le_iff (h : h8 u d a b) (q : Int) : q ≤ jo u d a b ↔ q * (a * 4294967296 + b) ≤ u * 4294967296 + d := by
  unfold jo;exact qG h.oK
theorem Jw (q a b : Int) : q * (a * 4294967296 + b) = q * a * 4294967296 + q * b := by rw [Int.mul_add, lD]
theorem h8.init (h : h8 u d a b) : mg u d a b (u / a) (u - u / a * a) := by
  have aI : 0 < a := by have := h.a0; omega
  refine ⟨by omega, qE h.kJ (qF aI), ?_, ?_⟩
  · have := Int.ediv_mul_le u (show a ≠ 0 by omega)
    omega
  · have h1 := (h.le_iff _).1 (nM _)
    rw [Jw] at h1;rw [qG aI];have h2 := il h.db h.oS;have ao := h.d1;omega
theorem h8.OJ (h : h8 u d a b) : u - u / a * a < a ∧ u - u / a * a < 4294967296 := by
  have aI : 0 < a := by have := h.a0; omega
  have h1 := oE u aI;rw [Int.emod_def, kf] at h1;have := h.a1;omega
theorem mg.down (h : h8 u d a b) (t : mg u d a b q r) (k : 4294967296 ≤ q ∨ 4294967296 * r + d < q * b) : mg u d a b (q - 1) (r + a) ∧ 1 ≤ q := by
  have bh : jo u d a b < q := by
    rcases k with k | k
    · exact Int.lt_of_lt_of_le h.Fk k
    · rcases qD (jo u d a b) q with l | l
      · exact l
      · have h1 := (h.le_iff q).1 l
        rw [Jw] at h1;have h2 := t.sum;generalize q * a = oy at *;generalize q * b = oz at *;omega
  have aJ := h.db;refine ⟨⟨?_, by omega, by have := t.iD; have := h.a0; omega, by omega⟩, by omega⟩;rw [Int.sub_mul, ← t.sum];omega
theorem mg.done (h : h8 u d a b) (t : mg u d a b q r) (k : q * b ≤ 4294967296 * r + d) : q = jo u d a b := by
  have h1 : q ≤ jo u d a b := by
    rw [h.le_iff, Jw];have h2 := t.sum;generalize q * a = oy at *;generalize q * b = oz at *;omega
  have := t.le;omega
theorem mg.Fi (h : h8 u d a b) (t : mg u d a b q r) : q < 8589934592 := by
  rcases qD q 8589934592 with l | l
  · exact l
  · have h1 : 8589934592 * 2147483648 ≤ q * a := tk l h.a0 (by omega) t.db
    have h2 := t.sum; have ao := h.cH; have aH := h.b1; have cM := h.a1; have fQ := t.iD;omega
theorem mg.small (h : h8 u d a b) (t : mg u d a b q r) (k : 4294967296 ≤ r) : q < 4294967296 := by
  rcases qD q 4294967296 with l | l
  · exact l
  · have h1 := qB l (show (0 : Int) ≤ a by have := h.a0; omega)
    have h2 := t.sum; have ao := h.cH; have aH := h.b1;omega
theorem mg.pj (h : h8 u d a b) (t : mg u d a b q r) (k : q < 4294967296) : 0 ≤ q * b ∧ q * b < 18446744073709551616 := by
  refine ⟨il t.db h.oS, ?_⟩;have h1 : q * b ≤ 4294967295 * 4294967295 := tk (by omega) (by have := h.b1; omega) h.oS (by omega);omega
theorem mg.out (h : h8 u d a b) (t : mg u d a b q r) (k : 4294967296 ≤ r) : q = jo u d a b := by
  have h1 := t.small h k;refine t.done h ?_;have h2 := (t.pj h h1).2;have ao := h.d0;omega
theorem h8.rest (h : h8 u d a b) : IntKind.u64.wrap (IntKind.u64.wrap (IntKind.u64.wrap (u * 4294967296) + d) - IntKind.u64.wrap (jo u d a b * (a * 4294967296 + b))) = iA u d a b := by
  have h1 : u * 4294967296 + d - jo u d a b * (a * 4294967296 + b) = iA u d a b := by
    unfold jo iA;rw [Int.emod_def, kf (a * 4294967296 + b)]
  have h2 : 0 ≤ iA u d a b := pz _ (by have := h.oK; omega);have ao : iA u d a b < a * 4294967296 + b := oE _ h.oK;have aH := h.a1; have cM := h.b1;simp only [IntKind.wrap_u64];generalize iA u d a b = k at *;generalize jo u d a b * (a * 4294967296 + b) = p at *;omega
theorem h8.next (h : h8 u d a b) (e : Int) (dl : 0 ≤ e ∧ e < 4294967296) : h8 (iA u d a b) e a b :=
  ⟨h.a0, h.a1, h.oS, h.b1, pz _ (by have := h.oK; omega), oE _ h.oK, dl.1, dl.2⟩
theorem h8.two (h : h8 u d a b) (e : Int) (dl : 0 ≤ e ∧ e < 4294967296) :
    jo u d a b * 4294967296 + jo (iA u d a b) e a b = (u * 18446744073709551616 + d * 4294967296 + e) / (a * 4294967296 + b) ∧ iA (iA u d a b) e a b = (u * 18446744073709551616 + d * 4294967296 + e) % (a * 4294967296 + b) := by
  have k := h.next e dl
  have oK := h.oK;have s1 : u * 4294967296 + d = (a * 4294967296 + b) * jo u d a b + iA u d a b := (ti _ _).symm;have s2 : iA u d a b * 4294967296 + e = (a * 4294967296 + b) * jo (iA u d a b) e a b + iA (iA u d a b) e a b := (ti _ _).symm;have iD : 0 ≤ iA (iA u d a b) e a b := pz _ (by omega);have cN : iA (iA u d a b) e a b < a * 4294967296 + b := oE _ oK;generalize iA (iA u d a b) e a b = R at *;generalize jo (iA u d a b) e a b = np at *;generalize iA u d a b = bl at *;generalize jo u d a b = kN at *;generalize a * 4294967296 + b = y at *
  have t : u * 18446744073709551616 + d * 4294967296 + e = R + y * (kN * 4294967296 + np) := by
    rw [Int.mul_add, ← lD];generalize y * kN = p at *;generalize y * np = p2 at *;omega
  rw [t]
  constructor
  · rw [Int.add_mul_ediv_left _ _ (by omega), Int.ediv_eq_zero_of_lt iD cN]
    omega
  · rw [Int.add_mul_emod_self_left, Int.emod_eq_of_lt iD cN]
structure Lz (y s : Int) : Prop where
  eH : 0 ≤ s
  s1 : s < 64
  lo : 9223372036854775808 ≤ y * 2 ^ s.toNat
  hi : y * 2 ^ s.toNat < 18446744073709551616
theorem ab3 (y : Int) (aJ : 0 < y) (h1 : y < 18446744073709551616) : Lz y (64 - (Lib.bitLen y.toNat : Int)) := by
  obtain ⟨n, rfl⟩ := ng (qF aJ);rw [k6];rcases Ph n (by omega) with ⟨h, _⟩ | ⟨l1, _, AN, AO⟩
  · omega
  · have l2 : Lib.bitLen n ≤ 64 := Lib.bitLen_le n 64 (eb _) (by rw [rT]; omega)
    have e : (64 - (Lib.bitLen n : Int)).toNat = 64 - Lib.bitLen n := by omega
    have f : (n : Int) * 2 ^ (64 - Lib.bitLen n) = ((n * 2 ^ (64 - Lib.bitLen n) : Nat) : Int) := by simp
    have g1 : 2 ^ 63 ≤ n * 2 ^ (64 - Lib.bitLen n) := by
      have := kC (2 ^ (64 - Lib.bitLen n)) AN;rw [← Nat.pow_add, show Lib.bitLen n - 1 + (64 - Lib.bitLen n) = 63 by omega] at this;exact this
    have g2 : n * 2 ^ (64 - Lib.bitLen n) < 2 ^ 64 := by
      have := Nat.mul_lt_mul_of_pos_right AO (Nat.two_pow_pos (64 - Lib.bitLen n));rw [← Nat.pow_add, show Lib.bitLen n + (64 - Lib.bitLen n) = 64 by omega] at this;exact this
    rw [rT] at g2;rw [show (2 : Nat) ^ 63 = 9223372036854775808 by decide] at g1;exact ⟨by omega, by omega, by rw [e, f]; omega, by rw [e, f]; omega⟩
structure Nm (hi lo y s U V Y : Int) : Prop where
  y : Y = y * 2 ^ s.toNat
  n : (hi * 18446744073709551616 + lo) * 2 ^ s.toNat = U * 18446744073709551616 + V
  kJ : 0 ≤ U
  cH : U < Y
  v0 : 0 ≤ V
  v1 : V < 18446744073709551616
theorem ac2 {hi lo y s : Int} (aJ : 0 ≤ hi) (h1 : hi < y) (l : 0 ≤ lo ∧ lo < 18446744073709551616) (k : Lz y s) :
    Nm hi lo y s (bits .or .u64 (IntKind.u64.wrap (hi * 2 ^ s.toNat)) (lo / 2 ^ (64 - s).toNat)) (IntKind.u64.wrap (lo * 2 ^ s.toNat)) (IntKind.u64.wrap (y * 2 ^ s.toNat)) := by
  have ke : (0 : Int) < 2 ^ s.toNat := jM (by omega)
  have t : (hi * 18446744073709551616 + lo) * 2 ^ s.toNat < y * 2 ^ s.toNat * 18446744073709551616 := by
    rw [Int.mul_right_comm];exact Int.mul_lt_mul_of_pos_right (by omega) ke
  have pd := k.hi;obtain ⟨H, aG, aM, cD⟩ := R7 hi lo s aJ l ⟨k.eH, k.s1⟩ (by omega)
  have w : IntKind.u64.wrap (y * 2 ^ s.toNat) = y * 2 ^ s.toNat := by
    have := k.lo;rw [IntKind.wrap_u64];omega
  rw [aG, w];have v : 0 ≤ IntKind.u64.wrap (lo * 2 ^ s.toNat) ∧ IntKind.u64.wrap (lo * 2 ^ s.toNat) < 18446744073709551616 := by rw [IntKind.wrap_u64]; omega
  refine ⟨rfl, cD, aM.1, ?_, v.1, v.2⟩;rw [cD] at t;omega
theorem LM (x : Int) (h : 0 ≤ x ∧ x < 18446744073709551616) : bits .and .u64 x 4294967295 = x % 4294967296 := by
  obtain ⟨X, rfl⟩ := ng h.1;have h1 := bits_and_u64_nat X 4294967295 (by omega) (by omega);rw [show X &&& 4294967295 = X % 4294967296 from Nat.and_two_pow_sub_one_eq_mod X 32] at h1;rw [show ((4294967295 : Nat) : Int) = 4294967295 from rfl] at h1;rw [h1];omega
theorem Nm.abr {hi lo y s U V Y : Int} (h : Nm hi lo y s U V Y) (k : Lz y s) : h8 U (V / 4294967296) (Y / 4294967296) (Y % 4294967296) := by
  have a := h.y; have b := h.kJ; have c := h.cH; have d := h.v0; have e := h.v1; have f := k.lo; have g := k.hi
  constructor <;> omega
theorem Nm.quo {hi lo y s U V Y : Int} (h : Nm hi lo y s U V Y) (k : Lz y s) : (U * 18446744073709551616 + V / 4294967296 * 4294967296 + V % 4294967296) / (Y / 4294967296 * 4294967296 + Y % 4294967296) = (hi * 18446744073709551616 + lo) / y ∧
    (U * 18446744073709551616 + V / 4294967296 * 4294967296 + V % 4294967296) % (Y / 4294967296 * 4294967296 + Y % 4294967296) / 2 ^ s.toNat = (hi * 18446744073709551616 + lo) % y := by
  have ke : (0 : Int) < 2 ^ s.toNat := jM (by omega);rw [show U * 18446744073709551616 + V / 4294967296 * 4294967296 + V % 4294967296 = U * 18446744073709551616 + V by omega, show Y / 4294967296 * 4294967296 + Y % 4294967296 = Y by omega, ← h.n, h.y];generalize (2 : Int) ^ s.toNat = p at *
  constructor
  · exact Int.mul_ediv_mul_of_pos_left _ _ ke
  · rw [Int.emod_def, Int.mul_ediv_mul_of_pos_left _ _ ke, Int.mul_right_comm, ← Int.sub_mul, Int.mul_ediv_cancel _ (by omega), Int.emod_def]
end Go.Proofs.YtpochbhajmbfdaaGreat
namespace Go.Proofs.YtpochbhajmbfdaaGreat
theorem Rd (s : Int) (eH : 0 ≤ s) (s1 : s < 64) : (2 : Int) * 2 ^ (63 - s).toNat * 2 ^ s.toNat = 18446744073709551616 ∧ (0 : Int) < 2 ^ (63 - s).toNat ∧ (0 : Int) < 2 ^ s.toNat := by
  refine ⟨?_, jM (by omega), jM (by omega)⟩;rw [lD, ← Int.pow_add, show (63 - s).toNat + s.toNat = 63 by omega];decide
theorem Yl (A b s T low : Int) (b0 : 0 ≤ A) (jU : A ≤ 170141183460469231731687303715884105728) (eH : 0 ≤ s) (s1 : s < 64) (e : b * 2 ^ s.toNat = T * 18446744073709551616 + low) (rs : 0 ≤ low) (l1 : low < 18446744073709551616) (T9 : 9223372036854775808 ≤ T) :
    A / b ≤ A / 2 / T / 2 ^ (63 - s).toNat ∧ A / 2 / T / 2 ^ (63 - s).toNat ≤ A / b + 1 ∧ A / 2 / T / 2 ^ (63 - s).toNat ≤ 9223372036854775808 := by
  obtain ⟨p1, p2, p3⟩ := Rd s eH s1;generalize (2 : Int) ^ (63 - s).toNat = c at *;generalize (2 : Int) ^ s.toNat = p at *;rw [yx (show (0 : Int) ≤ T by omega), yx (show (0 : Int) ≤ 2 by omega)]
 
  have kR : T * (2 * c) * p = T * 18446744073709551616 := by rw [lD, p1]
  have c2 : 2 ≤ 2 * c := by omega
  have Tf : 18446744073709551616 ≤ T * (2 * c) := by
    have := tk T9 c2 (by omega) (by omega);omega
  have WO : T * (2 * c) ≤ b := by
    have : T * (2 * c) * p ≤ b * p := by rw [kR, e]; omega
    exact Int.le_of_mul_le_mul_right this p3
  have aib : b < T * (2 * c) + 2 * c := by
    have : b * p < (T * (2 * c) + 2 * c) * p := by rw [Int.add_mul, kR, p1, e]; omega
    exact Int.lt_of_mul_lt_mul_right this (qF p3)
  rw [show 2 * (T * c) = T * (2 * c) by rw [← lD, kf 2 T, lD]];generalize aiQ : T * (2 * c) = D at *;have Tj : 0 < D := by omega
  have Vy : 0 < b := by omega
  have g1 : A / D * D ≤ A := Int.ediv_mul_le A (by omega);have g0 : 0 ≤ A / D := qE b0 (by omega)
  have gt : A / D ≤ 9223372036854775808 := by
    rcases qD 9223372036854775808 (A / D) with h | h
    · have := tk (show 9223372036854775809 ≤ A / D by omega) Tf (by omega) g0
      omega
    · exact h
  refine ⟨?_, ?_, gt⟩
  · rw [qG Tj]
    have h1 : A / b * b ≤ A := Int.ediv_mul_le A (by omega);have h2 : A / b * D ≤ A / b * b := qA WO (qE b0 (by omega));omega
  · have : A / D - 1 ≤ A / b := by
      rw [qG Vy];rcases qD 0 (A / D) with h | h
      · have h2 : (A / D - 1) * b ≤ (A / D - 1) * (D + 2 * c) := qA (by omega) (by omega)
        have ao : (A / D - 1) * (2 * c) ≤ T * (2 * c) := qB (by omega) (by omega);rw [Int.mul_add, Int.sub_mul (A / D) 1 D, Int.one_mul] at h2;omega
      · have h2 : (A / D - 1) * b ≤ 0 := Int.mul_nonpos_of_nonpos_of_nonneg (by omega) (by omega)
        omega
    omega
theorem adv (h l : Nat) (h1 : h * 9223372036854775808 < 18446744073709551616) (h2 : l < 9223372036854775808) (ao : h * 9223372036854775808 + l < 18446744073709551616) :
    bits .or .u64 ((h * 9223372036854775808 : Nat) : Int) (l : Int) = ((h * 9223372036854775808 + l : Nat) : Int) := by
  have e := JE h l 63;rw [show (2 : Nat) ^ 63 = 9223372036854775808 by decide] at e;exact e h1 h2 ao
theorem YL (h l : Int) (vE : 0 ≤ h ∧ h < 18446744073709551616) (tP : 0 ≤ l ∧ l < 18446744073709551616) :
    ∃ L, bits .or .u64 (IntKind.u64.wrap (h * 9223372036854775808)) (l / 2) = L ∧ (0 ≤ L ∧ L < 18446744073709551616) ∧ h / 2 * 18446744073709551616 + L = (h * 18446744073709551616 + l) / 2 := by
  obtain ⟨a, rfl⟩ := ng vE.1;obtain ⟨b, rfl⟩ := ng tP.1
  have aT : IntKind.u64.wrap ((a : Int) * 9223372036854775808) = ((a % 2 * 9223372036854775808 : Nat) : Int) := by
    rw [IntKind.wrap_u64];omega
  have w2 : (b : Int) / 2 = ((b / 2 : Nat) : Int) := by omega
  refine ⟨_, rfl, ?_⟩;rw [aT, w2, adv _ _ (by omega) (by omega) (by omega)];omega
theorem ab4 {h l s : Int} (k : Lz h s) (aJ : 0 ≤ h) (rs : 0 ≤ l) (l1 : l < 18446744073709551616) :
    (h * 18446744073709551616 + l) * 2 ^ s.toNat < 340282366920938463463374607431768211456 ∧ 170141183460469231731687303715884105728 ≤ (h * 18446744073709551616 + l) * 2 ^ s.toNat := by
  obtain ⟨p1, p2, p3⟩ := Rd s k.eH k.s1;have lo := k.lo; have hi := k.hi;generalize (2 : Int) ^ (63 - s).toNat = c at *;generalize (2 : Int) ^ s.toNat = p at *
  have ak : h < 2 * c := by
    rw [← p1] at hi;exact Int.lt_of_mul_lt_mul_right hi (qF p3)
  have h2 : (h + 1) * p ≤ 2 * c * p := qB (by omega) (qF p3);have ao : l * p ≤ 18446744073709551615 * p := qB (by omega) (qF p3);have aH : 0 ≤ l * p := il rs (qF p3);rw [Int.add_mul, Int.one_mul, p1] at h2;rw [Int.add_mul, Int.mul_right_comm];generalize h * p = hp at *;generalize l * p = ajJ at *;omega
end Go.Proofs.YtpochbhajmbfdaaGreat
namespace Go.Proofs.YtpochbhajmbfdaaGreat
open Go.RowKit
theorem Vt {w W : World} (h : Below w.heap.size w W) (n : Nat) : Below w.heap.size w (W.drewN n) := ⟨h.os, h.tape, h.output, h.size, h.block⟩
def TV (y : Int) (w : World) (e : Ending) (w' : World) : Prop := ∃ s : Int, e = .returned (.int .i64 s) ∧ Lz y s ∧ w = w'
theorem Py (y : Int) (w : World) (aJ : 0 < y) (h1 : y < 18446744073709551616) : Calls aj 305 #[.int .u64 y] w (TV y w) := by
  refine (Tryz.bits_LeadingZeros64 y w (by omega) (by omega)).mono ?_;rintro e w' ⟨rfl, rfl⟩;exact ⟨_, rfl, ab3 y aJ h1, rfl⟩
theorem afn {a b c d : Int} (h : a = c) (k : b = d) : Ending.returned (.tuple #[.int .u64 a, .int .u64 b]) = .returned (.tuple #[.int .u64 c, .int .u64 d]) := by rw [h, k]
def Cv (q r : Int) (w : World) (e : Ending) (w' : World) : Prop := e = .returned (.tuple #[.int .u64 q, .int .u64 r]) ∧ Below w.heap.size w w'
theorem WE (lo y : Int) (w : World) (l : 0 ≤ lo ∧ lo < 18446744073709551616) (oK : 0 < y) (l8 : y < 18446744073709551616) :
    Calls aj 301 #[.int .u64 0, .int .u64 lo, .int .u64 y] w (Cv (lo / y) (lo % y) w) := by
  have nc : (y == 0) = false := by simp; omega
  have fT : decide (y ≤ 0) = false := by simp; omega
  obtain ⟨rs, l1⟩ := l
  go_enter Tryz.func301, Tryz.ntmps301
  go_wp2
  go_quiet (fail)
  go_wp2
  go_ret2
  exact ⟨rfl, Vt (Below.refl _ _) _⟩
theorem WD (hi lo y : Int) (w : World) (aJ : 0 < hi) (h1 : hi < y) (l : 0 ≤ lo ∧ lo < 18446744073709551616) (l8 : y < 18446744073709551616) :
    Calls aj 301 #[.int .u64 hi, .int .u64 lo, .int .u64 y] w (Cv ((hi * 18446744073709551616 + lo) / y) ((hi * 18446744073709551616 + lo) % y) w) := by
  have nc : (y == 0) = false := by simp; omega
  have fT : decide (y ≤ hi) = false := by simp; omega
  have fC : (hi == 0) = false := by simp; omega
  go_enter Tryz.func301, Tryz.ntmps301
  go_wp2_with fail
  refine (Py y _ (by omega) l8).mono ?_;rintro e aT ⟨s, rfl, hs, rfl⟩;have qt := hs.eH; have o7 := hs.s1;have aak : IntKind.u64.wrap s = s := by rw [IntKind.wrap_u64]; omega
  have uB := ac2 (qF aJ) h1 l hs;generalize dJ : bits .or .u64 (IntKind.u64.wrap (hi * 2 ^ s.toNat)) (lo / 2 ^ (64 - s).toNat) = U at uB;generalize qh : IntKind.u64.wrap (lo * 2 ^ s.toNat) = V at uB;generalize NE : IntKind.u64.wrap (y * 2 ^ s.toNat) = Y at uB;have kx := uB.abr hs;have Iw := uB.quo hs;have NF : 0 ≤ Y ∧ Y < 18446744073709551616 := by have := kx.a0; have := kx.a1; omega
  have NK := LM Y NF;have NI := LM V ⟨uB.v0, uB.v1⟩;have two := kx.two (V % 4294967296) (by omega);rw [Iw.1] at two;have NG : Y / 4294967296 * 4294967296 + Y % 4294967296 = Y := by omega
  have Fs := kx.rest;have AM := kx.next (V % 4294967296) (by omega)
  have Bn := AM.rest;rw [NG] at Fs Bn;have WU : 0 ≤ V % 4294967296 ∧ V % 4294967296 < 4294967296 := by omega
  generalize hd : V / 4294967296 = d at *;generalize he : V % 4294967296 = e at *;generalize aI : Y / 4294967296 = a at *;generalize ab : Y % 4294967296 = b at *;have a0 := kx.a0; have a1 := kx.a1; have oS := kx.oS; have b1 := kx.b1; have kJ := kx.kJ; have d0 := kx.d0; have d1 := kx.d1;have cH : U < 18446744073709551616 := by have := kx.cH; omega
  have ahG : (a == 0) = false := by simp; omega
  have yW := Lib.hid two; have Tt := Lib.hid Iw.2; have vg := Lib.hid kx; have mf := Lib.hid AM;have ae2 := kx.Fk; have ae1 := kx.db; have JW := AM.Fk; have JV := AM.db;have t1 := kx.init; have Si := kx.OJ;have i1 := t1.Fi kx;have i2 : 0 ≤ U / a := t1.db
  have i3 : IntKind.u64.wrap (U / a * a) = U / a * a := by
    have := t1.sum; have := t1.iD; rw [IntKind.wrap_u64];have : 0 ≤ U / a * a := il i2 (by omega);omega
  have i4 := t1.iD;have i7 : 0 ≤ U / a * a := il i2 (by omega);obtain ⟨m1, x2⟩ : ∃ m, m = U / a * a := ⟨_, rfl⟩;rw [← x2] at i4 i7 t1 Si;have ajj : IntKind.u64.wrap (U / a * a) = m1 := by rw [i3, x2]
  obtain ⟨i5, i6⟩ := Si;have qZ := Lib.hid t1;generalize NA : jo U d a b = kN at *;generalize YG : iA U d a b = lL at *;have Gc := Lib.hid NA;have Tu := Lib.hid Fs; have Tv := Lib.hid Bn;clear two Iw kx AM uB NG WU NF h1 aJ l l8 i3 x2 t1 NA YG Fs Bn
  go_upto_block 0 with fail
  go_cut [15, 16] (fun Bw wS fM => w = fM ∧ Bw = .int .u64 kN ∧ ∃ r, wS = .int .u64 r)
  case first =>
    go_wp2_with fail
    go_loop [15, 16] (fun Bw wS => ∃ q r : Int, Bw = .int .u64 q ∧ wS = .int .u64 r ∧ mg U d a b q r ∧ r < 4294967296) (fun Bw _ => (intOf Bw).toNat)
    case atStart => exact ⟨_, _, rfl, rfl, qZ.out, i6⟩
    case round =>
      obtain ⟨q, r, rfl, rfl, aF, al⟩ := hrel;have an := aF.Fi vg.out;have uD := aF.db;have ZX := aF.iD
      by_cases ab : 4294967296 ≤ q
      · obtain ⟨gr, fJ⟩ := aF.down vg.out (.inl ab)
        have nn := Lib.hid gr;clear gr
        by_cases aa : 4294967296 ≤ r + a
        · have jk := nn.out.out vg.out aa
          rw [Gc.out] at jk;have mH := Lib.hid jk;clear jk
          go_wp2_with fail
          go_meet
          exact ⟨rfl, congrArg _ mH.out, _, rfl⟩
        · go_wp2_with fail
          go_round
          case rel => exact ⟨_, _, rfl, rfl, nn.out, by omega⟩
          case measure => simp [intOf]; omega
      · have Im := aF.pj vg.out (by omega)
        obtain ⟨P, fp⟩ : ∃ P, P = q * b := ⟨_, rfl⟩;rw [← fp] at Im;have YB : IntKind.u64.wrap (q * b) = P := by rw [← fp, IntKind.wrap_u64]; omega
        have r8 := Lib.hid fp;clear fp
        by_cases ak : 4294967296 * r + d < P
        · obtain ⟨gr, fJ⟩ := aF.down vg.out (.inr (by rw [← r8.out]; exact ak))
          have nn := Lib.hid gr;clear gr
          by_cases aa : 4294967296 ≤ r + a
          · have jk := nn.out.out vg.out aa
            rw [Gc.out] at jk;have mH := Lib.hid jk;clear jk
            go_wp2_with fail
            go_meet
            exact ⟨rfl, congrArg _ mH.out, _, rfl⟩
          · go_wp2_with fail
            go_round
            case rel => exact ⟨_, _, rfl, rfl, nn.out, by omega⟩
            case measure => simp [intOf]; omega
        · have jk := aF.done vg.out (by rw [← r8.out]; omega)
          rw [Gc.out] at jk;have mH := Lib.hid jk;clear jk
          go_wp2_with fail
          go_meet
          exact ⟨rfl, congrArg _ mH.out, _, rfl⟩
  case rest =>
    obtain ⟨rfl, rfl, cN, rfl⟩ := hcut;have Fs := Tu.out;have v0 := mf.out.kJ;have v1 : lL < 18446744073709551616 := by have := mf.out.cH; omega
    have dl := mf.out.d0; have aG := mf.out.d1;have t2 := mf.out.init; have Sj := mf.out.OJ;have rr := t2.Fi mf.out;have Em : 0 ≤ lL / a := t2.db
    have OX : IntKind.u64.wrap (lL / a * a) = lL / a * a := by
      have := t2.sum; have := t2.iD; rw [IntKind.wrap_u64];have : 0 ≤ lL / a * a := il Em (by omega);omega
    have aaV := t2.iD;have aaX : 0 ≤ lL / a * a := il Em (by omega);obtain ⟨m2, od⟩ : ∃ m, m = lL / a * a := ⟨_, rfl⟩;rw [← od] at aaV aaX t2 Sj;have ajy : IntKind.u64.wrap (lL / a * a) = m2 := by rw [OX, od]
    obtain ⟨ajz, aaW⟩ := Sj;have sd := Lib.hid t2;obtain ⟨np, HM⟩ : ∃ Q, Q = jo lL e a b := ⟨_, rfl⟩;have yX := Lib.hid HM.symm;have JV := mf.out.db; have JW := mf.out.Fk;rw [← HM] at JV JW;clear OX od t2 HM
    go_upto_block 2 with fail
    go_cut [18, 16] (fun Bx wS fM => w = fM ∧ Bx = .int .u64 np ∧ ∃ r, wS = .int .u64 r)
    case first =>
      go_wp2_with fail
      go_loop [18, 16] (fun Bx wS => ∃ q r : Int, Bx = .int .u64 q ∧ wS = .int .u64 r ∧ mg lL e a b q r ∧ r < 4294967296) (fun Bx _ => (intOf Bx).toNat)
      case atStart => exact ⟨_, _, rfl, rfl, sd.out, aaW⟩
      case round =>
        obtain ⟨q, r, rfl, rfl, aF, al⟩ := hrel;have an := aF.Fi mf.out;have uD := aF.db;have ZX := aF.iD
        by_cases ab : 4294967296 ≤ q
        · obtain ⟨gr, fJ⟩ := aF.down mf.out (.inl ab)
          have nn := Lib.hid gr;clear gr
          by_cases aa : 4294967296 ≤ r + a
          · have jk := nn.out.out mf.out aa
            rw [yX.out] at jk;have mH := Lib.hid jk;clear jk
            go_wp2_with fail
            go_meet
            exact ⟨rfl, congrArg _ mH.out, _, rfl⟩
          · go_wp2_with fail
            go_round
            case rel => exact ⟨_, _, rfl, rfl, nn.out, by omega⟩
            case measure => simp [intOf]; omega
        · have Im := aF.pj mf.out (by omega)
          obtain ⟨P, fp⟩ : ∃ P, P = q * b := ⟨_, rfl⟩;rw [← fp] at Im;have YB : IntKind.u64.wrap (q * b) = P := by rw [← fp, IntKind.wrap_u64]; omega
          have r8 := Lib.hid fp;clear fp
          by_cases ak : 4294967296 * r + e < P
          · obtain ⟨gr, fJ⟩ := aF.down mf.out (.inr (by rw [← r8.out]; exact ak))
            have nn := Lib.hid gr;clear gr
            by_cases aa : 4294967296 ≤ r + a
            · have jk := nn.out.out mf.out aa
              rw [yX.out] at jk;have mH := Lib.hid jk;clear jk
              go_wp2_with fail
              go_meet
              exact ⟨rfl, congrArg _ mH.out, _, rfl⟩
            · go_wp2_with fail
              go_round
              case rel => exact ⟨_, _, rfl, rfl, nn.out, by omega⟩
              case measure => simp [intOf]; omega
          · have jk := aF.done mf.out (by rw [← r8.out]; omega)
            rw [yX.out] at jk;have mH := Lib.hid jk;clear jk
            go_wp2_with fail
            go_meet
            exact ⟨rfl, congrArg _ mH.out, _, rfl⟩
    case rest =>
      obtain ⟨rfl, rfl, cJ, rfl⟩ := hcut;have Bn := Tv.out;rw [yX.out] at Bn;have fin := yW.out;have Hm := Tt.out;rw [yX.out] at fin;rw [← fin.2] at Hm;have To := Lib.hid fin.1;have Tp := Lib.hid Hm;generalize iA lL e a b = R at *;clear fin Hm
      go_wp2
      go_ret2
      exact ⟨afn To.out Tp.out, Below.refl _ _⟩
theorem G5 (hi lo y : Int) (w : World) (aJ : 0 ≤ hi) (h1 : hi < y) (l : 0 ≤ lo ∧ lo < 18446744073709551616) (l8 : y < 18446744073709551616) :
    Calls aj 301 #[.int .u64 hi, .int .u64 lo, .int .u64 y] w (Cv ((hi * 18446744073709551616 + lo) / y) ((hi * 18446744073709551616 + lo) % y) w) := by
  by_cases h : hi = 0
  · subst h
    rw [Int.zero_mul, Int.zero_add];exact WE lo y w l (by omega) l8
  · exact WD hi lo y w (by omega) h1 l l8
end Go.Proofs.YtpochbhajmbfdaaGreat
namespace Go.Proofs.YtpochbhajmbfdaaGreat
open Go.RowKit
theorem XF (x y : Int) (w : World) : (Instr.field 311 (.agg #[.int .u64 x, .int .u64 y]) 0).run aj w = .ok (.int .u64 x) w := by kernel_rfl
attribute [local go_sem] XF
def TT (q : Int) (w : World) (e : Ending) (w' : World) : Prop := ∃ g : Int, e = .returned (.int .u64 g) ∧ (0 ≤ g ∧ g ≤ q ∧ q ≤ g + 1 ∧ g < 18446744073709551616) ∧ Below w.heap.size w w'
theorem Yh (h1 l1 n h2 l2 m : Int) (w : World) (H1 : cP h1 l1 n) (bZ : cP h2 l2 m) (aD : n ≤ 170141183460469231731687303715884105728) (hm : h2 ≠ 0) :
    Calls aj 302 #[.agg #[.int .u64 h1, .int .u64 l1], .agg #[.int .u64 h2, .int .u64 l2]] w (TT (n / m) w) := by
  obtain ⟨b1, b2, aG⟩ := id H1;obtain ⟨ey, dQ, aM⟩ := id bZ
  go_enter Tryz.func302, Tryz.ntmps302
  go_wp2_with fail
  refine (Py h2 _ (by omega) (by omega)).mono ?_;rintro e aT ⟨s, rfl, hs, rfl⟩;have qt := hs.eH; have o7 := hs.s1;have aak : IntKind.u64.wrap s = s := by rw [IntKind.wrap_u64]; omega
  go_wp2_with fail
  obtain ⟨BB, FE⟩ := ab4 hs ey.1 dQ.1 dQ.2;rw [← aM] at BB FE;refine (R6 _ _ m s _ bZ qt (by omega) BB).mono ?_;rintro e aT ⟨T, low, rfl, ee, bE⟩;have gI : ah aT (w.heap.size) (.int .u64 h1) (.int .u64 l1) := (by (repeat first | focus ((with_reducible refine ah.new ?_); simp; done) | with_reducible refine ah.alloc ?_ _ | with_reducible refine ah.call ?_ bE)); obtain ⟨⟨mi, mj⟩, mm, mn⟩ := id gI; have jV : ah aT (w.heap.size + 1) (.int .u64 h2) (.int .u64 l2) := (by (repeat first | focus ((with_reducible refine ah.new ?_); simp; done) | with_reducible refine ah.call ?_ bE)); obtain ⟨⟨pX, p6⟩, qc, qe⟩ := id jV; have mY := Below.size bE; (try simp at mY); have uP : ¬ aT.heap.size = w.heap.size := (by omega); have wD : ¬ aT.heap.size = w.heap.size + 1 := (by omega); have ub : ¬ w.heap.size = aT.heap.size := (by omega); have vL : ¬ w.heap.size + 1 = aT.heap.size := (by omega); have uL : w.heap.size < aT.heap.size := (by omega); have wz : w.heap.size + 1 < aT.heap.size := (by omega);obtain ⟨Vr, tP, MI⟩ := ee;have YE : 9223372036854775808 ≤ T := by omega
  obtain ⟨L, gY, Yz, Nw⟩ := YL h1 l1 b1 b2;have ax := Yl n m s T low (by omega) aD qt o7 MI tP.1 tP.2 YE;have aW : h1 / 2 < T := by omega
  have hdiv : Hid (∀ w, Calls aj 301 #[.int .u64 (h1 / 2), .int .u64 L, .int .u64 T] w (Cv (n / 2 / T) ((h1 / 2 * 18446744073709551616 + L) % T) w)) := fun w => by
    rw [aG, ← Nw];exact G5 (h1 / 2) L T w (by omega) aW Yz Vr.2
  have uD : 0 ≤ n / 2 / T := qE (by omega) (by omega);have Ac : 0 ≤ n / m := qE (by omega) (by omega);generalize n / 2 / T = Q at *;generalize n / m = q at *;clear BB FE Nw aG aM MI aD hm H1 bZ;obtain ⟨aiY, aiZ, ai0⟩ := ax
  go_wp2_with fail
  refine (hdiv.out _).mono ?_;rintro e w2 ⟨rfl, b7⟩
  go_wp2_with fail
  · have ca : (Q / 2 ^ (63 - s).toNat != 0) = true := by assumption
    go_ret
    refine ⟨_, rfl, ?_, by (repeat first | with_reducible exact Below.refl _ _ | with_reducible refine c7 ?_ _ | with_reducible refine cc ?_ b7 | with_reducible refine cc ?_ bE)⟩;generalize Q / 2 ^ (63 - s).toNat = G at *;rw [bne_iff_ne] at ca
    first | (rw [IntKind.wrap_u64]; omega) | omega
  · have ca : (Q / 2 ^ (63 - s).toNat != 0) = false := by assumption
    go_ret
    refine ⟨_, rfl, ?_, by (repeat first | with_reducible exact Below.refl _ _ | with_reducible refine c7 ?_ _ | with_reducible refine cc ?_ b7 | with_reducible refine cc ?_ bE)⟩;generalize Q / 2 ^ (63 - s).toNat = G at *;rw [bne_eq_false_iff_eq] at ca;omega
def Gq (q r : Int) (w : World) (e : Ending) (w' : World) : Prop := ∃ a b c d : Int, e = .returned (.tuple #[.agg #[.int .u64 a, .int .u64 b], .agg #[.int .u64 c, .int .u64 d]]) ∧ cP a b q ∧ cP c d r ∧ Below w.heap.size w w'
theorem WJ {h1 l1 n m : Int} (H1 : cP h1 l1 n) (m0 : 0 < m) (m1 : m < 18446744073709551616) :
    cP (h1 / m) ((h1 % m * 18446744073709551616 + l1) / m) (n / m) ∧ cP 0 ((h1 % m * 18446744073709551616 + l1) % m) (n % m) := by
  obtain ⟨b1, b2, rfl⟩ := H1;have iD := pz h1 (show m ≠ 0 by omega);have cN := oE h1 m0
  have e : h1 * 18446744073709551616 + l1 = (h1 % m * 18446744073709551616 + l1) + m * (h1 / m * 18446744073709551616) := by
    have := ti h1 m;rw [← lD];generalize m * (h1 / m) = k at *;omega
  have db : 0 ≤ h1 / m := qE b1.1 (by omega);have q1 : h1 / m ≤ h1 := Int.ediv_le_self _ b1.1;have eH := pz (h1 % m * 18446744073709551616 + l1) (show m ≠ 0 by omega);have s1 := oE (h1 % m * 18446744073709551616 + l1) m0;have t0 : 0 ≤ (h1 % m * 18446744073709551616 + l1) / m := qE (by omega) (by omega);have t1 : (h1 % m * 18446744073709551616 + l1) / m < 18446744073709551616 := Int.ediv_lt_of_lt_mul m0 (by omega)
  constructor
  · refine ⟨by omega, by omega, ?_⟩
    rw [e, Int.add_mul_ediv_left _ _ (by omega)];omega
  · refine ⟨by omega, by omega, ?_⟩
    rw [e, Int.add_mul_emod_self_left];omega
theorem WI (h1 l1 n l2 : Int) (w : World) (H1 : cP h1 l1 n) (bZ : cP 0 l2 l2) (m0 : 0 < l2) :
    Calls aj 298 #[.agg #[.int .u64 h1, .int .u64 l1], .agg #[.int .u64 0, .int .u64 l2]] w (Gq (n / l2) (n % l2) w) := by
  have m1 : l2 < 18446744073709551616 := bZ.2.1.2;have hd := WJ H1 m0 m1;have nn := Lib.hid hd;have b1 := H1.1; have b2 := H1.2.1;have iD := pz h1 (show l2 ≠ 0 by omega);have cN := oE h1 m0;clear hd
  go_enter Tryz.func298, Tryz.ntmps298
  go_wp2_with fail
  refine (G5 0 h1 l2 _ (by omega) m0 b1 m1).mono ?_;rintro e aT ⟨rfl, bE⟩;rw [Int.zero_mul, Int.zero_add];have gI : ah aT (w.heap.size) (.int .u64 h1) (.int .u64 l1) := (by (repeat first | focus ((with_reducible refine ah.new ?_); simp; done) | with_reducible refine ah.alloc ?_ _ | with_reducible refine ah.call ?_ bE)); obtain ⟨⟨mi, mj⟩, mm, mn⟩ := id gI; have jV : ah aT (w.heap.size + 1) (.int .u64 0) (.int .u64 l2) := (by (repeat first | focus ((with_reducible refine ah.new ?_); simp; done) | with_reducible refine ah.alloc ?_ _ | with_reducible refine ah.call ?_ bE)); obtain ⟨⟨pX, p6⟩, qc, qe⟩ := id jV; have pJ : ah aT (w.heap.size + 1 + 1) (.int .u64 0) (.int .u64 0) := (by (repeat first | focus ((with_reducible refine ah.new ?_); simp; done) | with_reducible refine ah.alloc ?_ _ | with_reducible refine ah.call ?_ bE)); obtain ⟨⟨xv, xC⟩, xH, xM⟩ := id pJ; have rZ : ah aT (w.heap.size + 1 + 1 + 1) (.int .u64 0) (.int .u64 0) := (by (repeat first | focus ((with_reducible refine ah.new ?_); simp; done) | with_reducible refine ah.call ?_ bE)); obtain ⟨⟨zn, zv⟩, zH, zM⟩ := id rZ; have mY := Below.size bE; (try simp at mY); have uP : ¬ aT.heap.size = w.heap.size := (by omega); have wD : ¬ aT.heap.size = w.heap.size + 1 := (by omega); have A3 : ¬ aT.heap.size = w.heap.size + 1 + 1 := (by omega); have P4 : ¬ aT.heap.size = w.heap.size + 1 + 1 + 1 := (by omega); have ub : ¬ w.heap.size = aT.heap.size := (by omega); have vL : ¬ w.heap.size + 1 = aT.heap.size := (by omega); have zB : ¬ w.heap.size + 1 + 1 = aT.heap.size := (by omega); have MS : ¬ w.heap.size + 1 + 1 + 1 = aT.heap.size := (by omega); have uL : w.heap.size < aT.heap.size := (by omega); have wz : w.heap.size + 1 < aT.heap.size := (by omega); have AV : w.heap.size + 1 + 1 < aT.heap.size := (by omega); have Pt : w.heap.size + 1 + 1 + 1 < aT.heap.size := (by omega);generalize h1 % l2 = R at *;generalize h1 / l2 = Q at *
  go_wp2_with fail
  refine (G5 R l1 l2 _ iD cN b2 m1).mono ?_;rintro e w2 ⟨rfl, b7⟩;have jy : ah w2 (w.heap.size) (.int .u64 h1) (.int .u64 l1) := (by (repeat first | with_reducible assumption | with_reducible refine ah.call ?_ b7)); obtain ⟨⟨pY, p7⟩, qd, qf⟩ := id jy; have ma : ah w2 (w.heap.size + 1) (.int .u64 0) (.int .u64 l2) := (by (repeat first | with_reducible assumption | with_reducible refine ah.call ?_ b7)); obtain ⟨⟨tQ, tY⟩, ue, uj⟩ := id ma; have mb : ah w2 (w.heap.size + 1 + 1) (.int .u64 0) (.int .u64 0) := (by (repeat first | with_reducible assumption | with_reducible refine ah.call ?_ b7)); obtain ⟨⟨tR, tZ⟩, uf, uk⟩ := id mb; have r0 : ah w2 (w.heap.size + 1 + 1 + 1) (.int .u64 0) (.int .u64 0) := (by (repeat first | with_reducible assumption | with_reducible refine ah.call ?_ b7)); obtain ⟨⟨zo, zw⟩, zI, zN⟩ := id r0; have oq := Below.size b7; (try simp at oq); have yl : ¬ w2.heap.size = w.heap.size := (by omega); have A4 : ¬ w2.heap.size = w.heap.size + 1 := (by omega); have EP : ¬ w2.heap.size = w.heap.size + 1 + 1 := (by omega); have P5 : ¬ w2.heap.size = w.heap.size + 1 + 1 + 1 := (by omega); have xF : ¬ w.heap.size = w2.heap.size := (by omega); have zC : ¬ w.heap.size + 1 = w2.heap.size := (by omega); have Dc : ¬ w.heap.size + 1 + 1 = w2.heap.size := (by omega); have MT : ¬ w.heap.size + 1 + 1 + 1 = w2.heap.size := (by omega); have yg : w.heap.size < w2.heap.size := (by omega); have AW : w.heap.size + 1 < w2.heap.size := (by omega); have ED : w.heap.size + 1 + 1 < w2.heap.size := (by omega); have Pu : w.heap.size + 1 + 1 + 1 < w2.heap.size := (by omega);generalize (R * 18446744073709551616 + l1) / l2 = np at *;generalize (R * 18446744073709551616 + l1) % l2 = eZ at *
  go_wp2_with fail
  refine bodyPost_ret (v := .tuple #[.agg #[.int .u64 Q, .int .u64 np], .agg #[.int .u64 0, .int .u64 eZ]]) (by simp only [results, Tryz.results298]; go_simp) rfl ⟨_, _, _, _, rfl, nn.out.1, nn.out.2, ?_⟩;(repeat first | with_reducible exact Below.refl _ _ | with_reducible refine c7 ?_ _ | focus ((with_reducible refine eV ?_ _ _ _ ?_); rotate_left; omega) | with_reducible refine cc ?_ b7 | with_reducible refine cc ?_ bE)
end Go.Proofs.YtpochbhajmbfdaaGreat
namespace Go.Proofs.YtpochbhajmbfdaaGreat
open Go.RowKit
theorem Yi {n m g : Int} (nc : 0 ≤ n) (m0 : 0 < m) (fT : n < 340282366920938463463374607431768211456) (h : g ≤ n / m) (g0 : 0 ≤ g) : lm (g * m) = true ∧ g * m ≤ n := by
  have h1 : g * m ≤ n := (qG m0).1 h;unfold lm;rw [cL];exact ⟨by omega, h1⟩
theorem Yj {n m g : Int} (m0 : 0 < m) (h : g ≤ n / m) (k : n - g * m < m) : g = n / m ∧ n - g * m = n % m := by
  have h1 : g * m ≤ n := (qG m0).1 h;have h2 : n / m < g + 1 := Int.ediv_lt_of_lt_mul m0 (by rw [Int.add_mul]; omega);have e : g = n / m := by omega
  refine ⟨e, ?_⟩;rw [Int.emod_def, e, kf]
theorem Yk {n m g : Int} (m0 : 0 < m) (h : n / m ≤ g + 1) (k : ¬ n - g * m < m) : g + 1 = n / m ∧ n - g * m - m = n % m := by
  have h2 : g + 1 ≤ n / m := (qG m0).2 (by rw [Int.add_mul]; omega);have e : g + 1 = n / m := by omega
  refine ⟨e, ?_⟩;rw [Int.emod_def, ← e, kf m, Int.add_mul];omega
theorem afc {n m g : Int} (nc : 0 ≤ n) (aD : n ≤ 170141183460469231731687303715884105728) (m0 : 18446744073709551616 ≤ m) (h : g ≤ n / m) : g < 9223372036854775809 := by
  rcases qD g 9223372036854775809 with k | k
  · exact k
  · have h1 : g * m ≤ n := (qG (by omega)).1 h
    have h2 : 9223372036854775809 * 18446744073709551616 ≤ g * m := tk k m0 (by omega) (by omega);omega
theorem WH (h1 l1 n h2 l2 m : Int) (w : World) (H1 : cP h1 l1 n) (bZ : cP h2 l2 m) (aD : n ≤ 170141183460469231731687303715884105728) (hm : h2 ≠ 0) :
    Calls aj 298 #[.agg #[.int .u64 h1, .int .u64 l1], .agg #[.int .u64 h2, .int .u64 l2]] w (Gq (n / m) (n % m) w) := by
  have nc : 0 ≤ n := by have := H1; unfold cP at this; omega
  have m0 : 0 < m := by have := bZ; unfold cP at this; omega
  have akj : (h2 == 0) = false := by simpa using hm
  go_enter Tryz.func298, Tryz.ntmps298
  go_wp2_with fail
  refine (Yh _ _ _ _ _ _ _ H1 bZ aD hm).mono ?_;rintro e aT ⟨g, rfl, ⟨g0, g1, g2, g3⟩, bE⟩;have gI : ah aT (w.heap.size) (.int .u64 h1) (.int .u64 l1) := (by (repeat first | focus ((with_reducible refine ah.new ?_); simp; done) | with_reducible refine ah.alloc ?_ _ | with_reducible refine ah.call ?_ bE)); obtain ⟨⟨mi, mj⟩, mm, mn⟩ := id gI; have jV : ah aT (w.heap.size + 1) (.int .u64 h2) (.int .u64 l2) := (by (repeat first | focus ((with_reducible refine ah.new ?_); simp; done) | with_reducible refine ah.alloc ?_ _ | with_reducible refine ah.call ?_ bE)); obtain ⟨⟨pX, p6⟩, qc, qe⟩ := id jV; have pJ : ah aT (w.heap.size + 1 + 1) (.int .u64 0) (.int .u64 0) := (by (repeat first | focus ((with_reducible refine ah.new ?_); simp; done) | with_reducible refine ah.alloc ?_ _ | with_reducible refine ah.call ?_ bE)); obtain ⟨⟨xv, xC⟩, xH, xM⟩ := id pJ; have rZ : ah aT (w.heap.size + 1 + 1 + 1) (.int .u64 0) (.int .u64 0) := (by (repeat first | focus ((with_reducible refine ah.new ?_); simp; done) | with_reducible refine ah.call ?_ bE)); obtain ⟨⟨zn, zv⟩, zH, zM⟩ := id rZ; have mY := Below.size bE; (try simp at mY); have uP : ¬ aT.heap.size = w.heap.size := (by omega); have wD : ¬ aT.heap.size = w.heap.size + 1 := (by omega); have A3 : ¬ aT.heap.size = w.heap.size + 1 + 1 := (by omega); have P4 : ¬ aT.heap.size = w.heap.size + 1 + 1 + 1 := (by omega); have ub : ¬ w.heap.size = aT.heap.size := (by omega); have vL : ¬ w.heap.size + 1 = aT.heap.size := (by omega); have zB : ¬ w.heap.size + 1 + 1 = aT.heap.size := (by omega); have MS : ¬ w.heap.size + 1 + 1 + 1 = aT.heap.size := (by omega); have uL : w.heap.size < aT.heap.size := (by omega); have wz : w.heap.size + 1 < aT.heap.size := (by omega); have AV : w.heap.size + 1 + 1 < aT.heap.size := (by omega); have Pt : w.heap.size + 1 + 1 + 1 < aT.heap.size := (by omega);have rf : cP 0 g g := by unfold cP; omega
  obtain ⟨X9, Ya⟩ := Yi nc m0 (by omega) g1 g0;have Ik := Yj m0 g1;have Io := Yk m0 g2;generalize NV : g * m = Hw at *;have g4 : g < 9223372036854775809 := afc nc aD (by have := bZ; unfold cP at this; omega) g1;clear hm
  go_wp2_with fail
  refine (PZ _ _ _ _ _ _ _ rf bZ).mono ?_;rw [NV];rintro e w2 ⟨ph, pl, rfl, hp, b7⟩;rw [if_pos X9] at hp;clear NV;have jy : ah w2 (w.heap.size) (.int .u64 h1) (.int .u64 l1) := (by (repeat first | with_reducible assumption | with_reducible refine ah.call ?_ b7)); obtain ⟨⟨pY, p7⟩, qd, qf⟩ := id jy; have ma : ah w2 (w.heap.size + 1) (.int .u64 h2) (.int .u64 l2) := (by (repeat first | with_reducible assumption | with_reducible refine ah.call ?_ b7)); obtain ⟨⟨tQ, tY⟩, ue, uj⟩ := id ma; have mb : ah w2 (w.heap.size + 1 + 1) (.int .u64 0) (.int .u64 0) := (by (repeat first | with_reducible assumption | with_reducible refine ah.call ?_ b7)); obtain ⟨⟨tR, tZ⟩, uf, uk⟩ := id mb; have r0 : ah w2 (w.heap.size + 1 + 1 + 1) (.int .u64 0) (.int .u64 0) := (by (repeat first | with_reducible assumption | with_reducible refine ah.call ?_ b7)); obtain ⟨⟨zo, zw⟩, zI, zN⟩ := id r0; have oq := Below.size b7; (try simp at oq); have yl : ¬ w2.heap.size = w.heap.size := (by omega); have A4 : ¬ w2.heap.size = w.heap.size + 1 := (by omega); have EP : ¬ w2.heap.size = w.heap.size + 1 + 1 := (by omega); have P5 : ¬ w2.heap.size = w.heap.size + 1 + 1 + 1 := (by omega); have xF : ¬ w.heap.size = w2.heap.size := (by omega); have zC : ¬ w.heap.size + 1 = w2.heap.size := (by omega); have Dc : ¬ w.heap.size + 1 + 1 = w2.heap.size := (by omega); have MT : ¬ w.heap.size + 1 + 1 + 1 = w2.heap.size := (by omega); have yg : w.heap.size < w2.heap.size := (by omega); have AW : w.heap.size + 1 < w2.heap.size := (by omega); have ED : w.heap.size + 1 + 1 < w2.heap.size := (by omega); have Pu : w.heap.size + 1 + 1 + 1 < w2.heap.size := (by omega);clear gI mi mj mm mn jV pX p6 qc qe pJ xv xC xH xM rZ zn zv zH zM uP ub uL wD vL wz A3 zB AV P4 MS Pt
  go_wp2_with fail
  refine (Sg _ _ _ _ _ _ _ H1 hp Ya).mono ?_;rintro e w3 ⟨jO, jP, rfl, al, c9⟩;have mc : ah w3 (w.heap.size) (.int .u64 h1) (.int .u64 l1) := (by (repeat first | with_reducible assumption | with_reducible refine ah.alloc ?_ _ | with_reducible refine ah.call ?_ c9)); obtain ⟨⟨xw, xD⟩, xI, xN⟩ := id mc; have r3 : ah w3 (w.heap.size + 1) (.int .u64 h2) (.int .u64 l2) := (by (repeat first | with_reducible assumption | with_reducible refine ah.alloc ?_ _ | with_reducible refine ah.call ?_ c9)); obtain ⟨⟨CW, C8⟩, Dp, Dz⟩ := id r3; have w8 : ah w3 (w.heap.size + 1 + 1) (.int .u64 0) (.int .u64 0) := (by (repeat first | with_reducible assumption | with_reducible refine ah.alloc ?_ _ | with_reducible refine ah.call ?_ c9)); obtain ⟨⟨GS, G3⟩, Hj, Hu⟩ := id w8; have KK : ah w3 (w.heap.size + 1 + 1 + 1) (.int .u64 0) (.int .u64 0) := (by (repeat first | with_reducible assumption | with_reducible refine ah.alloc ?_ _ | with_reducible refine ah.call ?_ c9)); obtain ⟨⟨VN, Wv⟩, Xz, X2⟩ := id KK; have sU := Below.size c9; (try simp at sU); have A5 : ¬ w3.heap.size = w.heap.size := (by omega); have EQ : ¬ w3.heap.size = w.heap.size + 1 := (by omega); have JC : ¬ w3.heap.size = w.heap.size + 1 + 1 := (by omega); have acL : ¬ w3.heap.size = w.heap.size + 1 + 1 + 1 := (by omega); have zD : ¬ w.heap.size = w3.heap.size := (by omega); have Dd : ¬ w.heap.size + 1 = w3.heap.size := (by omega); have Hd : ¬ w.heap.size + 1 + 1 = w3.heap.size := (by omega); have W7 : ¬ w.heap.size + 1 + 1 + 1 = w3.heap.size := (by omega); have AX : w.heap.size < w3.heap.size := (by omega); have EE : w.heap.size + 1 < w3.heap.size := (by omega); have Je : w.heap.size + 1 + 1 < w3.heap.size := (by omega); have ab0 : w.heap.size + 1 + 1 + 1 < w3.heap.size := (by omega);clear jy pY p7 qd qf ma tQ tY ue uj mb tR tZ uf uk r0 zo zw zI zN yl xF yg A4 zC AW EP Dc ED P5 MT Pu
  go_wp2_with fail
  refine (abT _ _ _ _ _ _ _ al bZ).mono ?_;rintro e fD ⟨rfl, fa⟩;have ada : ¬ w.heap.size + 1 + 1 + 1 = w.heap.size := by omega
  have ac9 : ¬ w.heap.size + 1 + 1 = w.heap.size := by omega
  have B0 : ah fD (w.heap.size) (.int .u64 h1) (.int .u64 l1) := (by (repeat first | with_reducible assumption | focus ((with_reducible refine ah.set ?_ _ ?_); rotate_left; omega) | with_reducible refine ah.call ?_ fa)); obtain ⟨⟨L6, Mx⟩, M4, Nj⟩ := id B0; have B1 : ah fD (w.heap.size + 1) (.int .u64 h2) (.int .u64 l2) := (by (repeat first | with_reducible assumption | focus ((with_reducible refine ah.set ?_ _ ?_); rotate_left; omega) | with_reducible refine ah.call ?_ fa)); obtain ⟨⟨L7, My⟩, M5, Nk⟩ := id B1; have B2 : ah fD (w.heap.size + 1 + 1) (.int .u64 0) (.int .u64 0) := (by (repeat first | with_reducible assumption | focus ((with_reducible refine ah.set ?_ _ ?_); rotate_left; omega) | with_reducible refine ah.call ?_ fa)); obtain ⟨⟨L8, Mz⟩, M6, Nl⟩ := id B2; have KL : ah fD (w.heap.size + 1 + 1 + 1) (.int .u64 jO) (.int .u64 jP) := (by (repeat first | with_reducible refine ah.put ?_ | focus ((with_reducible apply fE.of); with_reducible assumption) | with_reducible refine ah.call ?_ fa)); obtain ⟨⟨VR, Wz⟩, XD, X6⟩ := id KL; have IP := Below.size fa; (try simp at IP); have P6 : ¬ fD.heap.size = w.heap.size := (by omega); have P7 : ¬ fD.heap.size = w.heap.size + 1 := (by omega); have acM : ¬ fD.heap.size = w.heap.size + 1 + 1 := (by omega); have acN : ¬ fD.heap.size = w.heap.size + 1 + 1 + 1 := (by omega); have MU : ¬ w.heap.size = fD.heap.size := (by omega); have MV : ¬ w.heap.size + 1 = fD.heap.size := (by omega); have W8 : ¬ w.heap.size + 1 + 1 = fD.heap.size := (by omega); have W9 : ¬ w.heap.size + 1 + 1 + 1 = fD.heap.size := (by omega); have Pv : w.heap.size < fD.heap.size := (by omega); have Pw : w.heap.size + 1 < fD.heap.size := (by omega); have ab1 : w.heap.size + 1 + 1 < fD.heap.size := (by omega); have ab2 : w.heap.size + 1 + 1 + 1 < fD.heap.size := (by omega);clear mc xw xD xI xN r3 CW C8 Dp Dz w8 GS G3 Hj Hu KK VN Wv Xz X2 A5 zD AX EQ Dd EE JC Hd Je acL W7 ab0
  by_cases ap : n - Hw < m
  · obtain ⟨q1, q2⟩ := Ik (by omega)
    have yW := Lib.hid q1; have Gd := Lib.hid q2;clear Ik Io q1 q2
    go_wp2_with fail
    go_region
    all_goals
      go_wp2_with fail
      refine zk ?_; intro kO iN; have rX : ah kO (w.heap.size + 1 + 1) (.int .u64 0) (.int .u64 g) := (by rw [iN]; (repeat first | with_reducible refine ah.drew ?_ | with_reducible refine ah.put ?_ | focus ((with_reducible refine ah.set ?_ _ ?_); rotate_left; omega) | focus ((with_reducible apply fE.of); with_reducible assumption))); obtain ⟨⟨CS, C6⟩, Dk, Dx⟩ := id rX; have rY : ah kO (w.heap.size + 1 + 1 + 1) (.int .u64 jO) (.int .u64 jP) := (by rw [iN]; (repeat first | with_reducible refine ah.drew ?_ | with_reducible refine ah.put ?_ | focus ((with_reducible apply fE.of); with_reducible assumption) | with_reducible refine fE.set ?_ _ _)); obtain ⟨⟨CT, C7⟩, Dl, Dy⟩ := id rY; have oZ : Below w.heap.size w kO := (by rw [iN]; (repeat first | with_reducible exact Below.refl _ _ | with_reducible refine c7 ?_ _ | focus ((with_reducible refine eV ?_ _ _ _ ?_); rotate_left; omega) | with_reducible refine Below.drew ?_ | with_reducible refine cc ?_ fa | with_reducible refine cc ?_ c9 | with_reducible refine cc ?_ b7 | with_reducible refine cc ?_ bE)); clear iN;exact bodyPost_ret (v := .tuple #[.agg #[.int .u64 0, .int .u64 g], .agg #[.int .u64 jO, .int .u64 jP]]) (by simp only [results, Tryz.results298]; go_simp) rfl ⟨_, _, _, _, rfl, rf.conv yW.out, al.conv Gd.out, oZ⟩
  · obtain ⟨q1, q2⟩ := Io (by omega)
    have yW := Lib.hid q1; have Gd := Lib.hid q2;have Yu : cP 0 (g + 1) (g + 1) := by unfold cP; omega
    have wm : Hid (∀ w, Calls aj 303 #[.agg #[.int .u64 jO, .int .u64 jP], .agg #[.int .u64 h2, .int .u64 l2]] w (aN (n - Hw - m) w)) := fun w => Sg _ _ _ _ _ _ w al bZ (by omega);have fb : decide (n - Hw < m) = false := b5 (by omega);clear Ik Io q1 q2 ap
    go_wp2_with fail
    refine (wm.out _).mono ?_;rintro e jc ⟨Kt, Ku, rfl, aF, hX⟩;have SY : ah jc (w.heap.size) (.int .u64 h1) (.int .u64 l1) := (by (repeat first | with_reducible assumption | with_reducible refine ah.call ?_ hX)); obtain ⟨⟨ahN, ah4⟩, aiv, aiJ⟩ := id SY; have SZ : ah jc (w.heap.size + 1) (.int .u64 h2) (.int .u64 l2) := (by (repeat first | with_reducible assumption | with_reducible refine ah.call ?_ hX)); obtain ⟨⟨ahO, ah5⟩, aiw, aiK⟩ := id SZ; have S0 : ah jc (w.heap.size + 1 + 1) (.int .u64 0) (.int .u64 0) := (by (repeat first | with_reducible assumption | with_reducible refine ah.call ?_ hX)); obtain ⟨⟨ahP, ah6⟩, aix, aiL⟩ := id S0; have S1 : ah jc (w.heap.size + 1 + 1 + 1) (.int .u64 jO) (.int .u64 jP) := (by (repeat first | with_reducible assumption | with_reducible refine ah.call ?_ hX)); obtain ⟨⟨ahQ, ah7⟩, aiy, aiM⟩ := id S1; have aas := Below.size hX; (try simp at aas); have aj9 : ¬ jc.heap.size = w.heap.size := (by omega); have aka : ¬ jc.heap.size = w.heap.size + 1 := (by omega); have akb : ¬ jc.heap.size = w.heap.size + 1 + 1 := (by omega); have akc : ¬ jc.heap.size = w.heap.size + 1 + 1 + 1 := (by omega); have aif : ¬ w.heap.size = jc.heap.size := (by omega); have aih : ¬ w.heap.size + 1 = jc.heap.size := (by omega); have aii : ¬ w.heap.size + 1 + 1 = jc.heap.size := (by omega); have aij : ¬ w.heap.size + 1 + 1 + 1 = jc.heap.size := (by omega); have ajK : w.heap.size < jc.heap.size := (by omega); have ajL : w.heap.size + 1 < jc.heap.size := (by omega); have ajM : w.heap.size + 1 + 1 < jc.heap.size := (by omega); have ajN : w.heap.size + 1 + 1 + 1 < jc.heap.size := (by omega);clear B0 L6 Mx M4 Nj B1 L7 My M5 Nk B2 L8 Mz M6 Nl KL VR Wz XD X6 P6 MU Pv P7 MV Pw acM W8 ab1 acN W9 ab2
    go_wp2_with fail
    go_region
    all_goals
      go_wp2_with fail
      refine zk ?_; intro kO iN; have rX : ah kO (w.heap.size + 1 + 1) (.int .u64 0) (.int .u64 (g + 1)) := (by rw [iN]; (repeat first | with_reducible refine ah.drew ?_ | with_reducible refine ah.put ?_ | focus ((with_reducible refine ah.set ?_ _ ?_); rotate_left; omega) | focus ((with_reducible apply fE.of); with_reducible assumption) | with_reducible refine fE.set ?_ _ _)); obtain ⟨⟨CS, C6⟩, Dk, Dx⟩ := id rX; have rY : ah kO (w.heap.size + 1 + 1 + 1) (.int .u64 Kt) (.int .u64 Ku) := (by rw [iN]; (repeat first | with_reducible refine ah.drew ?_ | with_reducible refine ah.put ?_ | focus ((with_reducible apply fE.of); with_reducible assumption) | with_reducible refine fE.set ?_ _ _)); obtain ⟨⟨CT, C7⟩, Dl, Dy⟩ := id rY; have oZ : Below w.heap.size w kO := (by rw [iN]; (repeat first | with_reducible exact Below.refl _ _ | with_reducible refine c7 ?_ _ | focus ((with_reducible refine eV ?_ _ _ _ ?_); rotate_left; omega) | with_reducible refine Below.drew ?_ | with_reducible refine cc ?_ hX | with_reducible refine cc ?_ fa | with_reducible refine cc ?_ c9 | with_reducible refine cc ?_ b7 | with_reducible refine cc ?_ bE)); clear iN;exact bodyPost_ret (v := .tuple #[.agg #[.int .u64 0, .int .u64 (g + 1)], .agg #[.int .u64 Kt, .int .u64 Ku]]) (by simp only [results, Tryz.results298]; go_simp) rfl ⟨_, _, _, _, rfl, Yu.conv yW.out, aF.conv Gd.out, oZ⟩
theorem WG (h1 l1 n h2 l2 m : Int) (w : World) (H1 : cP h1 l1 n) (bZ : cP h2 l2 m) (aD : n ≤ 170141183460469231731687303715884105728) (m0 : 0 < m) :
    Calls aj 298 #[.agg #[.int .u64 h1, .int .u64 l1], .agg #[.int .u64 h2, .int .u64 l2]] w (Gq (n / m) (n % m) w) := by
  by_cases k : h2 = 0
  · subst k
    obtain ⟨a, b, e⟩ := id bZ;rw [Int.zero_mul, Int.zero_add] at e;subst e;exact WI h1 l1 n m w H1 bZ m0
  · exact WH h1 l1 n h2 l2 m w H1 bZ aD k
end Go.Proofs.YtpochbhajmbfdaaGreat
namespace Go.Proofs.YtpochbhajmbfdaaGreat
open Go.RowKit
def Ti (w : World) (Q R : Int) (a b c d : Value) (wU Ke : Value) (fM : World) : Prop :=
 ∃ (g7 g8 : Nat) (Bi Bj jO jP : Int), wU = .pointer (some ⟨g7, 0, none⟩) ∧ Ke = .pointer (some ⟨g8, 0, none⟩) ∧ w.heap.size + 4 ≤ g7 ∧ w.heap.size + 4 ≤ g8 ∧ cP Bi Bj Q ∧ cP jO jP R ∧
  ah fM g7 (.int .u64 Bi) (.int .u64 Bj) ∧ ah fM g8 (.int .u64 jO) (.int .u64 jP) ∧ ah fM w.heap.size a b ∧ ah fM (w.heap.size + 1) c d ∧ ah fM (w.heap.size + 1 + 1) (.int .i64 0) (.int .u64 0) ∧ ah fM (w.heap.size + 1 + 1 + 1) (.int .i64 0) (.int .u64 0) ∧ Below w.heap.size w fM
theorem abp {W : World} {b bR : Nat} {u v k8 a7 : Value} (h : ah W b u v) (k : ah W bR k8 a7) : (W.cell? ⟨b, 0, none⟩ = some u ∧ W.cell? ⟨b, 1, none⟩ = some v) ∧ (W.cell? ⟨bR, 0, none⟩ = some k8 ∧ W.cell? ⟨bR, 1, none⟩ = some a7) := ⟨h.1, k.1⟩
theorem Eu {W : World} {b bR GK : Nat} {u v k8 a7 Sw Sy : Value} (h : ah W b u v) (k : ah W bR k8 a7) (l : ah W GK Sw Sy) : (W.cell? ⟨b, 0, none⟩ = some u ∧ W.cell? ⟨b, 1, none⟩ = some v) ∧ (W.cell? ⟨bR, 0, none⟩ = some k8 ∧ W.cell? ⟨bR, 1, none⟩ = some a7) ∧ (W.cell? ⟨GK, 0, none⟩ = some Sw ∧ W.cell? ⟨GK, 1, none⟩ = some Sy) := ⟨h.1, k.1, l.1⟩
def Th (w : World) (x y : Int) (fM : World) : Prop := ∃ c1 c2 aG aM : Int, bz c1 c2 x ∧ bz aG aM y ∧ ah fM (w.heap.size + 1 + 1) (.int .i64 c1) (.int .u64 c2) ∧ ah fM (w.heap.size + 1 + 1 + 1) (.int .i64 aG) (.int .u64 aM) ∧ Below w.heap.size w fM
theorem ahp {P : Program} {c : Code} {Q : Exit → Act → World → Prop} {a : Act} {W : World} (h : ∀ bn, bn = W → c.wp P Q a bn) : c.wp P Q a W := h W rfl
theorem abM {n m : Int} (hm : 0 < m) (h : -170141183460469231731687303715884105728 ≤ n) : -170141183460469231731687303715884105728 * m ≤ n := by
 have := qA (show (1 : Int) ≤ m by omega) (show (0 : Int) ≤ 170141183460469231731687303715884105728 by omega);omega
theorem WM {n m N M : Int} (hm : 0 < m) (kS : ((n.natAbs : Nat) : Int) = N) (jE : ((m.natAbs : Nat) : Int) = M) (k : 0 ≤ n) : N / M = n / m ∧ N % M = n % m := by
 obtain rfl : M = m := by omega
 obtain rfl : N = n := by omega
 exact ⟨rfl, rfl⟩
theorem WK {n m N M : Int} (hm : 0 < m) (kS : ((n.natAbs : Nat) : Int) = N) (jE : ((m.natAbs : Nat) : Int) = M) (k : n < 0) (z : N % M = 0) : -(N / M) = n / m ∧ 0 = n % m := by
 obtain rfl : M = m := by omega
 obtain rfl : n = -N := by omega
 have h1 := ti N M;rw [z, Int.add_zero] at h1;have h2 : -N = M * (-(N / M)) := by rw [Int.mul_neg, h1]
 rw [h2]
 constructor
 ·rw [Int.mul_ediv_cancel_left _ (by omega)]
 ·rw [Int.mul_emod_right]
theorem WL {n m N M : Int} (hm : 0 < m) (kS : ((n.natAbs : Nat) : Int) = N) (jE : ((m.natAbs : Nat) : Int) = M) (k : n < 0) (z : N % M ≠ 0) : -(N / M) - 1 = n / m ∧ -(N % M) + m = n % m := by
 obtain rfl : M = m := by omega
 obtain rfl : n = -N := by omega
 have h1 := ti N M;have iD := pz N (show M ≠ 0 by omega);have cN := oE N hm;have h2 : -N = (M - N % M) + M * (-(N / M) - 1) := by rw [Int.mul_sub, Int.mul_neg, Int.mul_one]; omega
 have q : (-N) / M = -(N / M) - 1 := by
  rw [h2, Int.add_mul_ediv_left _ _ (by omega), Int.ediv_eq_zero_of_lt (by omega) (by omega)];omega
 have r : (-N) % M = M - N % M := by
  rw [h2, Int.add_mul_emod_self_left, Int.emod_eq_of_lt (by omega) (by omega)]
 rw [q, r];omega
def TR (n m : Int) (w : World) (e : Ending) (w' : World) : Prop := ∃ a b c d : Int, e = .returned (.tuple #[.agg #[.int .i64 a, .int .u64 b], .agg #[.int .i64 c, .int .u64 d], .bool true]) ∧ bz a b (n / m) ∧ bz c d (n % m) ∧ Below w.heap.size w w'
theorem KP (h1 l1 n h2 l2 m : Int) (w : World) (H1 : bz h1 l1 n) (bZ : bz h2 l2 m) (hm : 0 < m) :
  Calls aj 289 #[.agg #[.int .i64 h1, .int .u64 l1], .agg #[.int .i64 h2, .int .u64 l2]] w (TR n m w) := by
 have ak : 0 < gj m 0 := by unfold gj; split <;> (try split) <;> omega
 have hs : Hid (∀ w, Calls aj 247 #[.agg #[.int .i64 h2, .int .u64 l2]] w (hD (.int .i64 (gj m 0)) w)) := fun w => Cy _ _ _ w bZ;generalize gj m 0 = s at *;have aD : ((n.natAbs : Nat) : Int) ≤ 170141183460469231731687303715884105728 := by have := H1; unfold bz at this; omega
 have Ac : 0 < ((m.natAbs : Nat) : Int) := by omega
 go_enter Tryz.func289, Tryz.ntmps289
 go_wp2_with fail
 refine (hs.out _).mono ?_;rintro e yL ⟨rfl, mR⟩;have KG : ah yL (w.heap.size) (.int .i64 h1) (.int .u64 l1) := (by (repeat first | focus ((with_reducible refine ah.new ?_); simp; done) | with_reducible refine ah.alloc ?_ _ | with_reducible refine ah.call ?_ mR)); obtain ⟨⟨VH, Wp⟩, Xt, XW⟩ := id KG; have KH : ah yL (w.heap.size + 1) (.int .i64 h2) (.int .u64 l2) := (by (repeat first | focus ((with_reducible refine ah.new ?_); simp; done) | with_reducible refine ah.alloc ?_ _ | with_reducible refine ah.call ?_ mR)); obtain ⟨⟨VI, Wq⟩, Xu, XX⟩ := id KH; have KI : ah yL (w.heap.size + 1 + 1) (.int .i64 0) (.int .u64 0) := (by (repeat first | focus ((with_reducible refine ah.new ?_); simp; done) | with_reducible refine ah.alloc ?_ _ | with_reducible refine ah.call ?_ mR)); obtain ⟨⟨VJ, Wr⟩, Xv, XY⟩ := id KI; have KJ : ah yL (w.heap.size + 1 + 1 + 1) (.int .i64 0) (.int .u64 0) := (by (repeat first | focus ((with_reducible refine ah.new ?_); simp; done) | with_reducible refine ah.call ?_ mR)); obtain ⟨⟨VK, Ws⟩, Xw, XZ⟩ := id KJ;have IM := Below.size mR;simp at IM;generalize kS : ((n.natAbs : Nat) : Int) = N at *;generalize jE : ((m.natAbs : Nat) : Int) = M at *;have nU := Lib.hid kS; have oN := Lib.hid jE;have OA : Hid (∀ w, Calls aj 279 #[.agg #[.int .i64 h1, .int .u64 l1]] w (aN N w)) := fun w => by rw [← nU.out]; exact BC h1 l1 n w H1
 have uG : Hid (∀ w, Calls aj 279 #[.agg #[.int .i64 h2, .int .u64 l2]] w (aN M w)) := fun w => by rw [← oN.out]; exact BC h2 l2 m w bZ
 clear kS jE
 go_upto_region 3 with fail
 go_cut [7, 8] (fun wU Ke fM => Ti w (N / M) (N % M) (.int .i64 h1) (.int .u64 l1) (.int .i64 h2) (.int .u64 l2) wU Ke fM)
 case first =>
  go_region_held3 (fun w' => (w'.cell? ⟨w.heap.size, 0, none⟩ = some (.int .i64 h1) ∧ w'.cell? ⟨w.heap.size, 1, none⟩ = some (.int .u64 l1)) ∧ (w'.cell? ⟨w.heap.size + 1, 0, none⟩ = some (.int .i64 h2) ∧ w'.cell? ⟨w.heap.size + 1, 1, none⟩ = some (.int .u64 l2)))
   ((refine abp ?_ ?_ <;> ((repeat first | with_reducible assumption | with_reducible refine ah.alloc ?_ _ | with_reducible refine ah.drew ?_ | focus ((with_reducible refine ah.set ?_ _ ?_); rotate_left; omega) | with_reducible refine ah.call ?_ c9 | with_reducible refine ah.call ?_ b7 | with_reducible refine ah.call ?_ bE); done)))
   (first
    | (go_at_call 279; ((with_reducible refine (OA.out _).mono ?_); rintro e aT ⟨BB, ags, rfl, o7, bE⟩; have IK := Below.size bE; (try simp at IK)))
    | (go_at_call 279; ((with_reducible refine (uG.out _).mono ?_); rintro e w2 ⟨FE, agt, rfl, Ao, b7⟩; have AA := Below.size b7; (try simp at AA)))
    | (go_at_call 298; ((with_reducible refine (WG _ _ _ _ _ _ _ o7 Ao aD Ac).mono ?_); rintro e w3 ⟨Bi, Bj, jO, jP, rfl, an, al, c9⟩; have aan := Below.size c9; (try simp at aan); (try ((refine lP (p := ah w3 (yL.heap.size) (.int .u64 0) (.int .u64 0)) ?_ ?_); (repeat first | focus ((with_reducible refine ah.new ?_); simp; done) | with_reducible refine ah.alloc ?_ _ | with_reducible refine ah.drew ?_ | with_reducible refine ah.call ?_ c9 | with_reducible refine ah.call ?_ b7 | with_reducible refine ah.call ?_ bE | with_reducible refine ah.call ?_ mR); intro r4; obtain ⟨⟨VO, Ww⟩, XA, X3⟩ := id r4; have aby := ah.lt r4; have acI := iX (ah.lt r4); have aca := iY (ah.lt r4))); (try ((refine lP (p := ah w3 (yL.heap.size + 1) (.int .u64 0) (.int .u64 0)) ?_ ?_); (repeat first | focus ((with_reducible refine ah.new ?_); simp; done) | with_reducible refine ah.alloc ?_ _ | with_reducible refine ah.drew ?_ | with_reducible refine ah.call ?_ c9 | with_reducible refine ah.call ?_ b7 | with_reducible refine ah.call ?_ bE | with_reducible refine ah.call ?_ mR); intro r5; obtain ⟨⟨VP, Wx⟩, XB, X4⟩ := id r5; have abz := ah.lt r5; have acJ := iX (ah.lt r5); have acb := iY (ah.lt r5))); (try ((refine lP (p := ah w3 (aT.heap.size) (.int .u64 0) (.int .u64 0)) ?_ ?_); (repeat first | focus ((with_reducible refine ah.new ?_); simp; done) | with_reducible refine ah.alloc ?_ _ | with_reducible refine ah.drew ?_ | with_reducible refine ah.call ?_ c9 | with_reducible refine ah.call ?_ b7 | with_reducible refine ah.call ?_ bE | with_reducible refine ah.call ?_ mR); intro r6; obtain ⟨⟨VQ, Wy⟩, XC, X5⟩ := id r6; have abA := ah.lt r6; have acK := iX (ah.lt r6); have acd := iY (ah.lt r6))); (try ((refine lP (p := ah w3 (aT.heap.size + 1) (.int .u64 0) (.int .u64 0)) ?_ ?_); (repeat first | focus ((with_reducible refine ah.new ?_); simp; done) | with_reducible refine ah.alloc ?_ _ | with_reducible refine ah.drew ?_ | with_reducible refine ah.call ?_ c9 | with_reducible refine ah.call ?_ b7 | with_reducible refine ah.call ?_ bE | with_reducible refine ah.call ?_ mR); intro BW; obtain ⟨⟨ahK, ah1⟩, ais, aiG⟩ := id BW; have ajC := ah.lt BW; have aj1 := iX (ah.lt BW); have ajS := iY (ah.lt BW))); (try ((refine lP (p := ah w3 (w2.heap.size) (.int .u64 0) (.int .u64 0)) ?_ ?_); (repeat first | focus ((with_reducible refine ah.new ?_); simp; done) | with_reducible refine ah.alloc ?_ _ | with_reducible refine ah.drew ?_ | with_reducible refine ah.call ?_ c9 | with_reducible refine ah.call ?_ b7 | with_reducible refine ah.call ?_ bE | with_reducible refine ah.call ?_ mR); intro BX; obtain ⟨⟨ahL, ah2⟩, ait, aiH⟩ := id BX; have ajD := ah.lt BX; have aj2 := iX (ah.lt BX); have ajT := iY (ah.lt BX))); (try ((refine lP (p := ah w3 (w2.heap.size + 1) (.int .u64 0) (.int .u64 0)) ?_ ?_); (repeat first | focus ((with_reducible refine ah.new ?_); simp; done) | with_reducible refine ah.alloc ?_ _ | with_reducible refine ah.drew ?_ | with_reducible refine ah.call ?_ c9 | with_reducible refine ah.call ?_ b7 | with_reducible refine ah.call ?_ bE | with_reducible refine ah.call ?_ mR); intro BZ; obtain ⟨⟨ahM, ah3⟩, aiu, aiI⟩ := id BZ; have ajE := ah.lt BZ; have aj3 := iX (ah.lt BZ); have ajU := iY (ah.lt BZ))))))
  all_goals
   go_wp2_with fail
   go_meet
   refine ⟨_, _, Bi, Bj, jO, jP, rfl, rfl, by omega, by omega, an, al, ?_, ?_, ?_, ?_, ?_, ?_, ?_⟩
   ·(repeat first | focus ((with_reducible refine ah.new ?_); simp; done) | with_reducible refine ah.alloc ?_ _ | with_reducible refine ah.put ?_ | focus ((with_reducible refine ah.set ?_ _ ?_); rotate_left; omega) | focus ((with_reducible apply fE.of); with_reducible assumption))
   ·(repeat first | focus ((with_reducible refine ah.new ?_); simp; done) | with_reducible refine ah.alloc ?_ _ | with_reducible refine ah.put ?_ | focus ((with_reducible apply fE.of); with_reducible assumption) | with_reducible refine fE.set ?_ _ _)
   ·(repeat first | with_reducible assumption | with_reducible refine ah.alloc ?_ _ | with_reducible refine ah.drew ?_ | focus ((with_reducible refine ah.set ?_ _ ?_); rotate_left; omega) | with_reducible refine ah.call ?_ c9 | with_reducible refine ah.call ?_ b7 | with_reducible refine ah.call ?_ bE)
   ·(repeat first | with_reducible assumption | with_reducible refine ah.alloc ?_ _ | with_reducible refine ah.drew ?_ | focus ((with_reducible refine ah.set ?_ _ ?_); rotate_left; omega) | with_reducible refine ah.call ?_ c9 | with_reducible refine ah.call ?_ b7 | with_reducible refine ah.call ?_ bE)
   ·(repeat first | with_reducible assumption | with_reducible refine ah.alloc ?_ _ | with_reducible refine ah.drew ?_ | focus ((with_reducible refine ah.set ?_ _ ?_); rotate_left; omega) | with_reducible refine ah.call ?_ c9 | with_reducible refine ah.call ?_ b7 | with_reducible refine ah.call ?_ bE)
   ·(repeat first | with_reducible assumption | with_reducible refine ah.alloc ?_ _ | with_reducible refine ah.drew ?_ | focus ((with_reducible refine ah.set ?_ _ ?_); rotate_left; omega) | with_reducible refine ah.call ?_ c9 | with_reducible refine ah.call ?_ b7 | with_reducible refine ah.call ?_ bE)
   ·(repeat first | with_reducible exact Below.refl _ _ | with_reducible refine c7 ?_ _ | focus ((with_reducible refine eV ?_ _ _ _ ?_); rotate_left; omega) | with_reducible refine Below.drew ?_ | with_reducible refine cc ?_ c9 | with_reducible refine cc ?_ b7 | with_reducible refine cc ?_ bE | with_reducible refine cc ?_ mR)
 case rest =>
  obtain ⟨g7, g8, Bi, Bj, jO, jP, rfl, rfl, Zn, Zo, an, al, Fg, Fh, oy, oz, JY, JZ, ab⟩ := hcut;have acU : ¬ g7 = w.heap.size := by omega
  have acV : ¬ g7 = w.heap.size + 1 := by omega
  have acW : ¬ g7 = w.heap.size + 1 + 1 := by omega
  have acX : ¬ g7 = w.heap.size + 1 + 1 + 1 := by omega
  have acY : ¬ g8 = w.heap.size := by omega
  have acZ : ¬ g8 = w.heap.size + 1 := by omega
  have ac0 : ¬ g8 = w.heap.size + 1 + 1 := by omega
  have ac1 : ¬ g8 = w.heap.size + 1 + 1 + 1 := by omega
  have db : 0 ≤ N / M := qE (by have := nU.out; omega) (by omega);have q1 : N / M ≤ N := Int.ediv_le_self _ (by have := nU.out; omega);have iD : 0 ≤ N % M := pz _ (by omega);have cN : N % M < M := oE _ Ac;have ace : M ≤ 170141183460469231731687303715884105727 := by have := bZ; have := oN.out; unfold bz at *; omega
  have fT : 0 ≤ n → N ≤ 170141183460469231731687303715884105727 := by have := H1; have := nU.out; unfold bz at *; omega
  have fC : N ≤ 170141183460469231731687303715884105728 := aD;have c1 := WM hm nU.out oN.out; have c2 := WK hm nU.out oN.out; have lg := WL hm nU.out oN.out;have aP := Lib.hid c1; have b6 := Lib.hid c2; have fo := Lib.hid lg;have Ah := H1.neg;generalize N / M = Q at *;generalize N % M = R at *;clear c1 c2 lg OA uG hs ak mR IM nU oN;have Fj := oy.1; have JX := oz.1; have afa := JY; have afb := JZ; have ae4 := Fg.1; have ae7 := Fh.1;obtain ⟨⟨c0, dm⟩, la, nQ⟩ := id JY;obtain ⟨⟨l8, rW⟩, aht, ahu⟩ := id JZ;obtain ⟨kk, z2⟩ := Fj;obtain ⟨z3, z4⟩ := JX;obtain ⟨z5, ahw⟩ := ae4;obtain ⟨ahx, ahy⟩ := ae7
  by_cases k : h1 < 0
  ·have k' : n < 0 := Ah.1 k;have f1 : Hid (fits (-Q) = true) := by unfold Hid fits; rw [cL]; omega
   have f2 : Hid (fits (-R) = true) := by unfold Hid fits; rw [cL]; omega
   have O8 : decide (h1 < 0) = true := bF k;clear Ah fT
   go_wp2_with fail
   refine (Kl _ _ _ _ an).mono ?_;rintro e aT ⟨a1, b1, rfl, fJ, bE⟩;rw [if_pos f1.out] at fJ;have gI : ah aT (w.heap.size) (.int .i64 h1) (.int .u64 l1) := (by (repeat first | with_reducible assumption | with_reducible refine ah.call ?_ bE)); obtain ⟨⟨mi, mj⟩, mm, mn⟩ := id gI; have jV : ah aT (w.heap.size + 1) (.int .i64 h2) (.int .u64 l2) := (by (repeat first | with_reducible assumption | with_reducible refine ah.call ?_ bE)); obtain ⟨⟨pX, p6⟩, qc, qe⟩ := id jV; have pJ : ah aT (w.heap.size + 1 + 1) (.int .i64 0) (.int .u64 0) := (by (repeat first | with_reducible assumption | with_reducible refine ah.call ?_ bE)); obtain ⟨⟨xv, xC⟩, xH, xM⟩ := id pJ; have rZ : ah aT (w.heap.size + 1 + 1 + 1) (.int .i64 0) (.int .u64 0) := (by (repeat first | with_reducible assumption | with_reducible refine ah.call ?_ bE)); obtain ⟨⟨zn, zv⟩, zH, zM⟩ := id rZ; have BU : ah aT (g8) (.int .u64 jO) (.int .u64 jP) := (by (repeat first | with_reducible assumption | with_reducible refine ah.call ?_ bE)); obtain ⟨⟨L5, Mw⟩, M3, Ni⟩ := id BU
   go_wp2_with fail
   refine (Kl _ _ _ _ al).mono ?_;rintro e w2 ⟨a2, b2, rfl, kX, b7⟩;rw [if_pos f2.out] at kX;have jy : ah w2 (w.heap.size) (.int .i64 h1) (.int .u64 l1) := (by (repeat first | with_reducible assumption | focus ((with_reducible refine ah.set ?_ _ ?_); rotate_left; omega) | with_reducible refine ah.call ?_ b7)); obtain ⟨⟨pY, p7⟩, qd, qf⟩ := id jy; have ma : ah w2 (w.heap.size + 1) (.int .i64 h2) (.int .u64 l2) := (by (repeat first | with_reducible assumption | focus ((with_reducible refine ah.set ?_ _ ?_); rotate_left; omega) | with_reducible refine ah.call ?_ b7)); obtain ⟨⟨tQ, tY⟩, ue, uj⟩ := id ma; have mb : ah w2 (w.heap.size + 1 + 1) (.int .i64 a1) (.int .u64 b1) := (by (repeat first | with_reducible refine ah.put ?_ | focus ((with_reducible apply fE.of); with_reducible assumption) | with_reducible refine ah.call ?_ b7)); obtain ⟨⟨tR, tZ⟩, uf, uk⟩ := id mb; have r0 : ah w2 (w.heap.size + 1 + 1 + 1) (.int .i64 0) (.int .u64 0) := (by (repeat first | with_reducible assumption | focus ((with_reducible refine ah.set ?_ _ ?_); rotate_left; omega) | with_reducible refine ah.call ?_ b7)); obtain ⟨⟨zo, zw⟩, zI, zN⟩ := id r0
   by_cases FD : R = 0
   ·obtain ⟨aG, aM⟩ := b6.out k' FD;have jz := Lib.hid aG; have qU := Lib.hid aM;have Gv : 0 ≤ a2 := by have := kX.neg; omega
    have ZY : bz a2 b2 0 := kX.conv (by omega)
    clear aG aM FD
    go_wp2_with fail
    go_region
    all_goals
     go_wp2_with fail
     refine zk ?_; intro kO iN; have rX : ah kO (w.heap.size + 1 + 1) (.int .i64 a1) (.int .u64 b1) := (by rw [iN]; (repeat first | with_reducible refine ah.drew ?_ | with_reducible refine ah.put ?_ | focus ((with_reducible refine ah.set ?_ _ ?_); rotate_left; omega) | focus ((with_reducible apply fE.of); with_reducible assumption) | with_reducible refine fE.set ?_ _ _)); obtain ⟨⟨CS, C6⟩, Dk, Dx⟩ := id rX; have rY : ah kO (w.heap.size + 1 + 1 + 1) (.int .i64 a2) (.int .u64 b2) := (by rw [iN]; (repeat first | with_reducible refine ah.drew ?_ | with_reducible refine ah.put ?_ | focus ((with_reducible apply fE.of); with_reducible assumption) | with_reducible refine fE.set ?_ _ _)); obtain ⟨⟨CT, C7⟩, Dl, Dy⟩ := id rY; have oZ : Below w.heap.size w kO := (by rw [iN]; (repeat first | with_reducible assumption | focus ((with_reducible refine eV ?_ _ _ _ ?_); rotate_left; omega) | with_reducible refine Below.drew ?_ | with_reducible refine cc ?_ b7 | with_reducible refine cc ?_ bE)); clear iN;exact bodyPost_ret (v := .tuple #[.agg #[.int .i64 a1, .int .u64 b1], .agg #[.int .i64 a2, .int .u64 b2], .bool true]) (by simp only [results, Tryz.results289]; go_simp) rfl ⟨_, _, _, _, rfl, fJ.conv jz.out, ZY.conv qU.out, oZ⟩
   ·obtain ⟨aG, aM⟩ := fo.out k' FD;have jz := Lib.hid aG; have qU := Lib.hid aM;have Gv : a2 < 0 := by have := kX.neg; omega
    have jW : Hid (fits (-Q - 1) = true) := by
     have aw := H1.fits;unfold Hid fits at *;rw [cL] at *;have := Int.le_ediv_of_mul_le hm (show -170141183460469231731687303715884105728 * m ≤ n from abM hm aw.1);omega
    have kn : Hid (fits (-R + m) = true) := by
     have aw := bZ.fits;unfold Hid fits at *;rw [cL] at *;omega
    clear aG aM FD;have ZI : Hid (∀ w, Calls aj 224 #[.int .i64 1] w (pS 1 w)) := fun w => sa 1 w (by omega) (by omega)
    have uy : Hid (∀ o1 o2 w, bz o1 o2 1 → Calls aj 245 #[.agg #[.int .i64 a1, .int .u64 b1], .agg #[.int .i64 o1, .int .u64 o2]] w (pS (-Q - 1) w)) := fun o1 o2 w aB => by
     have := A0 a1 b1 o1 o2 _ _ w fJ aB;rw [KD jW.out] at this;exact this
    have o6 : Hid (∀ w, Calls aj 299 #[.agg #[.int .i64 a2, .int .u64 b2], .agg #[.int .i64 h2, .int .u64 l2]] w (pS (-R + m) w)) := fun w => by
     have := Ra a2 b2 h2 l2 _ _ w kX bZ;rw [KD kn.out] at this;exact this
    go_upto_region 7 with fail
    go_cut [] (fun fM => Th w (-Q - 1) (-R + m) fM)
    case first =>
     refine ahp ?_;intro W e9;have NJ : Below w.heap.size w W := by rw [e9]; (repeat first | with_reducible assumption | focus ((with_reducible refine eV ?_ _ _ _ ?_); rotate_left; omega) | with_reducible refine cc ?_ b7 | with_reducible refine cc ?_ bE)
     have Gu : ah W (w.heap.size + 1 + 1) (.int .i64 a1) (.int .u64 b1) := by rw [e9]; (repeat first | with_reducible assumption | focus ((with_reducible refine ah.set ?_ _ ?_); rotate_left; omega))
     have hj : ah W (w.heap.size + 1 + 1 + 1) (.int .i64 a2) (.int .u64 b2) := by rw [e9]; (repeat first | with_reducible refine ah.put ?_ | focus ((with_reducible apply fE.of); with_reducible assumption))
     have vv : ah W (w.heap.size + 1) (.int .i64 h2) (.int .u64 l2) := by rw [e9]; (repeat first | with_reducible assumption | focus ((with_reducible refine ah.set ?_ _ ?_); rotate_left; omega))
     clear KG VH Wp Xt XW KH VI Wq Xu XX KI VJ Wr Xv XY KJ VK Ws Xw XZ gI mi mj mm mn jV pX p6 qc qe pJ xv xC xH xM rZ zn zv zH zM BU L5 Mw M3 Ni jy pY p7 qd qf ma tQ tY ue uj mb tR tZ uf uk r0 zo zw zI zN;clear e9 c0 dm la nQ l8 rW aht ahu kk z2 z3 z4 z5 ahw ahx ahy acU acV acW acX acY acZ ac0 ac1 b7 bE Fg Fh oy oz JY JZ afa afb db q1 iD cN ace fC Zn Zo an al f1 f2 O8 k k' Gv ab aD Ac hm aP b6 fo jz qU jW kn;obtain ⟨⟨VC, Wm⟩, Xo, XT⟩ := id Gu;obtain ⟨⟨VD, Wn⟩, Xp, XU⟩ := id hj;obtain ⟨⟨VE, Wo⟩, Xq, XV⟩ := id vv;have Le := ah.drew Gu; have se := ah.drew hj; have Lg := ah.drew vv;have NI := Below.drew NJ;clear Xo XT Xp XU Xq XV VC Wm VD Wn VE Wo Gu hj vv NJ;refine ahq (S := fun w' => (w'.cell? ⟨w.heap.size + 1 + 1, 0, none⟩ = some (.int .i64 a1) ∧ w'.cell? ⟨w.heap.size + 1 + 1, 1, none⟩ = some (.int .u64 b1)) ∧ (w'.cell? ⟨w.heap.size + 1 + 1 + 1, 0, none⟩ = some (.int .i64 a2) ∧ w'.cell? ⟨w.heap.size + 1 + 1 + 1, 1, none⟩ = some (.int .u64 b2)) ∧ (w'.cell? ⟨w.heap.size + 1, 0, none⟩ = some (.int .i64 h2) ∧ w'.cell? ⟨w.heap.size + 1, 1, none⟩ = some (.int .u64 l2))) (T := fun j => j == 6 || j == 7) (by kernel_rfl) ?_;generalize W.drew = V at *;have HP := Eu Le se Lg;refine KC 2 (i := 0) (v := .agg #[.int .i64 a1, .int .u64 b1]) rfl (by kernel_rfl) (by kernel_rfl) (by kernel_rfl) (fun _ _ _ h => h) (Or.inl ⟨by rfl, ?_⟩) HP ?_
     ·intro w zT;obtain ⟨⟨p1, p2⟩, ⟨p3, p4⟩, rF, QM⟩ := id zT
      go_simp
     simp only [Act.put, List.setIfInBounds_toArray];refine KC 5 (i := 3) (v := .agg #[.int .i64 a2, .int .u64 b2]) rfl (by kernel_rfl) (by kernel_rfl) (by kernel_rfl) (fun _ _ _ h => h) (Or.inl ⟨by rfl, ?_⟩) HP ?_
     ·intro w zT;obtain ⟨⟨p1, p2⟩, ⟨p3, p4⟩, rF, QM⟩ := id zT
      go_simp
     simp only [Act.put];refine KC 5 (i := 4) (v := .agg #[.int .i64 h2, .int .u64 l2]) rfl (by kernel_rfl) (by kernel_rfl) (by kernel_rfl) (fun _ _ _ h => h) (Or.inl ⟨by rfl, ?_⟩) HP ?_
     ·intro w zT;obtain ⟨⟨p1, p2⟩, ⟨p3, p4⟩, rF, QM⟩ := id zT
      go_simp
     simp only [Act.put];refine BP (i := 1) (by kernel_rfl) rfl (fun K ek => ?_)
     go_simp
     refine (ZI.out _).mono ?_;rintro e w3 ⟨o1, o2, rfl, aB, c9⟩;have Lh := ah.call Le c9; have Li := ah.call se c9; have Lj := ah.call Lg c9; have YR := cc NI c9;obtain ⟨⟨s1, s2⟩, ⟨bU, bX⟩, wT, qL⟩ := Eu Lh Li Lj
     go_wp2_with fail
     refine ek.out _ _ (.inr ⟨⟨s1, s2⟩, ⟨bU, bX⟩, wT, qL⟩) ?_;clear ek K s1 s2 bU bX wT qL;refine BP (i := 2) (by kernel_rfl) rfl (fun K ek => ?_)
     go_simp
     refine (uy.out _ _ _ aB).mono ?_;rintro e fD ⟨c1, c2, rfl, ak, fa⟩;have Lk := ah.call Lh fa; have Ll := ah.call Li fa; have Lm := ah.call Lj fa; have NK := cc YR fa;obtain ⟨⟨s1, s2⟩, ⟨bU, bX⟩, wT, qL⟩ := Eu Lk Ll Lm
     go_wp2_with fail
     refine ek.out _ _ (.inr ⟨⟨s1, s2⟩, ⟨bU, bX⟩, wT, qL⟩) ?_;clear ek K s1 s2 bU bX wT qL;refine BP (i := 5) (by kernel_rfl) rfl (fun K ek => ?_)
     go_simp
     refine (o6.out _).mono ?_;rintro e jc ⟨aG, aM, rfl, he, hX⟩;have fg := ah.call Lk hX; have sf := ah.call Ll hX; have vx := ah.call Lm hX; have YS := cc NK hX;obtain ⟨⟨s1, s2⟩, ⟨bU, bX⟩, wT, qL⟩ := Eu fg sf vx;have f0 := fg.2; have f1 := sf.2;obtain ⟨ain, aio⟩ := f0; obtain ⟨aip, aiq⟩ := f1
     go_wp2_with fail
     refine ek.out _ _ (.inr ⟨⟨s1, s2⟩, ⟨bU, bX⟩, wT, qL⟩) ?_;clear ek K;refine BP (i := 6) (by kernel_rfl) rfl (fun K ek => ?_)
     go_simp
     refine ek.out _ _ (.inl rfl) ?_;clear ek K;refine BP (i := 7) (by kernel_rfl) rfl (fun K ek => ?_)
     go_simp
     refine ek.out _ _ (.inl rfl) ?_;clear ek K;refine aho (by kernel_rfl) ?_ _
     go_wp2_with fail
     go_meet
     exact ⟨c1, c2, aG, aM, ak, he, ah.set (ah.set (ah.put (.of fg)) _ (by omega)) _ (by omega), ah.put (fE.set (fE.set (.of sf) _ _) _ _), eV (eV (eV (eV YS _ _ _ (by omega)) _ _ _ (by omega)) _ _ _ (by omega)) _ _ _ (by omega)⟩
    case rest =>
     obtain ⟨c1, c2, aG, aM, ak, he, GN, be, c9⟩ := hcut;obtain ⟨⟨v1, v2⟩, v3, v4⟩ := id GN;obtain ⟨⟨v5, v6⟩, akI, akJ⟩ := id be
     go_wp2_with fail
     go_region
     all_goals
      go_wp2_with fail
      refine zk ?_; intro kO iN; have rX : ah kO (w.heap.size + 1 + 1) (.int .i64 c1) (.int .u64 c2) := (by rw [iN]; (repeat first | with_reducible refine ah.drew ?_ | with_reducible refine ah.put ?_ | focus ((with_reducible refine ah.set ?_ _ ?_); rotate_left; omega) | focus ((with_reducible apply fE.of); with_reducible assumption))); obtain ⟨⟨CS, C6⟩, Dk, Dx⟩ := id rX; have rY : ah kO (w.heap.size + 1 + 1 + 1) (.int .i64 aG) (.int .u64 aM) := (by rw [iN]; (repeat first | with_reducible refine ah.drew ?_ | with_reducible refine ah.put ?_ | focus ((with_reducible apply fE.of); with_reducible assumption) | with_reducible refine fE.set ?_ _ _)); obtain ⟨⟨CT, C7⟩, Dl, Dy⟩ := id rY; have oZ : Below w.heap.size w kO := (by rw [iN]; (repeat first | with_reducible assumption | focus ((with_reducible refine eV ?_ _ _ _ ?_); rotate_left; omega) | with_reducible refine Below.drew ?_)); clear iN;exact bodyPost_ret (v := .tuple #[.agg #[.int .i64 c1, .int .u64 c2], .agg #[.int .i64 aG, .int .u64 aM], .bool true]) (by simp only [results, Tryz.results289]; go_simp) rfl ⟨_, _, _, _, rfl, ak.conv jz.out, he.conv qU.out, oZ⟩
  ·have k' : 0 ≤ h1 := by omega
   obtain ⟨aG, aM⟩ := aP.out (by have := Ah.1; omega);have jz := Lib.hid aG; have qU := Lib.hid aM;have ajY := fT (by have := Ah.1; omega);have f1 : Hid (fits Q = true) := by unfold Hid fits; rw [cL]; omega
   have f2 : Hid (fits R = true) := by unfold Hid fits; rw [cL]; omega
   have O8 : decide (h1 < 0) = false := b5 k;clear Ah k aG aM
   go_wp2_with fail
   refine (Km _ _ _ _ an).mono ?_;rintro e aT ⟨a1, b1, rfl, fJ, bE⟩;rw [if_pos f1.out] at fJ;have gI : ah aT (w.heap.size) (.int .i64 h1) (.int .u64 l1) := (by (repeat first | with_reducible assumption | with_reducible refine ah.call ?_ bE)); obtain ⟨⟨mi, mj⟩, mm, mn⟩ := id gI; have jV : ah aT (w.heap.size + 1) (.int .i64 h2) (.int .u64 l2) := (by (repeat first | with_reducible assumption | with_reducible refine ah.call ?_ bE)); obtain ⟨⟨pX, p6⟩, qc, qe⟩ := id jV; have pJ : ah aT (w.heap.size + 1 + 1) (.int .i64 0) (.int .u64 0) := (by (repeat first | with_reducible assumption | with_reducible refine ah.call ?_ bE)); obtain ⟨⟨xv, xC⟩, xH, xM⟩ := id pJ; have rZ : ah aT (w.heap.size + 1 + 1 + 1) (.int .i64 0) (.int .u64 0) := (by (repeat first | with_reducible assumption | with_reducible refine ah.call ?_ bE)); obtain ⟨⟨zn, zv⟩, zH, zM⟩ := id rZ; have BU : ah aT (g8) (.int .u64 jO) (.int .u64 jP) := (by (repeat first | with_reducible assumption | with_reducible refine ah.call ?_ bE)); obtain ⟨⟨L5, Mw⟩, M3, Ni⟩ := id BU
   go_wp2_with fail
   refine (Km _ _ _ _ al).mono ?_;rintro e w2 ⟨a2, b2, rfl, kX, b7⟩;rw [if_pos f2.out] at kX;have jy : ah w2 (w.heap.size) (.int .i64 h1) (.int .u64 l1) := (by (repeat first | with_reducible assumption | focus ((with_reducible refine ah.set ?_ _ ?_); rotate_left; omega) | with_reducible refine ah.call ?_ b7)); obtain ⟨⟨pY, p7⟩, qd, qf⟩ := id jy; have ma : ah w2 (w.heap.size + 1) (.int .i64 h2) (.int .u64 l2) := (by (repeat first | with_reducible assumption | focus ((with_reducible refine ah.set ?_ _ ?_); rotate_left; omega) | with_reducible refine ah.call ?_ b7)); obtain ⟨⟨tQ, tY⟩, ue, uj⟩ := id ma; have mb : ah w2 (w.heap.size + 1 + 1) (.int .i64 a1) (.int .u64 b1) := (by (repeat first | with_reducible refine ah.put ?_ | focus ((with_reducible apply fE.of); with_reducible assumption) | with_reducible refine ah.call ?_ b7)); obtain ⟨⟨tR, tZ⟩, uf, uk⟩ := id mb; have r0 : ah w2 (w.heap.size + 1 + 1 + 1) (.int .i64 0) (.int .u64 0) := (by (repeat first | with_reducible assumption | focus ((with_reducible refine ah.set ?_ _ ?_); rotate_left; omega) | with_reducible refine ah.call ?_ b7)); obtain ⟨⟨zo, zw⟩, zI, zN⟩ := id r0;have Gv : 0 ≤ a2 := by have := kX.neg; omega
   go_wp2_with fail
   go_region
   all_goals
    go_wp2_with fail
    refine zk ?_; intro kO iN; have rX : ah kO (w.heap.size + 1 + 1) (.int .i64 a1) (.int .u64 b1) := (by rw [iN]; (repeat first | with_reducible refine ah.drew ?_ | with_reducible refine ah.put ?_ | focus ((with_reducible refine ah.set ?_ _ ?_); rotate_left; omega) | focus ((with_reducible apply fE.of); with_reducible assumption) | with_reducible refine fE.set ?_ _ _)); obtain ⟨⟨CS, C6⟩, Dk, Dx⟩ := id rX; have rY : ah kO (w.heap.size + 1 + 1 + 1) (.int .i64 a2) (.int .u64 b2) := (by rw [iN]; (repeat first | with_reducible refine ah.drew ?_ | with_reducible refine ah.put ?_ | focus ((with_reducible apply fE.of); with_reducible assumption) | with_reducible refine fE.set ?_ _ _)); obtain ⟨⟨CT, C7⟩, Dl, Dy⟩ := id rY; have oZ : Below w.heap.size w kO := (by rw [iN]; (repeat first | with_reducible assumption | focus ((with_reducible refine eV ?_ _ _ _ ?_); rotate_left; omega) | with_reducible refine Below.drew ?_ | with_reducible refine cc ?_ b7 | with_reducible refine cc ?_ bE)); clear iN;exact bodyPost_ret (v := .tuple #[.agg #[.int .i64 a1, .int .u64 b1], .agg #[.int .i64 a2, .int .u64 b2], .bool true]) (by simp only [results, Tryz.results289]; go_simp) rfl ⟨_, _, _, _, rfl, fJ.conv jz.out, kX.conv qU.out, oZ⟩
def dB (w : World) (b : Nat) (u v x y : Value) : Prop := (w.cell? ⟨b, 0, none⟩ = some u ∧ w.cell? ⟨b, 1, none⟩ = some v ∧ w.cell? ⟨b, 2, none⟩ = some x ∧ w.cell? ⟨b, 3, none⟩ = some y) ∧ (w.frozen? ⟨b, 0, none⟩ = false ∧ w.frozen? ⟨b, 1, none⟩ = false ∧ w.frozen? ⟨b, 2, none⟩ = false ∧ w.frozen? ⟨b, 3, none⟩ = false)
section
variable {w W aT : World} {b g : Nat} {u v x y q : Value}
theorem dB.lt (h : dB w b u v x y) : b < w.heap.size := World.block_lt_of_cell? w _ h.1.1
theorem dB.call (h : dB W b u v x y) (ab : Below W.heap.size W aT) : dB aT b u v x y := by
 have ap := h.lt;obtain ⟨⟨h1, h2, ao, aH⟩, bC, cd, ie, jI⟩ := h;exact ⟨⟨(ab.cell (p := ⟨b, 0, none⟩) ap).trans h1, (ab.cell (p := ⟨b, 1, none⟩) ap).trans h2, (ab.cell (p := ⟨b, 2, none⟩) ap).trans ao, (ab.cell (p := ⟨b, 3, none⟩) ap).trans aH⟩, (ab.frozen (p := ⟨b, 0, none⟩) ap).trans bC, (ab.frozen (p := ⟨b, 1, none⟩) ap).trans cd, (ab.frozen (p := ⟨b, 2, none⟩) ap).trans ie, (ab.frozen (p := ⟨b, 3, none⟩) ap).trans jI⟩
theorem dB.alloc (h : dB W b u v x y) (o : Obj) : dB (W.alloc o) b u v x y := h.call ((Below.refl _ _).alloc (eb _) o)
theorem dB.drew (h : dB W b u v x y) : dB W.drew b u v x y := h.call ((Below.refl _ _).drew)
theorem dB.new {t : TypeId} (e : b = W.heap.size) : dB (W.alloc (.cells #[u, v, x, y] t)) b u v x y := by
 subst e;unfold dB
 go_simp
theorem dB.set (h : dB W b u v x y) (o : Nat) (ne : g ≠ b) : dB (W.setCell ⟨g, o, none⟩ q) b u v x y := by
 obtain ⟨⟨h1, h2, ao, aH⟩, bC, cd, ie, jI⟩ := h;have nc : ∀ i, (⟨g, o, none⟩ : Addr) ≠ ⟨b, i, none⟩ := fun i e => ne (congrArg Addr.block e);refine ⟨⟨?_, ?_, ?_, ?_⟩, ?_, ?_, ?_, ?_⟩
 ·rw [World.cell?_setCell_other _ _ _ _ (nc 0)]; exact h1
 ·rw [World.cell?_setCell_other _ _ _ _ (nc 1)]; exact h2
 ·rw [World.cell?_setCell_other _ _ _ _ (nc 2)]; exact ao
 ·rw [World.cell?_setCell_other _ _ _ _ (nc 3)]; exact aH
 ·go_simp
 ·go_simp
 ·go_simp
 ·go_simp
end
section
variable {W : World} {b : Nat} {u v x y k8 a7 : Value}
theorem dB.akm (h : dB W b u v x y) : dB ((W.setCell ⟨b, 0, none⟩ k8).setCell ⟨b, 1, none⟩ a7) b k8 a7 x y := by
 obtain ⟨⟨h1, h2, ao, aH⟩, bC, cd, ie, jI⟩ := h;unfold dB
 go_simp
theorem dB.akn (h : dB W b u v x y) : dB ((W.setCell ⟨b, 2, none⟩ k8).setCell ⟨b, 3, none⟩ a7) b u v k8 a7 := by
 obtain ⟨⟨h1, h2, ao, aH⟩, bC, cd, ie, jI⟩ := h;unfold dB
 go_simp
end
theorem aaz (d : Int) : decide (0 < gj d 0) = decide (0 < d) := by
 unfold gj;rw [mC];simp only [cL]
 repeat' split
 all_goals omega
theorem Gr (h l ar cF d : Int) (w : World) (H : bz ar cF d) : Calls aj 269 #[.agg #[.int .i64 h, .int .u64 l, .int .i64 ar, .int .u64 cF]] w (hD (.bool (decide (0 < d))) w) := by
 have nT := Lib.hid (aaz d)
 go_enter Tryz.func269, Tryz.ntmps269
 go_wp2_with (go_at_call 247; ((with_reducible refine (Cy _ _ _ _ H).mono ?_); rintro e aT ⟨rfl, ab⟩))
 go_ret
 exact ⟨RF nT.out, by (repeat first | with_reducible exact Below.refl _ _ | with_reducible refine c7 ?_ _ | with_reducible refine cc ?_ ab)⟩
end Go.Proofs.YtpochbhajmbfdaaGreat
namespace Go.Proofs.YtpochbhajmbfdaaGreat
open Go.RowKit
attribute [local go_sem ↓] Go.wp_at_zero Go.wp_at_succ
theorem Tq (h l n ar cF d : Int) (w : World) (H : bz h l n) (cn : bz ar cF d) (hd : 0 < d) : Calls aj 272 #[.agg #[.int .i64 h, .int .u64 l, .int .i64 ar, .int .u64 cF]] w (pS (n / d) w) := by
 go_enter Tryz.func272, Tryz.ntmps272
 go_wp2_with (go_at_call 289; ((with_reducible refine (KP _ _ _ _ _ _ _ H cn hd).mono ?_); rintro e aT ⟨oy, oz, tn, tp, rfl, an, al, ab⟩; have gI : ah aT (w.heap.size + 1) (.int .i64 0) (.int .u64 0) := (by (repeat first | focus ((with_reducible refine ah.new ?_); simp; done) | with_reducible refine ah.call ?_ ab)); obtain ⟨⟨mi, mj⟩, mm, mn⟩ := id gI; have oo := Below.size ab; (try simp at oo); have ym : ¬ aT.heap.size = w.heap.size := (by omega); have A6 : ¬ aT.heap.size = w.heap.size + 1 := (by omega); have aik : ¬ w.heap.size = aT.heap.size := (by omega); have ail : ¬ w.heap.size + 1 = aT.heap.size := (by omega); have ajO : w.heap.size < aT.heap.size := (by omega); have ajP : w.heap.size + 1 < aT.heap.size := (by omega)))
 refine bodyPost_ret (v := .agg #[.int .i64 oy, .int .u64 oz]) (by simp only [results, Tryz.results272]; go_simp) rfl ⟨_, _, rfl, an, ?_⟩;(repeat first | with_reducible exact Below.refl _ _ | with_reducible refine c7 ?_ _ | focus ((with_reducible refine eV ?_ _ _ _ ?_); rotate_left; omega) | with_reducible refine cc ?_ ab)
theorem ah.both {w : World} {b : Nat} {u v : Value} (h : ah w b u v) : w.cell? ⟨b, 0, none⟩ = some u ∧ w.cell? ⟨b, 1, none⟩ = some v := h.1
def ov (n d : Int) : Int := if n % d < d - n % d then n / d else n / d + 1
theorem acP {n d : Int} (aD : fits n = true) (hd : 0 < d) (H2 : fits d = true) : fits (d - n % d) = true ∧ (d - n % d ≤ n % d → fits (n / d + 1) = true) := by
 unfold fits at *;rw [cL] at aD H2;have aJ := pz n (show d ≠ 0 by omega);have h1 := oE n hd;have h2 := ti n d;rw [cL, cL];refine ⟨by omega, fun hle => ?_⟩;have sJ : 2 ≤ d := by omega
 have q1 : n / d * 2 ≤ 170141183460469231731687303715884105727 ∧ -170141183460469231731687303715884105728 ≤ n / d := by
  refine ⟨?_, ?_⟩
  ·rcases qD (n / d) 0 with q | q
   ·omega
   ·have : n / d * 2 ≤ n / d * d := qA sJ q;rw [kf (n / d) d] at this;omega
  ·rcases qD (n / d) 0 with q | q
   ·have : d * (n / d + 1) ≤ 1 * (n / d + 1) := Int.mul_le_mul_of_nonpos_right (by omega) (by omega);rw [Int.mul_add] at this;omega
   ·omega
 omega
theorem Qa (h l n ar cF d : Int) (w : World) (H : bz h l n) (cn : bz ar cF d) (hd : 0 < d) : Calls aj 270 #[.agg #[.int .i64 h, .int .u64 l], .agg #[.int .i64 ar, .int .u64 cF]] w (pS (ov n d) w) := by
 have aw := acP H.fits hd cn.fits;have jW := Lib.hid aw.1;have kn := Lib.hid aw.2;clear aw
 go_enter Tryz.func270, Tryz.ntmps270
 go_wp2_with fail
 refine (KP _ _ _ _ _ _ _ H cn hd).mono ?_;rintro e aT ⟨oy, oz, tn, tp, rfl, an, al, bE⟩;have gI : ah aT (w.heap.size + 1) (.int .i64 ar) (.int .u64 cF) := (by (repeat first | focus ((with_reducible refine ah.new ?_); simp; done) | with_reducible refine ah.alloc ?_ _ | with_reducible refine ah.call ?_ bE)); obtain ⟨⟨mi, mj⟩, mm, mn⟩ := id gI; have jV : ah aT (w.heap.size + 1 + 1) (.int .i64 0) (.int .u64 0) := (by (repeat first | focus ((with_reducible refine ah.new ?_); simp; done) | with_reducible refine ah.call ?_ bE)); obtain ⟨⟨pX, p6⟩, qc, qe⟩ := id jV;have mY := Below.size bE; (try simp at mY); have uP : ¬ aT.heap.size = w.heap.size := (by omega); have wD : ¬ aT.heap.size = w.heap.size + 1 := (by omega); have A3 : ¬ aT.heap.size = w.heap.size + 1 + 1 := (by omega); have ub : ¬ w.heap.size = aT.heap.size := (by omega); have vL : ¬ w.heap.size + 1 = aT.heap.size := (by omega); have zB : ¬ w.heap.size + 1 + 1 = aT.heap.size := (by omega); have uL : w.heap.size < aT.heap.size := (by omega); have wz : w.heap.size + 1 < aT.heap.size := (by omega); have AV : w.heap.size + 1 + 1 < aT.heap.size := (by omega)
 go_wp2_with fail
 refine (La _ _ _ _ _ _ _ cn al).mono ?_;rintro e w2 ⟨akB, akC, rfl, hs, b7⟩;rw [if_pos jW.out] at hs;have jy : ah w2 (w.heap.size + 1 + 1) (.int .i64 0) (.int .u64 0) := (by (repeat first | with_reducible assumption | with_reducible refine ah.alloc ?_ _ | with_reducible refine ah.call ?_ b7)); obtain ⟨⟨pY, p7⟩, qd, qf⟩ := id jy; have ma : ah w2 (aT.heap.size) (.int .i64 oy) (.int .u64 oz) := (by (repeat first | focus ((with_reducible refine ah.new ?_); simp; done) | with_reducible refine ah.alloc ?_ _ | with_reducible refine ah.call ?_ b7)); obtain ⟨⟨tQ, tY⟩, ue, uj⟩ := id ma; have mb : ah w2 (aT.heap.size + 1) (.int .i64 tn) (.int .u64 tp) := (by (repeat first | focus ((with_reducible refine ah.new ?_); simp; done) | with_reducible refine ah.call ?_ b7)); obtain ⟨⟨tR, tZ⟩, uf, uk⟩ := id mb;have oq := Below.size b7; (try simp at oq);have AN := ah.lt jy; have AO := ah.lt ma; have I7 := ah.lt mb;have m3 := iY AN; have m4 := iY AO; have m5 := iY I7; have s5 := iX AN; have s6 := iX AO; have Jx := iX I7
 go_wp2_with fail
 refine (KM _ _ _ _ _ _ _ al hs).mono ?_;rintro e w3 ⟨rfl, c9⟩;have mc : ah w3 (w.heap.size + 1 + 1) (.int .i64 0) (.int .u64 0) := (by (repeat first | with_reducible assumption | with_reducible refine ah.alloc ?_ _ | with_reducible refine ah.call ?_ c9)); obtain ⟨⟨xw, xD⟩, xI, xN⟩ := id mc; have r3 : ah w3 (aT.heap.size) (.int .i64 oy) (.int .u64 oz) := (by (repeat first | with_reducible assumption | with_reducible refine ah.alloc ?_ _ | with_reducible refine ah.call ?_ c9)); obtain ⟨⟨CW, C8⟩, Dp, Dz⟩ := id r3;have I8 := ah.lt mc; have I9 := ah.lt r3;have m6 := iY I8; have m7 := iY I9; have Jy := iX I8; have ajZ := iX I9;have aj7 : ¬ (aT.heap.size = w.heap.size + 1 + 1) := by omega
 have aj8 : ¬ (w.heap.size + 1 + 1 = aT.heap.size) := by omega
 by_cases bh : n % d < d - n % d
 ·have IQ := OC bh;rw [IQ];have hv : Hid (ov n d = n / d) := by unfold Hid ov; rw [if_pos bh]
  clear IQ bh
  go_wp2_with fail
  rw [hv.out];refine bodyPost_ret (v := .agg #[.int .i64 oy, .int .u64 oz]) (by simp only [results, Tryz.results270]; go_simp) rfl ⟨_, _, rfl, an, ?_⟩;(repeat first | with_reducible exact Below.refl _ _ | with_reducible refine c7 ?_ _ | focus ((with_reducible refine eV ?_ _ _ _ ?_); rotate_left; omega) | with_reducible refine cc ?_ c9 | with_reducible refine cc ?_ b7 | with_reducible refine cc ?_ bE)
 ·have IQ : 0 ≤ gj (n % d) (d - n % d) := aax.2 (by omega);have hv : Hid (ov n d = n / d + 1) := by unfold Hid ov; rw [if_neg bh]
  have yU := Lib.hid (kn.out (by omega));clear bh;generalize gj (n % d) (d - n % d) = c at *
  go_wp2_with fail
  go_region_held3 (fun w' => w'.cell? ⟨aT.heap.size, 0, none⟩ = some (.int .i64 oy) ∧ w'.cell? ⟨aT.heap.size, 1, none⟩ = some (.int .u64 oz)) (((refine ah.both ?_); ((repeat first | with_reducible assumption | with_reducible refine ah.alloc ?_ _ | with_reducible refine ah.drew ?_ | focus ((with_reducible refine ah.set ?_ _ ?_); rotate_left; omega) | with_reducible refine ah.call ?_ hX | with_reducible refine ah.call ?_ fa); done)))
   (first
    | (go_at_call 224; ((with_reducible refine (sa 1 _ (by omega) (by omega)).mono ?_); rintro e fD ⟨adj, iB, rfl, aB, fa⟩; have aao := Below.size fa; (try simp at aao)))
    | (go_at_call 290; ((with_reducible refine (SU _ _ _ _ _ _ _ an aB).mono ?_); rintro e jc ⟨tA, tB, rfl, hu, hX⟩; rw [if_pos yU.out] at hu; rw [yU.out]; have aap := Below.size hX; (try simp at aap); (try ((refine lP (p := ah jc (w3.heap.size) (.int .i64 0) (.int .u64 0)) ?_ ?_); (repeat first | focus ((with_reducible refine ah.new ?_); simp; done) | with_reducible refine ah.alloc ?_ _ | with_reducible refine ah.drew ?_ | with_reducible refine ah.call ?_ hX | with_reducible refine ah.call ?_ fa | with_reducible refine ah.call ?_ c9 | with_reducible refine ah.call ?_ b7 | with_reducible refine ah.call ?_ bE); intro B3; obtain ⟨⟨ahR, ah8⟩, aiz, aiN⟩ := id B3; have ajF := ah.lt B3; have aj4 := iX (ah.lt B3); have ajV := iY (ah.lt B3))); (try ((refine lP (p := ah jc (fD.heap.size) (.int .i64 0) (.int .u64 0)) ?_ ?_); (repeat first | focus ((with_reducible refine ah.new ?_); simp; done) | with_reducible refine ah.alloc ?_ _ | with_reducible refine ah.drew ?_ | with_reducible refine ah.call ?_ hX | with_reducible refine ah.call ?_ fa | with_reducible refine ah.call ?_ c9 | with_reducible refine ah.call ?_ b7 | with_reducible refine ah.call ?_ bE); intro B4; obtain ⟨⟨ahS, ah9⟩, aiA, aiO⟩ := id B4; have ajG := ah.lt B4; have aj5 := iX (ah.lt B4); have ajW := iY (ah.lt B4))); (try ((refine lP (p := ah jc (w.heap.size + 1 + 1) (.int .i64 0) (.int .u64 0)) ?_ ?_); (repeat first | with_reducible assumption | with_reducible refine ah.alloc ?_ _ | with_reducible refine ah.drew ?_ | with_reducible refine ah.call ?_ hX | with_reducible refine ah.call ?_ fa); intro B5; obtain ⟨⟨ahT, aia⟩, aiB, aiP⟩ := id B5; have ajH := ah.lt B5; have aj6 := iX (ah.lt B5); have ajX := iY (ah.lt B5))))))
  all_goals
   go_wp2_with fail
   rw [hv.out];refine bodyPost_ret (v := .agg #[.int .i64 tA, .int .u64 tB]) (by simp only [results, Tryz.results270]; go_simp) rfl ⟨_, _, rfl, hu, ?_⟩;(repeat first | with_reducible exact Below.refl _ _ | with_reducible refine c7 ?_ _ | focus ((with_reducible refine eV ?_ _ _ _ ?_); rotate_left; omega) | with_reducible refine Below.drew ?_ | with_reducible refine cc ?_ hX | with_reducible refine cc ?_ fa | with_reducible refine cc ?_ c9 | with_reducible refine cc ?_ b7 | with_reducible refine cc ?_ bE)
end Go.Proofs.YtpochbhajmbfdaaGreat
namespace Go.Proofs.YtpochbhajmbfdaaGreat
open Go.RowKit
attribute [local go_sem ↓] Go.wp_at_zero Go.wp_at_succ
def TS (n d : Int) (w : World) (e : Ending) (w' : World) : Prop := ∃ a b c f, e = .returned (.agg #[.int .i64 a, .int .u64 b, .int .i64 c, .int .u64 f]) ∧ bz a b n ∧ bz c f d ∧ Below w.heap.size w w'
def Gp (is : Bool) (n d : Int) (w : World) (e : Ending) (w' : World) : Prop := ∃ a b c f, e = .returned (.tuple #[.agg #[.int .i64 a, .int .u64 b, .int .i64 c, .int .u64 f], .bool is]) ∧ bz a b n ∧ bz c f d ∧ Below w.heap.size w w'
theorem Xn (k : Int) (w : World) (aJ : -9223372036854775808 ≤ k) (h1 : k < 9223372036854775808) : Calls aj 220 #[.int .i64 k] w (TS k 1 w) := by
 have h7 := Lib.hid (fun w => sa k w aJ h1);clear aJ h1
 go_enter Tryz.func220, Tryz.ntmps220
 go_wp2_with fail
 refine (h7.out _).mono ?_;rintro e aT ⟨a, b, rfl, aI, bE⟩
 go_wp2_with fail
 refine (sa 1 _ (by omega) (by omega)).mono ?_;rintro e w2 ⟨c, f, rfl, ak, b7⟩;have bq : dB w2 w.heap.size (.int .i64 0) (.int .u64 0) (.int .i64 0) (.int .u64 0) := by (repeat first | focus ((with_reducible refine dB.new ?_); simp; done) | with_reducible refine dB.call ?_ b7 | with_reducible refine dB.call ?_ bE)
 obtain ⟨⟨ke, p1, p2, p3⟩, db, q1, q2, cr⟩ := id bq
 go_wp2_with fail
 refine bodyPost_ret (v := .agg #[.int .i64 a, .int .u64 b, .int .i64 c, .int .u64 f]) (by simp only [results, Tryz.results220]; go_simp) rfl ⟨_, _, _, _, rfl, aI, ak, ?_⟩;(repeat first | with_reducible exact Below.refl _ _ | with_reducible refine c7 ?_ _ | focus ((with_reducible refine eV ?_ _ _ _ ?_); rotate_left; omega) | with_reducible refine cc ?_ b7 | with_reducible refine cc ?_ bE)
theorem TJ (h l n ar cF d : Int) (w : World) (H : bz h l n) (cn : bz ar cF d) (hd : 0 < d) : Calls aj 223 #[.agg #[.int .i64 h, .int .u64 l], .agg #[.int .i64 ar, .int .u64 cF]] w (Gp true n d w) := by
 have h7 : Hid (∀ w, Calls aj 247 #[.agg #[.int .i64 ar, .int .u64 cF]] w (hD (.int .i64 1) w)) := fun w => by have := Cy ar cF d w cn; rw [aay hd] at this; exact this
 go_enter Tryz.func223, Tryz.ntmps223
 go_wp2_with fail
 refine (h7.out _).mono ?_;rintro e aT ⟨rfl, bE⟩;have gI : ah aT (w.heap.size) (.int .i64 h) (.int .u64 l) := (by (repeat first | focus ((with_reducible refine ah.new ?_); simp; done) | with_reducible refine ah.alloc ?_ _ | with_reducible refine ah.call ?_ bE)); obtain ⟨⟨mi, mj⟩, mm, mn⟩ := id gI; have jV : ah aT (w.heap.size + 1) (.int .i64 ar) (.int .u64 cF) := (by (repeat first | focus ((with_reducible refine ah.new ?_); simp; done) | with_reducible refine ah.alloc ?_ _ | with_reducible refine ah.call ?_ bE)); obtain ⟨⟨pX, p6⟩, qc, qe⟩ := id jV;have bq : dB aT (w.heap.size + 1 + 1) (.int .i64 0) (.int .u64 0) (.int .i64 0) (.int .u64 0) := by (repeat first | focus ((with_reducible refine dB.new ?_); simp; done) | with_reducible refine dB.call ?_ bE)
 obtain ⟨⟨ke, p1, p2, p3⟩, db, q1, q2, cr⟩ := id bq
 go_wp2_with fail
 refine bodyPost_ret (v := .tuple #[.agg #[.int .i64 h, .int .u64 l, .int .i64 ar, .int .u64 cF], .bool true]) (by simp only [results, Tryz.results223]; go_simp) rfl ⟨_, _, _, _, rfl, H, cn, ?_⟩;(repeat first | with_reducible exact Below.refl _ _ | with_reducible refine c7 ?_ _ | focus ((with_reducible refine eV ?_ _ _ _ ?_); rotate_left; omega) | with_reducible refine cc ?_ bE)
def xe (n d : Int) (w : World) (e : Ending) (w' : World) : Prop := Gp (fits (-n) && fits (-d)) (if (fits (-n) && fits (-d)) = true then -n else 0) (if (fits (-n) && fits (-d)) = true then -d else 0) w e w'
theorem afq {n d : Int} {w w' : World} {a b c f : Int} (f1 : fits (-n) = true) (f2 : fits (-d) = true) (h1 : bz a b (-n)) (h2 : bz c f (-d)) (ab : Below w.heap.size w w') : xe n d w (.returned (.tuple #[.agg #[.int .i64 a, .int .u64 b, .int .i64 c, .int .u64 f], .bool true])) w' := by
 unfold xe; rw [f1, f2]; exact ⟨a, b, c, f, rfl, h1, h2, ab⟩
theorem RI {n d : Int} {w w' : World} (h : (fits (-n) && fits (-d)) = false) (ab : Below w.heap.size w w') : xe n d w (.returned (.tuple #[.agg #[.int .i64 0, .int .u64 0, .int .i64 0, .int .u64 0], .bool false])) w' := by
 unfold xe; rw [h]; exact ⟨0, 0, 0, 0, rfl, pb, pb, ab⟩
theorem TI (aI ea n ar cF d : Int) (w : World) (H : bz aI ea n) (cn : bz ar cF d) (hd : d < 0) :
  Calls aj 223 #[.agg #[.int .i64 aI, .int .u64 ea], .agg #[.int .i64 ar, .int .u64 cF]] w (xe n d w) := by
 have h7 : Hid (∀ w, Calls aj 247 #[.agg #[.int .i64 ar, .int .u64 cF]] w (hD (.int .i64 (-1)) w)) := fun w => by have := Cy ar cF d w cn; rw [OC hd] at this; exact this
 have Ac := pb
 go_enter Tryz.func223, Tryz.ntmps223
 go_wp2_with fail
 refine (h7.out _).mono ?_;rintro e aT ⟨rfl, bE⟩;have gI : ah aT (w.heap.size) (.int .i64 aI) (.int .u64 ea) := (by (repeat first | focus ((with_reducible refine ah.new ?_); simp; done) | with_reducible refine ah.alloc ?_ _ | with_reducible refine ah.call ?_ bE)); obtain ⟨⟨mi, mj⟩, mm, mn⟩ := id gI; have jV : ah aT (w.heap.size + 1) (.int .i64 ar) (.int .u64 cF) := (by (repeat first | focus ((with_reducible refine ah.new ?_); simp; done) | with_reducible refine ah.alloc ?_ _ | with_reducible refine ah.call ?_ bE)); obtain ⟨⟨pX, p6⟩, qc, qe⟩ := id jV; have mY := Below.size bE; (try simp at mY); have uP : ¬ aT.heap.size = w.heap.size := (by omega); have wD : ¬ aT.heap.size = w.heap.size + 1 := (by omega); have A3 : ¬ aT.heap.size = w.heap.size + 1 + 1 := (by omega); have ub : ¬ w.heap.size = aT.heap.size := (by omega); have vL : ¬ w.heap.size + 1 = aT.heap.size := (by omega); have zB : ¬ w.heap.size + 1 + 1 = aT.heap.size := (by omega); have uL : w.heap.size < aT.heap.size := (by omega); have wz : w.heap.size + 1 < aT.heap.size := (by omega); have AV : w.heap.size + 1 + 1 < aT.heap.size := (by omega)
 go_wp2_with fail
 refine (KW _ _ _ _ H).mono ?_;rintro e w2 ⟨P2, P3, rfl, aD, b7⟩;have jy : ah w2 (w.heap.size + 1) (.int .i64 ar) (.int .u64 cF) := (by (repeat first | with_reducible assumption | with_reducible refine ah.call ?_ b7)); obtain ⟨⟨pY, p7⟩, qd, qf⟩ := id jy; have oq := Below.size b7; (try simp at oq); have yl : ¬ w2.heap.size = w.heap.size := (by omega); have A4 : ¬ w2.heap.size = w.heap.size + 1 := (by omega); have EP : ¬ w2.heap.size = w.heap.size + 1 + 1 := (by omega); have xF : ¬ w.heap.size = w2.heap.size := (by omega); have zC : ¬ w.heap.size + 1 = w2.heap.size := (by omega); have Dc : ¬ w.heap.size + 1 + 1 = w2.heap.size := (by omega); have yg : w.heap.size < w2.heap.size := (by omega); have AW : w.heap.size + 1 < w2.heap.size := (by omega); have ED : w.heap.size + 1 + 1 < w2.heap.size := (by omega)
 go_wp2_with fail
 refine (KW _ _ _ _ cn).mono ?_;rintro e w3 ⟨WA, WB, rfl, rj, c9⟩;have mc : ah w3 (w2.heap.size) (.int .i64 P2) (.int .u64 P3) := (by (repeat first | focus ((with_reducible refine ah.new ?_); simp; done) | with_reducible refine ah.call ?_ c9)); obtain ⟨⟨xw, xD⟩, xI, xN⟩ := id mc; have sU := Below.size c9; (try simp at sU); have A5 : ¬ w3.heap.size = w.heap.size := (by omega); have EQ : ¬ w3.heap.size = w.heap.size + 1 := (by omega); have JC : ¬ w3.heap.size = w.heap.size + 1 + 1 := (by omega); have zD : ¬ w.heap.size = w3.heap.size := (by omega); have Dd : ¬ w.heap.size + 1 = w3.heap.size := (by omega); have Hd : ¬ w.heap.size + 1 + 1 = w3.heap.size := (by omega); have AX : w.heap.size < w3.heap.size := (by omega); have EE : w.heap.size + 1 < w3.heap.size := (by omega); have Je : w.heap.size + 1 + 1 < w3.heap.size := (by omega);have bq : dB w3 (w.heap.size + 1 + 1) (.int .i64 0) (.int .u64 0) (.int .i64 0) (.int .u64 0) := by (repeat first | focus ((with_reducible refine dB.new ?_); simp; done) | with_reducible refine dB.alloc ?_ _ | with_reducible refine dB.call ?_ c9 | with_reducible refine dB.call ?_ b7 | with_reducible refine dB.call ?_ bE)
 obtain ⟨⟨ke, p1, p2, p3⟩, db, q1, q2, cr⟩ := id bq;have l2 := ah.lt mc; have AN := iY (ah.lt mc); have AO := iX (ah.lt mc);have I7 := bq.lt; have I8 := iY bq.lt; have I9 := iX bq.lt
 by_cases f1 : fits (-n) = true
 ·by_cases f2 : fits (-d) = true
  ·rw [if_pos f1] at aD;rw [if_pos f2] at rj;have pL := Lib.hid f1;have yV := Lib.hid f2;rw [f1, f2];clear f1 f2
   go_wp2_with fail
   refine bodyPost_ret (v := .tuple #[.agg #[.int .i64 P2, .int .u64 P3, .int .i64 WA, .int .u64 WB], .bool true]) (by simp only [results, Tryz.results223]; go_simp) rfl (afq pL.out yV.out aD rj ?_);(repeat first | with_reducible exact Below.refl _ _ | with_reducible refine c7 ?_ _ | focus ((with_reducible refine eV ?_ _ _ _ ?_); rotate_left; omega) | with_reducible refine cc ?_ c9 | with_reducible refine cc ?_ b7 | with_reducible refine cc ?_ bE)
  ·have Hi : fits (-d) = false := by simpa using f2
   have G : Hid ((fits (-n) && fits (-d)) = false) := by unfold Hid; rw [Hi, Bool.and_false]
   rw [f1, Hi];clear f1 f2 Hi aD rj
   go_wp2_with fail
   refine bodyPost_ret (v := .tuple #[.agg #[.int .i64 0, .int .u64 0, .int .i64 0, .int .u64 0], .bool false]) (by simp only [results, Tryz.results223]; go_simp) rfl (RI G.out ?_);(repeat first | with_reducible exact Below.refl _ _ | with_reducible refine c7 ?_ _ | focus ((with_reducible refine eV ?_ _ _ _ ?_); rotate_left; omega) | with_reducible refine cc ?_ c9 | with_reducible refine cc ?_ b7 | with_reducible refine cc ?_ bE)
 ·have sA : fits (-n) = false := by simpa using f1
  have G : Hid ((fits (-n) && fits (-d)) = false) := by unfold Hid; rw [sA, Bool.false_and]
  rw [sA];clear f1 sA aD rj
  go_wp2_with fail
  refine bodyPost_ret (v := .tuple #[.agg #[.int .i64 0, .int .u64 0, .int .i64 0, .int .u64 0], .bool false]) (by simp only [results, Tryz.results223]; go_simp) rfl (RI G.out ?_);(repeat first | with_reducible exact Below.refl _ _ | with_reducible refine c7 ?_ _ | focus ((with_reducible refine eV ?_ _ _ _ ?_); rotate_left; omega) | with_reducible refine cc ?_ c9 | with_reducible refine cc ?_ b7 | with_reducible refine cc ?_ bE)
end Go.Proofs.YtpochbhajmbfdaaGreat
namespace Go.Proofs.YtpochbhajmbfdaaGreat
open Go.RowKit
attribute [local go_sem ↓] Go.wp_at_zero Go.wp_at_succ
theorem dB.cs {w : World} {b : Nat} {u v x y : Value} (h : dB w b u v x y) : w.cell? ⟨b, 0, none⟩ = some u ∧ w.cell? ⟨b, 1, none⟩ = some v ∧ w.cell? ⟨b, 2, none⟩ = some x ∧ w.cell? ⟨b, 3, none⟩ = some y := h.1
def Cw (n : Int) (w : World) (e : Ending) (w' : World) : Prop := ∃ H L, e = .returned (.tuple #[.agg #[.int .i64 H, .int .u64 L], .bool true]) ∧ bz H L n ∧ Below w.heap.size w w'
def lG (n d : Int) (k : Nat) : Int := if k = 0 then ov n d else ov (n / d) (2 ^ k)
theorem aeV {k : Nat} (h : k ≤ 100) : fits ((2 : Int) ^ k) = true := by
 have h1 := Nat.pow_le_pow_right (show 0 < 2 by decide) h;rw [show (2 : Nat) ^ 100 = 1267650600228229401496703205376 by decide] at h1;have h2 := (Rc k).1;have e : ((2 : Int) ^ k) = ((2 ^ k : Nat) : Int) := by simp
 unfold fits;rw [e, cL];generalize (2 : Nat) ^ k = P at *;omega
theorem T6 (aI ea n ar cF d k : Int) (w : World) (H : bz aI ea n) (cn : bz ar cF d) (fY : ¬ (0 < d) ∨ (k < 0 ∨ 100 < k)) : Calls aj 240 #[.agg #[.int .i64 aI, .int .u64 ea, .int .i64 ar, .int .u64 cF], .int .i64 k] w (hD (.tuple #[.agg #[.int .i64 0, .int .u64 0], .bool false]) w) := by
 have h7 := Lib.hid (fun w => Gr aI ea ar cF d w cn)
 have eL : decide (0 < d) = false ∨ (decide (0 < d) = true ∧ k < 0) ∨ (decide (0 < d) = true ∧ 0 ≤ k ∧ 100 < k) := by
  by_cases e : 0 < d
  ·right;rcases fY with q | q | q
   ·exact absurd e q
   ·exact .inl ⟨bF e, q⟩
   ·exact .inr ⟨bF e, by omega, q⟩
  ·exact .inl (b5 e)
 clear fY;rcases eL with e | ⟨e, q⟩ | ⟨e, q, bT⟩
 ·have aP : Hid (∀ w, Calls aj 269 #[.agg #[.int .i64 aI, .int .u64 ea, .int .i64 ar, .int .u64 cF]] w (hD (.bool false) w)) := fun w => by have := h7.out w; rw [e] at this; exact this
  clear e h7
  go_enter Tryz.func240, Tryz.ntmps240
  go_wp2_with (go_at_call 269; ((with_reducible refine (aP.out _).mono ?_); rintro e aT ⟨rfl, bE⟩; have gI : ah aT (w.heap.size + 1) (.int .i64 0) (.int .u64 0) := (by (repeat first | focus ((with_reducible refine ah.new ?_); simp; done) | with_reducible refine ah.call ?_ bE)); obtain ⟨⟨mi, mj⟩, mm, mn⟩ := id gI))
  refine bodyPost_ret (v := .tuple #[.agg #[.int .i64 0, .int .u64 0], .bool false]) (by simp only [results, Tryz.results240]; go_simp) rfl ⟨rfl, ?_⟩;(repeat first | with_reducible exact Below.refl _ _ | with_reducible refine c7 ?_ _ | focus ((with_reducible refine eV ?_ _ _ _ ?_); rotate_left; omega) | with_reducible refine cc ?_ bE)
 ·have aP : Hid (∀ w, Calls aj 269 #[.agg #[.int .i64 aI, .int .u64 ea, .int .i64 ar, .int .u64 cF]] w (hD (.bool true) w)) := fun w => by have := h7.out w; rw [e] at this; exact this
  have WN : decide (k < 0) = true := bF q;clear e h7
  go_enter Tryz.func240, Tryz.ntmps240
  go_wp2_with (go_at_call 269; ((with_reducible refine (aP.out _).mono ?_); rintro e aT ⟨rfl, bE⟩; have gI : ah aT (w.heap.size + 1) (.int .i64 0) (.int .u64 0) := (by (repeat first | focus ((with_reducible refine ah.new ?_); simp; done) | with_reducible refine ah.call ?_ bE)); obtain ⟨⟨mi, mj⟩, mm, mn⟩ := id gI))
  refine bodyPost_ret (v := .tuple #[.agg #[.int .i64 0, .int .u64 0], .bool false]) (by simp only [results, Tryz.results240]; go_simp) rfl ⟨rfl, ?_⟩;(repeat first | with_reducible exact Below.refl _ _ | with_reducible refine c7 ?_ _ | focus ((with_reducible refine eV ?_ _ _ _ ?_); rotate_left; omega) | with_reducible refine cc ?_ bE)
 ·have aP : Hid (∀ w, Calls aj 269 #[.agg #[.int .i64 aI, .int .u64 ea, .int .i64 ar, .int .u64 cF]] w (hD (.bool true) w)) := fun w => by have := h7.out w; rw [e] at this; exact this
  have WN : decide (k < 0) = false := b5 (by omega);clear e h7
  go_enter Tryz.func240, Tryz.ntmps240
  go_wp2_with (go_at_call 269; ((with_reducible refine (aP.out _).mono ?_); rintro e aT ⟨rfl, bE⟩; have gI : ah aT (w.heap.size + 1) (.int .i64 0) (.int .u64 0) := (by (repeat first | focus ((with_reducible refine ah.new ?_); simp; done) | with_reducible refine ah.call ?_ bE)); obtain ⟨⟨mi, mj⟩, mm, mn⟩ := id gI))
  refine bodyPost_ret (v := .tuple #[.agg #[.int .i64 0, .int .u64 0], .bool false]) (by simp only [results, Tryz.results240]; go_simp) rfl ⟨rfl, ?_⟩;(repeat first | with_reducible exact Below.refl _ _ | with_reducible refine c7 ?_ _ | focus ((with_reducible refine eV ?_ _ _ _ ?_); rotate_left; omega) | with_reducible refine cc ?_ bE)
theorem T8 (aI ea n ar cF d : Int) (w : World) (H : bz aI ea n) (cn : bz ar cF d) (hd : 0 < d) : Calls aj 240 #[.agg #[.int .i64 aI, .int .u64 ea, .int .i64 ar, .int .u64 cF], .int .i64 0] w (Cw (ov n d) w) := by
 have aP : Hid (∀ w, Calls aj 269 #[.agg #[.int .i64 aI, .int .u64 ea, .int .i64 ar, .int .u64 cF]] w (hD (.bool true) w)) := fun w => by have := Gr aI ea ar cF d w cn; rw [bF hd] at this; exact this
 have b6 := Lib.hid (fun w => Qa aI ea n ar cF d w H cn hd)
 go_enter Tryz.func240, Tryz.ntmps240
 go_wp2_with (first
  | (go_at_call 269; ((with_reducible refine (aP.out _).mono ?_); rintro e aT ⟨rfl, bE⟩; have kN : dB aT w.heap.size (.int .i64 aI) (.int .u64 ea) (.int .i64 ar) (.int .u64 cF) := (by (repeat first | focus ((with_reducible refine dB.new ?_); simp; done) | with_reducible refine dB.alloc ?_ _ | with_reducible refine dB.call ?_ bE)); obtain ⟨⟨ke, p1, p2, p3⟩, db, q1, q2, cr⟩ := id kN))
  | (go_at_call 270; ((with_reducible refine (b6.out _).mono ?_); rintro e w2 ⟨tn, tp, rfl, al, b7⟩; have jy : ah w2 (w.heap.size + 1) (.int .i64 0) (.int .u64 0) := (by (repeat first | focus ((with_reducible refine ah.new ?_); simp; done) | with_reducible refine ah.call ?_ b7 | with_reducible refine ah.call ?_ bE)); obtain ⟨⟨pY, p7⟩, qd, qf⟩ := id jy)))
 refine bodyPost_ret (v := .tuple #[.agg #[.int .i64 tn, .int .u64 tp], .bool true]) (by simp only [results, Tryz.results240]; go_simp) rfl ⟨_, _, rfl, al, ?_⟩;(repeat first | with_reducible exact Below.refl _ _ | with_reducible refine c7 ?_ _ | focus ((with_reducible refine eV ?_ _ _ _ ?_); rotate_left; omega) | with_reducible refine cc ?_ b7 | with_reducible refine cc ?_ bE)
theorem T7 (aI ea n ar cF d : Int) (k : Nat) (w : World) (H : bz aI ea n) (cn : bz ar cF d) (hd : 0 < d) (hK : 0 < k) (bC : k ≤ 100) : Calls aj 240 #[.agg #[.int .i64 aI, .int .u64 ea, .int .i64 ar, .int .u64 cF], .int .i64 k] w (Cw (ov (n / d) (2 ^ k)) w) := by
 have aP : Hid (∀ w, Calls aj 269 #[.agg #[.int .i64 aI, .int .u64 ea, .int .i64 ar, .int .u64 cF]] w (hD (.bool true) w)) := fun w => by have := Gr aI ea ar cF d w cn; rw [bF hd] at this; exact this
 have b6 : Hid (∀ a b w, bz a b 1 → Calls aj 271 #[.agg #[.int .i64 a, .int .u64 b], .int .i64 k] w (Cw (2 ^ k) w)) := fun a b w h => (T1 a b 1 k w h (by omega) (by omega)).mono fun e w' ⟨p, q, he, hi, ab⟩ => by
  rw [Int.one_mul, k6] at he hi;rw [aeV bC] at he hi;exact ⟨p, q, he, hi, ab⟩
 have fo := Lib.hid (fun w => Tq aI ea n ar cF d w H cn hd);have nS : Hid (∀ a b a' bR w, bz a b (n / d) → bz a' bR (2 ^ k) → Calls aj 270 #[.agg #[.int .i64 a, .int .u64 b], .agg #[.int .i64 a', .int .u64 bR]] w (pS (ov (n / d) (2 ^ k)) w)) := fun a b a' bR w h ar => Qa a b _ a' bR _ w h ar (Rc k).1;generalize j1 : ov (n / d) (2 ^ k) = E at nS ⊢;clear j1;have ajA : ((k : Int) == 0) = false := by simp; omega
 go_enter Tryz.func240, Tryz.ntmps240
 go_wp2_with fail
 refine (aP.out _).mono ?_;rintro e aT ⟨rfl, bE⟩;have fT := Lib.hid bE.size
 go_wp2_with fail
 refine (sa 1 _ (by omega) (by omega)).mono ?_;rintro e w2 ⟨adj, iB, rfl, aB, b7⟩
 go_wp2_with fail
 refine (b6.out _ _ _ aB).mono ?_;rintro e w3 ⟨tA, tB, rfl, hu, c9⟩;have kN : dB w3 w.heap.size (.int .i64 aI) (.int .u64 ea) (.int .i64 ar) (.int .u64 cF) := (by (repeat first | focus ((with_reducible refine dB.new ?_); simp; done) | with_reducible refine dB.alloc ?_ _ | with_reducible refine dB.call ?_ c9 | with_reducible refine dB.call ?_ b7 | with_reducible refine dB.call ?_ bE));have bl : ah w3 (w.heap.size + 1) (.int .i64 0) (.int .u64 0) := (by (repeat first | focus ((with_reducible refine ah.new ?_); simp; done) | with_reducible refine ah.call ?_ c9 | with_reducible refine ah.call ?_ b7 | with_reducible refine ah.call ?_ bE));have ahH : Below w.heap.size w w3 := (by (repeat first | with_reducible exact Below.refl _ _ | with_reducible refine c7 ?_ _ | with_reducible refine cc ?_ c9 | with_reducible refine cc ?_ b7 | with_reducible refine cc ?_ bE));clear bE b7 c9 fT;have l1 := kN.lt; have l2 := bl.lt;have aG : ¬ (w.heap.size = w3.heap.size) := by omega
 have aM : ¬ (w.heap.size + 1 = w3.heap.size) := by omega
 have cD : ¬ (w3.heap.size = w.heap.size) := by omega
 have eR : ¬ (w3.heap.size = w.heap.size + 1) := by omega
 have jC : ¬ (w.heap.size + 1 = w.heap.size) := by omega
 obtain ⟨⟨ke, p1, p2, p3⟩, db, q1, q2, cr⟩ := id kN
 go_wp2_with fail
 have ahD : ah (w3.alloc (.cells #[.int .i64 tA, .int .u64 tB] 159)).drew w3.heap.size (.int .i64 tA) (.int .u64 tB) := (by (repeat first | focus ((with_reducible refine ah.new ?_); simp; done) | with_reducible refine ah.drew ?_));have np := (kN.alloc (.cells #[.int .i64 tA, .int .u64 tB] 159)).drew;have eZ := (bl.alloc (.cells #[.int .i64 tA, .int .u64 tB] 159)).drew
 go_region_held3 (fun w' => (w'.cell? ⟨w.heap.size, 0, none⟩ = some (.int .i64 aI) ∧ w'.cell? ⟨w.heap.size, 1, none⟩ = some (.int .u64 ea) ∧ w'.cell? ⟨w.heap.size, 2, none⟩ = some (.int .i64 ar) ∧ w'.cell? ⟨w.heap.size, 3, none⟩ = some (.int .u64 cF)) ∧ (w'.cell? ⟨w3.heap.size, 0, none⟩ = some (.int .i64 tA) ∧ w'.cell? ⟨w3.heap.size, 1, none⟩ = some (.int .u64 tB)))
  ((refine And.intro (dB.cs ?_) (ah.both ?_) <;> ((repeat first | with_reducible assumption | focus ((with_reducible refine ah.set ?_ _ ?_); rotate_left; omega) | focus ((with_reducible refine dB.set ?_ _ ?_); rotate_left; omega) | with_reducible refine ah.call ?_ hX | with_reducible refine dB.call ?_ hX | with_reducible refine ah.call ?_ fa | with_reducible refine dB.call ?_ fa); done)))
  (first
   | (go_at_call 272; ((with_reducible refine (fo.out _).mono ?_); rintro e fD ⟨aiC, aiD, rfl, aw, fa⟩))
   | (go_at_call 270; ((with_reducible refine (nS.out _ _ _ _ _ aw hu).mono ?_); rintro e jc ⟨tn, tp, rfl, al, hX⟩; have TP := (eZ.call fa).call hX; obtain ⟨⟨t0, t1⟩, t2, t3⟩ := id TP)))
 all_goals
  go_wp2_with fail
  refine bodyPost_ret (v := .tuple #[.agg #[.int .i64 tn, .int .u64 tp], .bool true]) (by simp only [results, Tryz.results240]; go_simp) rfl ⟨_, _, rfl, al, ?_⟩;(repeat first | with_reducible assumption | with_reducible refine c7 ?_ _ | focus ((with_reducible refine eV ?_ _ _ _ ?_); rotate_left; omega) | with_reducible refine Below.drew ?_ | with_reducible refine cc ?_ hX | with_reducible refine cc ?_ fa)
theorem K9 (aI ea n ar cF d : Int) (k : Nat) (w : World) (H : bz aI ea n) (cn : bz ar cF d) (hd : 0 < d) (bC : k ≤ 100) : Calls aj 240 #[.agg #[.int .i64 aI, .int .u64 ea, .int .i64 ar, .int .u64 cF], .int .i64 k] w (Cw (lG n d k) w) := by
 unfold lG;rcases k with _ | k
 ·rw [if_pos rfl]; exact T8 aI ea n ar cF d w H cn hd
 ·rw [if_neg (by omega)]; exact T7 aI ea n ar cF d (k + 1) w H cn hd (by omega) bC
end Go.Proofs.YtpochbhajmbfdaaGreat
namespace Go.Proofs.YtpochbhajmbfdaaGreat
open Go.RowKit
attribute [local go_sem ↓] Go.wp_at_zero Go.wp_at_succ
end Go.Proofs.YtpochbhajmbfdaaGreat
namespace Go.Proofs.YtpochbhajmbfdaaGreat
open Go.RowKit
attribute [local go_sem ↓] Go.wp_at_zero Go.wp_at_succ
end Go.Proofs.YtpochbhajmbfdaaGreat
namespace Go.Proofs.YtpochbhajmbfdaaGreat
open Go.RowKit
attribute [local go_sem ↓] Go.wp_at_zero Go.wp_at_succ
section
variable {w W aT : World} {g jD : Nat} {a b c d s t : Int}
end
end Go.Proofs.YtpochbhajmbfdaaGreat
namespace Go.Proofs.YtpochbhajmbfdaaGreat
open Go.RowKit
def kV (n : Int) : Int := n / 18446744073709551616
def k0 (n : Int) : Int := n % 18446744073709551616
abbrev OW (n : Int) : bK := .agg [.c (.int .i64 (kV n)), .c (.int .u64 (k0 n))]
abbrev rV (n : Int) : ai := .w (OW n)
theorem pc {n : Int} (h : fits n = true) : bz (kV n) (k0 n) n := by
 unfold fits at h;rw [cL] at h;unfold bz kV k0;omega
theorem wv {H L n : Int} (h : bz H L n) : H = kV n ∧ L = k0 n := by
 obtain ⟨a, b, rfl⟩ := h;unfold kV k0;omega
theorem z7 : kV 0 = 0 := by decide
theorem AU : k0 0 = 0 := by decide
theorem aeC {n : Int} (aJ : -9223372036854775808 ≤ n) (h1 : n < 9223372036854775808) : aY aj 224 [aR n] (rV n) :=
 nI [.int .i64 n] (.agg #[.int .i64 (kV n), .int .u64 (k0 n)]) rfl rfl rfl rfl rfl fun W => (sa n W aJ h1).mono fun e w' ⟨H, L, he, hw, ab⟩ => by
  obtain ⟨rfl, rfl⟩ := wv hw; exact ⟨he, ab⟩
abbrev wf (z : Int) : ai := .dd [OW (if fits z then z else 0), .one (.c (.bool (fits z)))]
theorem af2 {z : Int} {w w' : World} {e : Ending} (h : mJ z w e w') : e = .returned (.tuple #[.agg #[.int .i64 (kV (if fits z then z else 0)), .int .u64 (k0 (if fits z then z else 0))], .bool (fits z)]) ∧ Below w.heap.size w w' := by
 obtain ⟨H, L, he, hw, ab⟩ := h;obtain ⟨rfl, rfl⟩ := wv hw;exact ⟨he, ab⟩
theorem aeD {n m : Int} (f : fits n = true) (g : fits m = true) : aY aj 221 [rV n, rV m] (wf (n - m)) :=
 nI [.agg #[.int .i64 (kV n), .int .u64 (k0 n)], .agg #[.int .i64 (kV m), .int .u64 (k0 m)]] _ rfl rfl rfl rfl rfl fun W => (La _ _ _ _ _ _ W (pc f) (pc g)).mono fun e w' h => af2 h
abbrev Dq (n d : Int) : bK := .agg [.c (.int .i64 (kV n)), .c (.int .u64 (k0 n)), .c (.int .i64 (kV d)), .c (.int .u64 (k0 d))]
abbrev fv (n d : Int) : ai := .w (Dq n d)
abbrev fx (n d : Int) : Value := .agg #[.int .i64 (kV n), .int .u64 (k0 n), .int .i64 (kV d), .int .u64 (k0 d)]
abbrev fM (n : Int) : Value := .agg #[.int .i64 (kV n), .int .u64 (k0 n)]
theorem afp {n d : Int} {a b c f : Int} {w w' : World} {e : Ending} (he : e = .returned (.agg #[.int .i64 a, .int .u64 b, .int .i64 c, .int .u64 f])) (h1 : bz a b n) (h2 : bz c f d) (ab : Below w.heap.size w w') : e = .returned (fx n d) ∧ Below w.heap.size w w' := by
 obtain ⟨rfl, rfl⟩ := wv h1;obtain ⟨rfl, rfl⟩ := wv h2;exact ⟨he, ab⟩
theorem RH {s : Bool} {n d : Int} {w w' : World} {e : Ending} (h : Gp s n d w e w') : e = .returned (.tuple #[fx n d, .bool s]) ∧ Below w.heap.size w w' := by
 obtain ⟨a, b, c, f, he, h1, h2, ab⟩ := h;obtain ⟨rfl, rfl⟩ := wv h1;obtain ⟨rfl, rfl⟩ := wv h2;exact ⟨he, ab⟩
theorem af1 {n : Int} {w w' : World} {e : Ending} (h : pS n w e w') : e = .returned (fM n) ∧ Below w.heap.size w w' := by
 obtain ⟨a, b, he, h1, ab⟩ := h;obtain ⟨rfl, rfl⟩ := wv h1;exact ⟨he, ab⟩
theorem QP {k : Int} (aJ : -9223372036854775808 ≤ k) (h1 : k < 9223372036854775808) : aY aj 220 [aR k] (fv k 1) :=
 nI [.int .i64 k] (fx k 1) rfl rfl rfl rfl rfl fun W => (Xn k W aJ h1).mono fun e w' ⟨a, b, c, f, he, h1, h2, ab⟩ => afp he h1 h2 ab
theorem adP {n d : Int} (f : fits n = true) (g : fits d = true) (hd : 0 < d) : aY aj 223 [rV n, rV d] (.dd [Dq n d, .one (.c (.bool true))]) :=
 nI [fM n, fM d] (.tuple #[fx n d, .bool true]) rfl rfl rfl rfl rfl fun W => (TJ _ _ n _ _ d W (pc f) (pc g) hd).mono fun e w' h => RH h
theorem adO {n d : Int} (f : fits n = true) (g : fits d = true) (hd : d < 0) {s : Bool} {x y : Int} (hs : (fits (-n) && fits (-d)) = s) (aa : x = if s then -n else 0) (ag : y = if s then -d else 0) : aY aj 223 [rV n, rV d] (.dd [Dq x y, .one (.c (.bool s))]) :=
 nI [fM n, fM d] (.tuple #[fx x y, .bool s]) rfl rfl rfl rfl rfl fun W => (TI _ _ n _ _ d W (pc f) (pc g) hd).mono fun e w' h => by unfold xe at h; rw [hs] at h; rw [aa, ag]; exact RH h
theorem P8 {n d : Int} (hd : 0 < d) : ov n d = (n + n + d) / (d * 2) := by
 have h1 := ti n d;have h2 := pz n (show d ≠ 0 by omega);have ao := oE n hd;unfold ov;generalize n / d = q at *;generalize n % d = r at *;have e : n + n + d = (r + r + d) + q * (d * 2) := by rw [← h1, kf q (d * 2), lD, Int.mul_left_comm d 2 q]; omega
 rw [e, Int.add_mul_ediv_right _ _ (by omega)]
 split
 ·rw [Int.ediv_eq_zero_of_lt (by omega) (by omega)]; omega
 ·have : (r + r + d) / (d * 2) = 1 := by
   rw [show r + r + d = (r + r - d) + 1 * (d * 2) by omega, Int.add_mul_ediv_right _ _ (by omega), Int.ediv_eq_zero_of_lt (by omega) (by omega)];omega
  rw [this]; omega
theorem agA {n d : Int} (k : Nat) (hd : 0 < d) : (n + n + d * 2 ^ k) / (d * 2 ^ (k + 1)) = lG n d k := by
 unfold lG;rcases k with _ | k
 ·rw [if_pos rfl, P8 hd];simp
 ·rw [if_neg (by omega), P8 (jM (by decide))];have hp : (0 : Int) < 2 ^ k := jM (by decide);rw [Int.pow_succ 2 (k + 1), Int.pow_succ 2 k];generalize (2 : Int) ^ k = Q at *
  have aG : (n + n + d * (Q * 2)) / (d * (Q * 2 * 2)) = (n + d * Q) / (d * (Q * 2)) := by
   rw [show n + n + d * (Q * 2) = 2 * (n + d * Q) by rw [kf Q 2, Int.mul_left_comm]; omega, show d * (Q * 2 * 2) = 2 * (d * (Q * 2)) by rw [kf (Q * 2) 2, Int.mul_left_comm], Int.mul_ediv_mul_of_pos _ _ (by decide)]
  have aM : (n / d + n / d + Q * 2) / (Q * 2 * 2) = (n / d + Q) / (Q * 2) := by
   rw [show n / d + n / d + Q * 2 = 2 * (n / d + Q) by omega, kf (Q * 2) 2, Int.mul_ediv_mul_of_pos _ _ (by decide)]
  rw [aG, aM, ← yx (by omega), kf d Q, Int.add_mul_ediv_right _ _ (by omega)]
end Go.Proofs.YtpochbhajmbfdaaGreat
