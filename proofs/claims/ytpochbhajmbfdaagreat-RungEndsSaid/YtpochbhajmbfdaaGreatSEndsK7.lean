/-
  My own texts, without what this claim does not need. My own text.
-/
import Derived.Deep.QuietTactic
import Derived.Deep.DeepCutAuto
import Derived.Deep.CutBlock
import Derived.Deep.DrawnRows
import Derived.RegionTactic
import Derived.Deep.LoopGhost
import Derived.Test.YtpochbhajmbfdaaGreatSEndsK6
set_option maxRecDepth 100000
set_option maxHeartbeats 64000000
set_option linter.unusedVariables false
set_option linter.unusedSimpArgs false
set_option linter.unusedSectionVars false
open Go.Proofs.Tryz renaming prog → ai
namespace Go.Proofs.YtpochbhajmbfdaaGreat
structure hy (u d a b : Int) : Prop where
  a0 : 2147483648 ≤ a
  a1 : a < 4294967296
  n6 : 0 ≤ b
  b1 : b < 4294967296
  j6 : 0 ≤ u
  cG : u < a * 4294967296 + b
  d0 : 0 ≤ d
  d1 : d < 4294967296
def iM (u d a b : Int) : Int := (u * 4294967296 + d) / (a * 4294967296 + b)
def hW (u d a b : Int) : Int := (u * 4294967296 + d) % (a * 4294967296 + b)
structure lF (u d a b q r : Int) : Prop where
  sum : q * a + r = u
  cY : 0 ≤ q
  h3 : 0 ≤ r
  le : iM u d a b ≤ q
variable {u d a b q r : Int}
theorem hy.nW (h : hy u d a b) : 0 < a * 4294967296 + b := by have := h.a0; have := h.n6; omega
theorem hy.cY (h : hy u d a b) : 0 ≤ iM u d a b := pO (by have := h.j6; have := h.d0; omega) (pP h.nW)
theorem hy.D0 (h : hy u d a b) : iM u d a b < 4294967296 := by
  unfold iM;refine Int.ediv_lt_of_lt_mul h.nW ?_;have h1 := h.cG; have h2 := h.d1;generalize a * 4294967296 + b = y at *;omega
theorem hy.le_iff (h : hy u d a b) (q : Int) : q ≤ iM u d a b ↔ q * (a * 4294967296 + b) ≤ u * 4294967296 + d := by
  unfold iM;exact pQ h.nW
theorem H5 (q a b : Int) : q * (a * 4294967296 + b) = q * a * 4294967296 + q * b := by rw [Int.mul_add, kV]
theorem hy.init (h : hy u d a b) : lF u d a b (u / a) (u - u / a * a) := by
  have aK : 0 < a := by have := h.a0; omega
  refine ⟨by omega, pO h.j6 (pP aK), ?_, ?_⟩
  · have := Int.ediv_mul_le u (show a ≠ 0 by omega)
    omega
  · have h1 := (h.le_iff _).1 (oM _)
    rw [H5] at h1;rw [pQ aK];have h2 := hL h.cY h.n6;have ap := h.d1;omega
theorem hy.Nd (h : hy u d a b) : u - u / a * a < a ∧ u - u / a * a < 4294967296 := by
  have aK : 0 < a := by have := h.a0; omega
  have h1 := nN u aK;rw [Int.emod_def, jG] at h1;have := h.a1;omega
theorem lF.down (h : hy u d a b) (t : lF u d a b q r) (k : 4294967296 ≤ q ∨ 4294967296 * r + d < q * b) : lF u d a b (q - 1) (r + a) ∧ 1 ≤ q := by
  have bj : iM u d a b < q := by
    rcases k with k | k
    · exact Int.lt_of_lt_of_le h.D0 k
    · rcases pN (iM u d a b) q with l | l
      · exact l
      · have h1 := (h.le_iff q).1 l
        rw [H5] at h1;have h2 := t.sum;generalize q * a = nK at *;generalize q * b = nL at *;omega
  have aH := h.cY;refine ⟨⟨?_, by omega, by have := t.h3; have := h.a0; omega, by omega⟩, by omega⟩;rw [Int.sub_mul, ← t.sum];omega
theorem lF.done (h : hy u d a b) (t : lF u d a b q r) (k : q * b ≤ 4294967296 * r + d) : q = iM u d a b := by
  have h1 : q ≤ iM u d a b := by
    rw [h.le_iff, H5];have h2 := t.sum;generalize q * a = nK at *;generalize q * b = nL at *;omega
  have := t.le;omega
theorem lF.DY (h : hy u d a b) (t : lF u d a b q r) : q < 8589934592 := by
  rcases pN q 8589934592 with l | l
  · exact l
  · have h1 : 8589934592 * 2147483648 ≤ q * a := sq l h.a0 (by omega) t.cY
    have h2 := t.sum; have ap := h.cG; have aL := h.b1; have dk := h.a1; have fV := t.h3;omega
theorem lF.small (h : hy u d a b) (t : lF u d a b q r) (k : 4294967296 ≤ r) : q < 4294967296 := by
  rcases pN q 4294967296 with l | l
  · exact l
  · have h1 := pL l (show (0 : Int) ≤ a by have := h.a0; omega)
    have h2 := t.sum; have ap := h.cG; have aL := h.b1;omega
theorem lF.oA (h : hy u d a b) (t : lF u d a b q r) (k : q < 4294967296) : 0 ≤ q * b ∧ q * b < 18446744073709551616 := by
  refine ⟨hL t.cY h.n6, ?_⟩;have h1 : q * b ≤ 4294967295 * 4294967295 := sq (by omega) (by have := h.b1; omega) h.n6 (by omega);omega
theorem lF.out (h : hy u d a b) (t : lF u d a b q r) (k : 4294967296 ≤ r) : q = iM u d a b := by
  have h1 := t.small h k;refine t.done h ?_;have h2 := (t.oA h h1).2;have ap := h.d0;omega
theorem hy.rest (h : hy u d a b) : IntKind.u64.wrap (IntKind.u64.wrap (IntKind.u64.wrap (u * 4294967296) + d) - IntKind.u64.wrap (iM u d a b * (a * 4294967296 + b))) = hW u d a b := by
  have h1 : u * 4294967296 + d - iM u d a b * (a * 4294967296 + b) = hW u d a b := by
    unfold iM hW;rw [Int.emod_def, jG (a * 4294967296 + b)]
  have h2 : 0 ≤ hW u d a b := oQ _ (by have := h.nW; omega);have ap : hW u d a b < a * 4294967296 + b := nN _ h.nW;have aL := h.a1; have dk := h.b1;simp only [IntKind.wrap_u64];generalize hW u d a b = k at *;generalize iM u d a b * (a * 4294967296 + b) = p at *;omega
theorem hy.next (h : hy u d a b) (e : Int) (dp : 0 ≤ e ∧ e < 4294967296) : hy (hW u d a b) e a b :=
  ⟨h.a0, h.a1, h.n6, h.b1, oQ _ (by have := h.nW; omega), nN _ h.nW, dp.1, dp.2⟩
theorem hy.two (h : hy u d a b) (e : Int) (dp : 0 ≤ e ∧ e < 4294967296) :
    iM u d a b * 4294967296 + iM (hW u d a b) e a b = (u * 18446744073709551616 + d * 4294967296 + e) / (a * 4294967296 + b) ∧ hW (hW u d a b) e a b = (u * 18446744073709551616 + d * 4294967296 + e) % (a * 4294967296 + b) := by
  have k := h.next e dp
  have nW := h.nW;have s1 : u * 4294967296 + d = (a * 4294967296 + b) * iM u d a b + hW u d a b := (sn _ _).symm;have s2 : hW u d a b * 4294967296 + e = (a * 4294967296 + b) * iM (hW u d a b) e a b + hW (hW u d a b) e a b := (sn _ _).symm;have h3 : 0 ≤ hW (hW u d a b) e a b := oQ _ (by omega);have cQ : hW (hW u d a b) e a b < a * 4294967296 + b := nN _ nW;generalize hW (hW u d a b) e a b = R at *;generalize iM (hW u d a b) e a b = mE at *;generalize hW u d a b = bl at *;generalize iM u d a b = ka at *;generalize a * 4294967296 + b = y at *
  have t : u * 18446744073709551616 + d * 4294967296 + e = R + y * (ka * 4294967296 + mE) := by
    rw [Int.mul_add, ← kV];generalize y * ka = p at *;generalize y * mE = p2 at *;omega
  rw [t]
  constructor
  · rw [Int.add_mul_ediv_left _ _ (by omega), Int.ediv_eq_zero_of_lt h3 cQ]
    omega
  · rw [Int.add_mul_emod_self_left, Int.emod_eq_of_lt h3 cQ]
structure Lz (y s : Int) : Prop where
  en : 0 ≤ s
  s1 : s < 64
  lo : 9223372036854775808 ≤ y * 2 ^ s.toNat
  hi : y * 2 ^ s.toNat < 18446744073709551616
theorem aao (y : Int) (aH : 0 < y) (h1 : y < 18446744073709551616) : Lz y (64 - (Lib.bitLen y.toNat : Int)) := by
  obtain ⟨n, rfl⟩ := mr (pP aH);rw [ks];rcases NL n (by omega) with ⟨h, _⟩ | ⟨l1, _, zx, zy⟩
  · omega
  · have l2 : Lib.bitLen n ≤ 64 := Lib.bitLen_le n 64 (dW _) (by rw [qW]; omega)
    have e : (64 - (Lib.bitLen n : Int)).toNat = 64 - Lib.bitLen n := by omega
    have f : (n : Int) * 2 ^ (64 - Lib.bitLen n) = ((n * 2 ^ (64 - Lib.bitLen n) : Nat) : Int) := by simp
    have g1 : 2 ^ 63 ≤ n * 2 ^ (64 - Lib.bitLen n) := by
      have := j1 (2 ^ (64 - Lib.bitLen n)) zx;rw [← Nat.pow_add, show Lib.bitLen n - 1 + (64 - Lib.bitLen n) = 63 by omega] at this;exact this
    have g2 : n * 2 ^ (64 - Lib.bitLen n) < 2 ^ 64 := by
      have := Nat.mul_lt_mul_of_pos_right zy (Nat.two_pow_pos (64 - Lib.bitLen n));rw [← Nat.pow_add, show Lib.bitLen n + (64 - Lib.bitLen n) = 64 by omega] at this;exact this
    rw [qW] at g2;rw [show (2 : Nat) ^ 63 = 9223372036854775808 by decide] at g1;exact ⟨by omega, by omega, by rw [e, f]; omega, by rw [e, f]; omega⟩
structure Nm (hi lo y s U V Y : Int) : Prop where
  y : Y = y * 2 ^ s.toNat
  n : (hi * 18446744073709551616 + lo) * 2 ^ s.toNat = U * 18446744073709551616 + V
  j6 : 0 ≤ U
  cG : U < Y
  v0 : 0 ≤ V
  v1 : V < 18446744073709551616
theorem abk {hi lo y s : Int} (aH : 0 ≤ hi) (h1 : hi < y) (l : 0 ≤ lo ∧ lo < 18446744073709551616) (k : Lz y s) :
    Nm hi lo y s (bits .or .u64 (IntKind.u64.wrap (hi * 2 ^ s.toNat)) (lo / 2 ^ (64 - s).toNat)) (IntKind.u64.wrap (lo * 2 ^ s.toNat)) (IntKind.u64.wrap (y * 2 ^ s.toNat)) := by
  have jF : (0 : Int) < 2 ^ s.toNat := jI (by omega)
  have t : (hi * 18446744073709551616 + lo) * 2 ^ s.toNat < y * 2 ^ s.toNat * 18446744073709551616 := by
    rw [Int.mul_right_comm];exact Int.mul_lt_mul_of_pos_right (by omega) jF
  have ox := k.hi;obtain ⟨H, aI, aO, cD⟩ := Qz hi lo s aH l ⟨k.en, k.s1⟩ (by omega)
  have w : IntKind.u64.wrap (y * 2 ^ s.toNat) = y * 2 ^ s.toNat := by
    have := k.lo;rw [IntKind.wrap_u64];omega
  rw [aI, w];have v : 0 ≤ IntKind.u64.wrap (lo * 2 ^ s.toNat) ∧ IntKind.u64.wrap (lo * 2 ^ s.toNat) < 18446744073709551616 := by rw [IntKind.wrap_u64]; omega
  refine ⟨rfl, cD, aO.1, ?_, v.1, v.2⟩;rw [cD] at t;omega
theorem Ko (x : Int) (h : 0 ≤ x ∧ x < 18446744073709551616) : bits .and .u64 x 4294967295 = x % 4294967296 := by
  obtain ⟨X, rfl⟩ := mr h.1;have h1 := bits_and_u64_nat X 4294967295 (by omega) (by omega);rw [show X &&& 4294967295 = X % 4294967296 from Nat.and_two_pow_sub_one_eq_mod X 32] at h1;rw [show ((4294967295 : Nat) : Int) = 4294967295 from rfl] at h1;rw [h1];omega
theorem Nm.ZO {hi lo y s U V Y : Int} (h : Nm hi lo y s U V Y) (k : Lz y s) : hy U (V / 4294967296) (Y / 4294967296) (Y % 4294967296) := by
  have a := h.y; have b := h.j6; have c := h.cG; have d := h.v0; have e := h.v1; have f := k.lo; have g := k.hi
  constructor <;> omega
theorem Nm.quo {hi lo y s U V Y : Int} (h : Nm hi lo y s U V Y) (k : Lz y s) : (U * 18446744073709551616 + V / 4294967296 * 4294967296 + V % 4294967296) / (Y / 4294967296 * 4294967296 + Y % 4294967296) = (hi * 18446744073709551616 + lo) / y ∧
    (U * 18446744073709551616 + V / 4294967296 * 4294967296 + V % 4294967296) % (Y / 4294967296 * 4294967296 + Y % 4294967296) / 2 ^ s.toNat = (hi * 18446744073709551616 + lo) % y := by
  have jF : (0 : Int) < 2 ^ s.toNat := jI (by omega);rw [show U * 18446744073709551616 + V / 4294967296 * 4294967296 + V % 4294967296 = U * 18446744073709551616 + V by omega, show Y / 4294967296 * 4294967296 + Y % 4294967296 = Y by omega, ← h.n, h.y];generalize (2 : Int) ^ s.toNat = p at *
  constructor
  · exact Int.mul_ediv_mul_of_pos_left _ _ jF
  · rw [Int.emod_def, Int.mul_ediv_mul_of_pos_left _ _ jF, Int.mul_right_comm, ← Int.sub_mul, Int.mul_ediv_cancel _ (by omega), Int.emod_def]
end Go.Proofs.YtpochbhajmbfdaaGreat
namespace Go.Proofs.YtpochbhajmbfdaaGreat
theorem PG (s : Int) (en : 0 ≤ s) (s1 : s < 64) : (2 : Int) * 2 ^ (63 - s).toNat * 2 ^ s.toNat = 18446744073709551616 ∧ (0 : Int) < 2 ^ (63 - s).toNat ∧ (0 : Int) < 2 ^ s.toNat := by
  refine ⟨?_, jI (by omega), jI (by omega)⟩;rw [kV, ← Int.pow_add, show (63 - s).toNat + s.toNat = 63 by omega];decide
theorem WI (A b s T low : Int) (bS : 0 ≤ A) (kx : A ≤ 170141183460469231731687303715884105728) (en : 0 ≤ s) (s1 : s < 64) (e : b * 2 ^ s.toNat = T * 18446744073709551616 + low) (qz : 0 ≤ low) (l1 : low < 18446744073709551616) (SA : 9223372036854775808 ≤ T) :
    A / b ≤ A / 2 / T / 2 ^ (63 - s).toNat ∧ A / 2 / T / 2 ^ (63 - s).toNat ≤ A / b + 1 ∧ A / 2 / T / 2 ^ (63 - s).toNat ≤ 9223372036854775808 := by
  obtain ⟨p1, p2, p3⟩ := PG s en s1;generalize (2 : Int) ^ (63 - s).toNat = c at *;generalize (2 : Int) ^ s.toNat = p at *;rw [xu (show (0 : Int) ≤ T by omega), xu (show (0 : Int) ≤ 2 by omega)]
 
  have kf : T * (2 * c) * p = T * 18446744073709551616 := by rw [kV, p1]
  have c2 : 2 ≤ 2 * c := by omega
  have RF : 18446744073709551616 ≤ T * (2 * c) := by
    have := sq SA c2 (by omega) (by omega);omega
  have Va : T * (2 * c) ≤ b := by
    have : T * (2 * c) * p ≤ b * p := by rw [kf, e]; omega
    exact Int.le_of_mul_le_mul_right this p3
  have agr : b < T * (2 * c) + 2 * c := by
    have : b * p < (T * (2 * c) + 2 * c) * p := by rw [Int.add_mul, kf, p1, e]; omega
    exact Int.lt_of_mul_lt_mul_right this (pP p3)
  rw [show 2 * (T * c) = T * (2 * c) by rw [← kV, jG 2 T, kV]];generalize ag6 : T * (2 * c) = D at *;have RJ : 0 < D := by omega
  have TV : 0 < b := by omega
  have g1 : A / D * D ≤ A := Int.ediv_mul_le A (by omega);have g0 : 0 ≤ A / D := pO bS (by omega)
  have gt : A / D ≤ 9223372036854775808 := by
    rcases pN 9223372036854775808 (A / D) with h | h
    · have := sq (show 9223372036854775809 ≤ A / D by omega) RF (by omega) g0
      omega
    · exact h
  refine ⟨?_, ?_, gt⟩
  · rw [pQ RJ]
    have h1 : A / b * b ≤ A := Int.ediv_mul_le A (by omega);have h2 : A / b * D ≤ A / b * b := pK Va (pO bS (by omega));omega
  · have : A / D - 1 ≤ A / b := by
      rw [pQ TV];rcases pN 0 (A / D) with h | h
      · have h2 : (A / D - 1) * b ≤ (A / D - 1) * (D + 2 * c) := pK (by omega) (by omega)
        have ap : (A / D - 1) * (2 * c) ≤ T * (2 * c) := pL (by omega) (by omega);rw [Int.mul_add, Int.sub_mul (A / D) 1 D, Int.one_mul] at h2;omega
      · have h2 : (A / D - 1) * b ≤ 0 := Int.mul_nonpos_of_nonpos_of_nonneg (by omega) (by omega)
        omega
    omega
theorem abM (h l : Nat) (h1 : h * 9223372036854775808 < 18446744073709551616) (h2 : l < 9223372036854775808) (ap : h * 9223372036854775808 + l < 18446744073709551616) :
    bits .or .u64 ((h * 9223372036854775808 : Nat) : Int) (l : Int) = ((h * 9223372036854775808 + l : Nat) : Int) := by
  have e := Ig h l 63;rw [show (2 : Nat) ^ 63 = 9223372036854775808 by decide] at e;exact e h1 h2 ap
theorem W8 (h l : Int) (uH : 0 ≤ h ∧ h < 18446744073709551616) (sU : 0 ≤ l ∧ l < 18446744073709551616) :
    ∃ L, bits .or .u64 (IntKind.u64.wrap (h * 9223372036854775808)) (l / 2) = L ∧ (0 ≤ L ∧ L < 18446744073709551616) ∧ h / 2 * 18446744073709551616 + L = (h * 18446744073709551616 + l) / 2 := by
  obtain ⟨a, rfl⟩ := mr uH.1;obtain ⟨b, rfl⟩ := mr sU.1
  have aP : IntKind.u64.wrap ((a : Int) * 9223372036854775808) = ((a % 2 * 9223372036854775808 : Nat) : Int) := by
    rw [IntKind.wrap_u64];omega
  have w2 : (b : Int) / 2 = ((b / 2 : Nat) : Int) := by omega
  refine ⟨_, rfl, ?_⟩;rw [aP, w2, abM _ _ (by omega) (by omega) (by omega)];omega
theorem aap {h l s : Int} (k : Lz h s) (aH : 0 ≤ h) (qz : 0 ≤ l) (l1 : l < 18446744073709551616) :
    (h * 18446744073709551616 + l) * 2 ^ s.toNat < 340282366920938463463374607431768211456 ∧ 170141183460469231731687303715884105728 ≤ (h * 18446744073709551616 + l) * 2 ^ s.toNat := by
  obtain ⟨p1, p2, p3⟩ := PG s k.en k.s1;have lo := k.lo; have hi := k.hi;generalize (2 : Int) ^ (63 - s).toNat = c at *;generalize (2 : Int) ^ s.toNat = p at *
  have ak : h < 2 * c := by
    rw [← p1] at hi;exact Int.lt_of_mul_lt_mul_right hi (pP p3)
  have h2 : (h + 1) * p ≤ 2 * c * p := pL (by omega) (pP p3);have ap : l * p ≤ 18446744073709551615 * p := pL (by omega) (pP p3);have aL : 0 ≤ l * p := hL qz (pP p3);rw [Int.add_mul, Int.one_mul, p1] at h2;rw [Int.add_mul, Int.mul_right_comm];generalize h * p = hp at *;generalize l * p = ahW at *;omega
end Go.Proofs.YtpochbhajmbfdaaGreat
namespace Go.Proofs.YtpochbhajmbfdaaGreat
open Go.RowKit
theorem TR {w W : World} (h : Below w.heap.size w W) (n : Nat) : Below w.heap.size w (W.drewN n) := ⟨h.os, h.tape, h.output, h.size, h.block⟩
def Sm (y : Int) (w : World) (e : Ending) (w' : World) : Prop := ∃ s : Int, e = .returned (.int .i64 s) ∧ Lz y s ∧ w = w'
theorem NZ (y : Int) (w : World) (aH : 0 < y) (h1 : y < 18446744073709551616) : Calls ai 305 #[.int .u64 y] w (Sm y w) := by
  refine (Tryz.bits_LeadingZeros64 y w (by omega) (by omega)).mono ?_;rintro e w' ⟨rfl, rfl⟩;exact ⟨_, rfl, aao y aH h1, rfl⟩
theorem adG {a b c d : Int} (h : a = c) (k : b = d) : Ending.returned (.tuple #[.int .u64 a, .int .u64 b]) = .returned (.tuple #[.int .u64 c, .int .u64 d]) := by rw [h, k]
def Bh (q r : Int) (w : World) (e : Ending) (w' : World) : Prop := e = .returned (.tuple #[.int .u64 q, .int .u64 r]) ∧ Below w.heap.size w w'
theorem U1 (lo y : Int) (w : World) (l : 0 ≤ lo ∧ lo < 18446744073709551616) (nW : 0 < y) (lz : y < 18446744073709551616) :
    Calls ai 301 #[.int .u64 0, .int .u64 lo, .int .u64 y] w (Bh (lo / y) (lo % y) w) := by
  have mn : (y == 0) = false := by simp; omega
  have ig : decide (y ≤ 0) = false := by simp; omega
  obtain ⟨qz, l1⟩ := l
  go_enter Tryz.func301, Tryz.ntmps301
  go_wp2
  go_quiet (fail)
  go_wp2
  go_ret2
  exact ⟨rfl, TR (Below.refl _ _) _⟩
theorem U0 (hi lo y : Int) (w : World) (aH : 0 < hi) (h1 : hi < y) (l : 0 ≤ lo ∧ lo < 18446744073709551616) (lz : y < 18446744073709551616) :
    Calls ai 301 #[.int .u64 hi, .int .u64 lo, .int .u64 y] w (Bh ((hi * 18446744073709551616 + lo) / y) ((hi * 18446744073709551616 + lo) % y) w) := by
  have mn : (y == 0) = false := by simp; omega
  have ig : decide (y ≤ hi) = false := by simp; omega
  have jA : (hi == 0) = false := by simp; omega
  go_enter Tryz.func301, Tryz.ntmps301
  go_wp2_with fail
  refine (NZ y _ (by omega) lz).mono ?_;rintro e aP ⟨s, rfl, hs, rfl⟩;have pE := hs.en; have ol := hs.s1;have YH : IntKind.u64.wrap s = s := by rw [IntKind.wrap_u64]; omega
  have tx := abk (pP aH) h1 l hs;generalize dz : bits .or .u64 (IntKind.u64.wrap (hi * 2 ^ s.toNat)) (lo / 2 ^ (64 - s).toNat) = U at tx;generalize pt : IntKind.u64.wrap (lo * 2 ^ s.toNat) = V at tx;generalize Me : IntKind.u64.wrap (y * 2 ^ s.toNat) = Y at tx;have jW := tx.ZO hs;have G8 := tx.quo hs;have Mf : 0 ≤ Y ∧ Y < 18446744073709551616 := by have := jW.a0; have := jW.a1; omega
  have Mk := Ko Y Mf;have Mi := Ko V ⟨tx.v0, tx.v1⟩;have two := jW.two (V % 4294967296) (by omega);rw [G8.1] at two;have Mg : Y / 4294967296 * 4294967296 + Y % 4294967296 = Y := by omega
  have D5 := jW.rest;have zw := jW.next (V % 4294967296) (by omega)
  have Aa := zw.rest;rw [Mg] at D5 Aa;have Vg : 0 ≤ V % 4294967296 ∧ V % 4294967296 < 4294967296 := by omega
  generalize hd : V / 4294967296 = d at *;generalize he : V % 4294967296 = e at *;generalize aK : Y / 4294967296 = a at *;generalize ab : Y % 4294967296 = b at *;have a0 := jW.a0; have a1 := jW.a1; have n6 := jW.n6; have b1 := jW.b1; have j6 := jW.j6; have d0 := jW.d0; have d1 := jW.d1;have cG : U < 18446744073709551616 := by have := jW.cG; omega
  have afU : (a == 0) = false := by simp; omega
  have xN := Lib.hid two; have RT := Lib.hid G8.2; have uk := Lib.hid jW; have lE := Lib.hid zw;have adm := jW.D0; have adl := jW.cY; have Iw := zw.D0; have Iv := zw.cY;have t1 := jW.init; have QJ := jW.Nd;have i1 := t1.DY jW;have i2 : 0 ≤ U / a := t1.cY
  have i3 : IntKind.u64.wrap (U / a * a) = U / a * a := by
    have := t1.sum; have := t1.h3; rw [IntKind.wrap_u64];have : 0 ≤ U / a * a := hL i2 (by omega);omega
  have i4 := t1.h3;have i7 : 0 ≤ U / a * a := hL i2 (by omega);obtain ⟨m1, wX⟩ : ∃ m, m = U / a * a := ⟨_, rfl⟩;rw [← wX] at i4 i7 t1 QJ;have ahz : IntKind.u64.wrap (U / a * a) = m1 := by rw [i3, wX]
  obtain ⟨i5, i6⟩ := QJ;have qb := Lib.hid t1;generalize Ma : iM U d a b = ka at *;generalize W3 : hW U d a b = k5 at *;have ES := Lib.hid Ma;have RU := Lib.hid D5; have RV := Lib.hid Aa;clear two G8 jW zw tx Mg Vg Mf h1 aH l lz i3 wX t1 Ma W3 D5 Aa
  go_upto_block 0 with fail
  go_cut [15, 16] (fun Ai vC fo => w = fo ∧ Ai = .int .u64 ka ∧ ∃ r, vC = .int .u64 r)
  case first =>
    go_wp2_with fail
    go_loop [15, 16] (fun Ai vC => ∃ q r : Int, Ai = .int .u64 q ∧ vC = .int .u64 r ∧ lF U d a b q r ∧ r < 4294967296) (fun Ai _ => (intOf Ai).toNat)
    case atStart => exact ⟨_, _, rfl, rfl, qb.out, i6⟩
    case round =>
      obtain ⟨q, r, rfl, rfl, aD, aq⟩ := hrel;have al := aD.DY uk.out;have tA := aD.cY;have Yl := aD.h3
      by_cases ab : 4294967296 ≤ q
      · obtain ⟨fQ, mf⟩ := aD.down uk.out (.inl ab)
        have mD := Lib.hid fQ;clear fQ
        by_cases aa : 4294967296 ≤ r + a
        · have iJ := mD.out.out uk.out aa
          rw [ES.out] at iJ;have lZ := Lib.hid iJ;clear iJ
          go_wp2_with fail
          go_meet
          exact ⟨rfl, congrArg _ lZ.out, _, rfl⟩
        · go_wp2_with fail
          go_round
          case rel => exact ⟨_, _, rfl, rfl, mD.out, by omega⟩
          case measure => simp [intOf]; omega
      · have GW := aD.oA uk.out (by omega)
        obtain ⟨P, fa⟩ : ∃ P, P = q * b := ⟨_, rfl⟩;rw [← fa] at GW;have WY : IntKind.u64.wrap (q * b) = P := by rw [← fa, IntKind.wrap_u64]; omega
        have re := Lib.hid fa;clear fa
        by_cases ak : 4294967296 * r + d < P
        · obtain ⟨fQ, mf⟩ := aD.down uk.out (.inr (by rw [← re.out]; exact ak))
          have mD := Lib.hid fQ;clear fQ
          by_cases aa : 4294967296 ≤ r + a
          · have iJ := mD.out.out uk.out aa
            rw [ES.out] at iJ;have lZ := Lib.hid iJ;clear iJ
            go_wp2_with fail
            go_meet
            exact ⟨rfl, congrArg _ lZ.out, _, rfl⟩
          · go_wp2_with fail
            go_round
            case rel => exact ⟨_, _, rfl, rfl, mD.out, by omega⟩
            case measure => simp [intOf]; omega
        · have iJ := aD.done uk.out (by rw [← re.out]; omega)
          rw [ES.out] at iJ;have lZ := Lib.hid iJ;clear iJ
          go_wp2_with fail
          go_meet
          exact ⟨rfl, congrArg _ lZ.out, _, rfl⟩
  case rest =>
    obtain ⟨rfl, rfl, cQ, rfl⟩ := hcut;have D5 := RU.out;have v0 := lE.out.j6;have v1 : k5 < 18446744073709551616 := by have := lE.out.cG; omega
    have dp := lE.out.d0; have aI := lE.out.d1;have t2 := lE.out.init; have QK := lE.out.Nd;have qy := t2.DY lE.out;have C4 : 0 ≤ k5 / a := t2.cY
    have Nv : IntKind.u64.wrap (k5 / a * a) = k5 / a * a := by
      have := t2.sum; have := t2.h3; rw [IntKind.wrap_u64];have : 0 ≤ k5 / a * a := hL C4 (by omega);omega
    have Zg := t2.h3;have Zi : 0 ≤ k5 / a * a := hL C4 (by omega);obtain ⟨m2, nx⟩ : ∃ m, m = k5 / a * a := ⟨_, rfl⟩;rw [← nx] at Zg Zi t2 QK;have ahL : IntKind.u64.wrap (k5 / a * a) = m2 := by rw [Nv, nx]
    obtain ⟨ahM, Zh⟩ := QK;have vX := Lib.hid t2;obtain ⟨mE, Gr⟩ : ∃ Q, Q = iM k5 e a b := ⟨_, rfl⟩;have xO := Lib.hid Gr.symm;have Iv := lE.out.cY; have Iw := lE.out.D0;rw [← Gr] at Iv Iw;clear Nv nx t2 Gr
    go_upto_block 2 with fail
    go_cut [18, 16] (fun Aj vC fo => w = fo ∧ Aj = .int .u64 mE ∧ ∃ r, vC = .int .u64 r)
    case first =>
      go_wp2_with fail
      go_loop [18, 16] (fun Aj vC => ∃ q r : Int, Aj = .int .u64 q ∧ vC = .int .u64 r ∧ lF k5 e a b q r ∧ r < 4294967296) (fun Aj _ => (intOf Aj).toNat)
      case atStart => exact ⟨_, _, rfl, rfl, vX.out, Zh⟩
      case round =>
        obtain ⟨q, r, rfl, rfl, aD, aq⟩ := hrel;have al := aD.DY lE.out;have tA := aD.cY;have Yl := aD.h3
        by_cases ab : 4294967296 ≤ q
        · obtain ⟨fQ, mf⟩ := aD.down lE.out (.inl ab)
          have mD := Lib.hid fQ;clear fQ
          by_cases aa : 4294967296 ≤ r + a
          · have iJ := mD.out.out lE.out aa
            rw [xO.out] at iJ;have lZ := Lib.hid iJ;clear iJ
            go_wp2_with fail
            go_meet
            exact ⟨rfl, congrArg _ lZ.out, _, rfl⟩
          · go_wp2_with fail
            go_round
            case rel => exact ⟨_, _, rfl, rfl, mD.out, by omega⟩
            case measure => simp [intOf]; omega
        · have GW := aD.oA lE.out (by omega)
          obtain ⟨P, fa⟩ : ∃ P, P = q * b := ⟨_, rfl⟩;rw [← fa] at GW;have WY : IntKind.u64.wrap (q * b) = P := by rw [← fa, IntKind.wrap_u64]; omega
          have re := Lib.hid fa;clear fa
          by_cases ak : 4294967296 * r + e < P
          · obtain ⟨fQ, mf⟩ := aD.down lE.out (.inr (by rw [← re.out]; exact ak))
            have mD := Lib.hid fQ;clear fQ
            by_cases aa : 4294967296 ≤ r + a
            · have iJ := mD.out.out lE.out aa
              rw [xO.out] at iJ;have lZ := Lib.hid iJ;clear iJ
              go_wp2_with fail
              go_meet
              exact ⟨rfl, congrArg _ lZ.out, _, rfl⟩
            · go_wp2_with fail
              go_round
              case rel => exact ⟨_, _, rfl, rfl, mD.out, by omega⟩
              case measure => simp [intOf]; omega
          · have iJ := aD.done lE.out (by rw [← re.out]; omega)
            rw [xO.out] at iJ;have lZ := Lib.hid iJ;clear iJ
            go_wp2_with fail
            go_meet
            exact ⟨rfl, congrArg _ lZ.out, _, rfl⟩
    case rest =>
      obtain ⟨rfl, rfl, dN, rfl⟩ := hcut;have Aa := RV.out;rw [xO.out] at Aa;have fin := xN.out;have F1 := RT.out;rw [xO.out] at fin;rw [← fin.2] at F1;have RO := Lib.hid fin.1;have RP := Lib.hid F1;generalize hW k5 e a b = R at *;clear fin F1
      go_wp2
      go_ret2
      exact ⟨adG RO.out RP.out, Below.refl _ _⟩
theorem FL (hi lo y : Int) (w : World) (aH : 0 ≤ hi) (h1 : hi < y) (l : 0 ≤ lo ∧ lo < 18446744073709551616) (lz : y < 18446744073709551616) :
    Calls ai 301 #[.int .u64 hi, .int .u64 lo, .int .u64 y] w (Bh ((hi * 18446744073709551616 + lo) / y) ((hi * 18446744073709551616 + lo) % y) w) := by
  by_cases h : hi = 0
  · subst h
    rw [Int.zero_mul, Int.zero_add];exact U1 lo y w l (by omega) lz
  · exact U0 hi lo y w (by omega) h1 l lz
end Go.Proofs.YtpochbhajmbfdaaGreat
namespace Go.Proofs.YtpochbhajmbfdaaGreat
open Go.RowKit
theorem V2 (x y : Int) (w : World) : (Instr.field 311 (.agg #[.int .u64 x, .int .u64 y]) 0).run ai w = .ok (.int .u64 x) w := by kernel_rfl
attribute [local go_sem] V2
def Sk (q : Int) (w : World) (e : Ending) (w' : World) : Prop := ∃ g : Int, e = .returned (.int .u64 g) ∧ (0 ≤ g ∧ g ≤ q ∧ q ≤ g + 1 ∧ g < 18446744073709551616) ∧ Below w.heap.size w w'
theorem WD (h1 l1 n h2 l2 m : Int) (w : World) (H1 : cJ h1 l1 n) (cd : cJ h2 l2 m) (aE : n ≤ 170141183460469231731687303715884105728) (hm : h2 ≠ 0) :
    Calls ai 302 #[.agg #[.int .u64 h1, .int .u64 l1], .agg #[.int .u64 h2, .int .u64 l2]] w (Sk (n / m) w) := by
  obtain ⟨b1, b2, aI⟩ := id H1;obtain ⟨ed, dD, aO⟩ := id cd
  go_enter Tryz.func302, Tryz.ntmps302
  go_wp2_with fail
  refine (NZ h2 _ (by omega) (by omega)).mono ?_;rintro e aP ⟨s, rfl, hs, rfl⟩;have pE := hs.en; have ol := hs.s1;have YH : IntKind.u64.wrap s = s := by rw [IntKind.wrap_u64]; omega
  go_wp2_with fail
  obtain ⟨Am, Ei⟩ := aap hs ed.1 dD.1 dD.2;rw [← aO] at Am Ei;refine (Qy _ _ m s _ cd pE (by omega) Am).mono ?_;rintro e aP ⟨T, low, rfl, dZ, bD⟩;have ga : ag aP (w.heap.size) (.int .u64 h1) (.int .u64 l1) := (by (repeat first | focus ((with_reducible refine ag.new ?_); simp; done) | with_reducible refine ag.alloc ?_ _ | with_reducible refine ag.call ?_ bD)); obtain ⟨⟨lG, lH⟩, lJ, lK⟩ := id ga; have jl : ag aP (w.heap.size + 1) (.int .u64 h2) (.int .u64 l2) := (by (repeat first | focus ((with_reducible refine ag.new ?_); simp; done) | with_reducible refine ag.call ?_ bD)); obtain ⟨⟨o9, pe⟩, pk, po⟩ := id jl; have mh := Below.size bD; (try simp at mh); have tJ : ¬ aP.heap.size = w.heap.size := (by omega); have vm : ¬ aP.heap.size = w.heap.size + 1 := (by omega); have s8 : ¬ w.heap.size = aP.heap.size := (by omega); have uM : ¬ w.heap.size + 1 = aP.heap.size := (by omega); have tG : w.heap.size < aP.heap.size := (by omega); have vi : w.heap.size + 1 < aP.heap.size := (by omega);obtain ⟨TP, sU, Lh⟩ := dZ;have W1 : 9223372036854775808 ≤ T := by omega
  obtain ⟨L, iH, WW, L6⟩ := W8 h1 l1 b1 b2;have aw := WI n m s T low (by omega) aE pE ol Lh sU.1 sU.2 W1;have a6 : h1 / 2 < T := by omega
  have hdiv : Hid (∀ w, Calls ai 301 #[.int .u64 (h1 / 2), .int .u64 L, .int .u64 T] w (Bh (n / 2 / T) ((h1 / 2 * 18446744073709551616 + L) % T) w)) := fun w => by
    rw [aI, ← L6];exact FL (h1 / 2) L T w (by omega) a6 WW TP.2
  have tA : 0 ≤ n / 2 / T := pO (by omega) (by omega);have yY : 0 ≤ n / m := pO (by omega) (by omega);generalize n / 2 / T = Q at *;generalize n / m = q at *;clear Am Ei L6 aI aO Lh aE hm H1 cd;obtain ⟨ahf, ahg, ahh⟩ := aw
  go_wp2_with fail
  refine (hdiv.out _).mono ?_;rintro e w2 ⟨rfl, bZ⟩
  go_wp2_with fail
  · have cq : (Q / 2 ^ (63 - s).toNat != 0) = true := by assumption
    go_ret
    refine ⟨_, rfl, ?_, by (repeat first | with_reducible exact Below.refl _ _ | with_reducible refine cT ?_ _ | with_reducible refine b4 ?_ bZ | with_reducible refine b4 ?_ bD)⟩;generalize Q / 2 ^ (63 - s).toNat = G at *;rw [bne_iff_ne] at cq
    first | (rw [IntKind.wrap_u64]; omega) | omega
  · have cq : (Q / 2 ^ (63 - s).toNat != 0) = false := by assumption
    go_ret
    refine ⟨_, rfl, ?_, by (repeat first | with_reducible exact Below.refl _ _ | with_reducible refine cT ?_ _ | with_reducible refine b4 ?_ bZ | with_reducible refine b4 ?_ bD)⟩;generalize Q / 2 ^ (63 - s).toNat = G at *;rw [bne_eq_false_iff_eq] at cq;omega
def E5 (q r : Int) (w : World) (e : Ending) (w' : World) : Prop := ∃ a b c d : Int, e = .returned (.tuple #[.agg #[.int .u64 a, .int .u64 b], .agg #[.int .u64 c, .int .u64 d]]) ∧ cJ a b q ∧ cJ c d r ∧ Below w.heap.size w w'
theorem U5 {h1 l1 n m : Int} (H1 : cJ h1 l1 n) (m0 : 0 < m) (m1 : m < 18446744073709551616) :
    cJ (h1 / m) ((h1 % m * 18446744073709551616 + l1) / m) (n / m) ∧ cJ 0 ((h1 % m * 18446744073709551616 + l1) % m) (n % m) := by
  obtain ⟨b1, b2, rfl⟩ := H1;have h3 := oQ h1 (show m ≠ 0 by omega);have cQ := nN h1 m0
  have e : h1 * 18446744073709551616 + l1 = (h1 % m * 18446744073709551616 + l1) + m * (h1 / m * 18446744073709551616) := by
    have := sn h1 m;rw [← kV];generalize m * (h1 / m) = k at *;omega
  have cY : 0 ≤ h1 / m := pO b1.1 (by omega);have q1 : h1 / m ≤ h1 := Int.ediv_le_self _ b1.1;have en := oQ (h1 % m * 18446744073709551616 + l1) (show m ≠ 0 by omega);have s1 := nN (h1 % m * 18446744073709551616 + l1) m0;have t0 : 0 ≤ (h1 % m * 18446744073709551616 + l1) / m := pO (by omega) (by omega);have t1 : (h1 % m * 18446744073709551616 + l1) / m < 18446744073709551616 := Int.ediv_lt_of_lt_mul m0 (by omega)
  constructor
  · refine ⟨by omega, by omega, ?_⟩
    rw [e, Int.add_mul_ediv_left _ _ (by omega)];omega
  · refine ⟨by omega, by omega, ?_⟩
    rw [e, Int.add_mul_emod_self_left];omega
theorem U4 (h1 l1 n l2 : Int) (w : World) (H1 : cJ h1 l1 n) (cd : cJ 0 l2 l2) (m0 : 0 < l2) :
    Calls ai 298 #[.agg #[.int .u64 h1, .int .u64 l1], .agg #[.int .u64 0, .int .u64 l2]] w (E5 (n / l2) (n % l2) w) := by
  have m1 : l2 < 18446744073709551616 := cd.2.1.2;have hd := U5 H1 m0 m1;have mD := Lib.hid hd;have b1 := H1.1; have b2 := H1.2.1;have h3 := oQ h1 (show l2 ≠ 0 by omega);have cQ := nN h1 m0;clear hd
  go_enter Tryz.func298, Tryz.ntmps298
  go_wp2_with fail
  refine (FL 0 h1 l2 _ (by omega) m0 b1 m1).mono ?_;rintro e aP ⟨rfl, bD⟩;rw [Int.zero_mul, Int.zero_add];have ga : ag aP (w.heap.size) (.int .u64 h1) (.int .u64 l1) := (by (repeat first | focus ((with_reducible refine ag.new ?_); simp; done) | with_reducible refine ag.alloc ?_ _ | with_reducible refine ag.call ?_ bD)); obtain ⟨⟨lG, lH⟩, lJ, lK⟩ := id ga; have jl : ag aP (w.heap.size + 1) (.int .u64 0) (.int .u64 l2) := (by (repeat first | focus ((with_reducible refine ag.new ?_); simp; done) | with_reducible refine ag.alloc ?_ _ | with_reducible refine ag.call ?_ bD)); obtain ⟨⟨o9, pe⟩, pk, po⟩ := id jl; have oW : ag aP (w.heap.size + 1 + 1) (.int .u64 0) (.int .u64 0) := (by (repeat first | focus ((with_reducible refine ag.new ?_); simp; done) | with_reducible refine ag.alloc ?_ _ | with_reducible refine ag.call ?_ bD)); obtain ⟨⟨wk, wv⟩, wB, wG⟩ := id oW; have q5 : ag aP (w.heap.size + 1 + 1 + 1) (.int .u64 0) (.int .u64 0) := (by (repeat first | focus ((with_reducible refine ag.new ?_); simp; done) | with_reducible refine ag.call ?_ bD)); obtain ⟨⟨yh, yp⟩, yA, yE⟩ := id q5; have mh := Below.size bD; (try simp at mh); have tJ : ¬ aP.heap.size = w.heap.size := (by omega); have vm : ¬ aP.heap.size = w.heap.size + 1 := (by omega); have zK : ¬ aP.heap.size = w.heap.size + 1 + 1 := (by omega); have Ov : ¬ aP.heap.size = w.heap.size + 1 + 1 + 1 := (by omega); have s8 : ¬ w.heap.size = aP.heap.size := (by omega); have uM : ¬ w.heap.size + 1 = aP.heap.size := (by omega); have yu : ¬ w.heap.size + 1 + 1 = aP.heap.size := (by omega); have Ls : ¬ w.heap.size + 1 + 1 + 1 = aP.heap.size := (by omega); have tG : w.heap.size < aP.heap.size := (by omega); have vi : w.heap.size + 1 < aP.heap.size := (by omega); have zE : w.heap.size + 1 + 1 < aP.heap.size := (by omega); have NU : w.heap.size + 1 + 1 + 1 < aP.heap.size := (by omega);generalize h1 % l2 = R at *;generalize h1 / l2 = Q at *
  go_wp2_with fail
  refine (FL R l1 l2 _ h3 cQ b2 m1).mono ?_;rintro e w2 ⟨rfl, bZ⟩;have iT : ag w2 (w.heap.size) (.int .u64 h1) (.int .u64 l1) := (by (repeat first | with_reducible assumption | with_reducible refine ag.call ?_ bZ)); obtain ⟨⟨pa, pf⟩, pn, pp⟩ := id iT; have lA : ag w2 (w.heap.size + 1) (.int .u64 0) (.int .u64 l2) := (by (repeat first | with_reducible assumption | with_reducible refine ag.call ?_ bZ)); obtain ⟨⟨sV, s4⟩, tc, th⟩ := id lA; have lB : ag w2 (w.heap.size + 1 + 1) (.int .u64 0) (.int .u64 0) := (by (repeat first | with_reducible assumption | with_reducible refine ag.call ?_ bZ)); obtain ⟨⟨sW, s5⟩, td, ti⟩ := id lB; have q6 : ag w2 (w.heap.size + 1 + 1 + 1) (.int .u64 0) (.int .u64 0) := (by (repeat first | with_reducible assumption | with_reducible refine ag.call ?_ bZ)); obtain ⟨⟨yi, yq⟩, yB, yF⟩ := id q6; have nE := Below.size bZ; (try simp at nE); have xf : ¬ w2.heap.size = w.heap.size := (by omega); have zL : ¬ w2.heap.size = w.heap.size + 1 := (by omega); have Dw : ¬ w2.heap.size = w.heap.size + 1 + 1 := (by omega); have Ow : ¬ w2.heap.size = w.heap.size + 1 + 1 + 1 := (by omega); have wy : ¬ w.heap.size = w2.heap.size := (by omega); have yv : ¬ w.heap.size + 1 = w2.heap.size := (by omega); have B0 : ¬ w.heap.size + 1 + 1 = w2.heap.size := (by omega); have Lt : ¬ w.heap.size + 1 + 1 + 1 = w2.heap.size := (by omega); have xa : w.heap.size < w2.heap.size := (by omega); have zF : w.heap.size + 1 < w2.heap.size := (by omega); have Di : w.heap.size + 1 + 1 < w2.heap.size := (by omega); have NV : w.heap.size + 1 + 1 + 1 < w2.heap.size := (by omega);generalize (R * 18446744073709551616 + l1) / l2 = mE at *;generalize (R * 18446744073709551616 + l1) % l2 = eV at *
  go_wp2_with fail
  refine bodyPost_ret (v := .tuple #[.agg #[.int .u64 Q, .int .u64 mE], .agg #[.int .u64 0, .int .u64 eV]]) (by simp only [results, Tryz.results298]; go_simp) rfl ⟨_, _, _, _, rfl, mD.out.1, mD.out.2, ?_⟩;(repeat first | with_reducible exact Below.refl _ _ | with_reducible refine cT ?_ _ | focus ((with_reducible refine eJ ?_ _ _ _ ?_); rotate_left; omega) | with_reducible refine b4 ?_ bZ | with_reducible refine b4 ?_ bD)
end Go.Proofs.YtpochbhajmbfdaaGreat
namespace Go.Proofs.YtpochbhajmbfdaaGreat
open Go.RowKit
theorem WE {n m g : Int} (mn : 0 ≤ n) (m0 : 0 < m) (ig : n < 340282366920938463463374607431768211456) (h : g ≤ n / m) (g0 : 0 ≤ g) : kI (g * m) = true ∧ g * m ≤ n := by
  have h1 : g * m ≤ n := (pQ m0).1 h;unfold kI;rw [cE];exact ⟨by omega, h1⟩
theorem WG {n m g : Int} (m0 : 0 < m) (h : g ≤ n / m) (k : n - g * m < m) : g = n / m ∧ n - g * m = n % m := by
  have h1 : g * m ≤ n := (pQ m0).1 h;have h2 : n / m < g + 1 := Int.ediv_lt_of_lt_mul m0 (by rw [Int.add_mul]; omega);have e : g = n / m := by omega
  refine ⟨e, ?_⟩;rw [Int.emod_def, e, jG]
theorem WH {n m g : Int} (m0 : 0 < m) (h : n / m ≤ g + 1) (k : ¬ n - g * m < m) : g + 1 = n / m ∧ n - g * m - m = n % m := by
  have h2 : g + 1 ≤ n / m := (pQ m0).2 (by rw [Int.add_mul]; omega);have e : g + 1 = n / m := by omega
  refine ⟨e, ?_⟩;rw [Int.emod_def, ← e, jG m, Int.add_mul];omega
theorem adw {n m g : Int} (mn : 0 ≤ n) (aE : n ≤ 170141183460469231731687303715884105728) (m0 : 18446744073709551616 ≤ m) (h : g ≤ n / m) : g < 9223372036854775809 := by
  rcases pN g 9223372036854775809 with k | k
  · exact k
  · have h1 : g * m ≤ n := (pQ (by omega)).1 h
    have h2 : 9223372036854775809 * 18446744073709551616 ≤ g * m := sq k m0 (by omega) (by omega);omega
theorem U3 (h1 l1 n h2 l2 m : Int) (w : World) (H1 : cJ h1 l1 n) (cd : cJ h2 l2 m) (aE : n ≤ 170141183460469231731687303715884105728) (hm : h2 ≠ 0) :
    Calls ai 298 #[.agg #[.int .u64 h1, .int .u64 l1], .agg #[.int .u64 h2, .int .u64 l2]] w (E5 (n / m) (n % m) w) := by
  have mn : 0 ≤ n := by have := H1; unfold cJ at this; omega
  have m0 : 0 < m := by have := cd; unfold cJ at this; omega
  have aix : (h2 == 0) = false := by simpa using hm
  go_enter Tryz.func298, Tryz.ntmps298
  go_wp2_with fail
  refine (WD _ _ _ _ _ _ _ H1 cd aE hm).mono ?_;rintro e aP ⟨g, rfl, ⟨g0, g1, g2, g3⟩, bD⟩;have ga : ag aP (w.heap.size) (.int .u64 h1) (.int .u64 l1) := (by (repeat first | focus ((with_reducible refine ag.new ?_); simp; done) | with_reducible refine ag.alloc ?_ _ | with_reducible refine ag.call ?_ bD)); obtain ⟨⟨lG, lH⟩, lJ, lK⟩ := id ga; have jl : ag aP (w.heap.size + 1) (.int .u64 h2) (.int .u64 l2) := (by (repeat first | focus ((with_reducible refine ag.new ?_); simp; done) | with_reducible refine ag.alloc ?_ _ | with_reducible refine ag.call ?_ bD)); obtain ⟨⟨o9, pe⟩, pk, po⟩ := id jl; have oW : ag aP (w.heap.size + 1 + 1) (.int .u64 0) (.int .u64 0) := (by (repeat first | focus ((with_reducible refine ag.new ?_); simp; done) | with_reducible refine ag.alloc ?_ _ | with_reducible refine ag.call ?_ bD)); obtain ⟨⟨wk, wv⟩, wB, wG⟩ := id oW; have q5 : ag aP (w.heap.size + 1 + 1 + 1) (.int .u64 0) (.int .u64 0) := (by (repeat first | focus ((with_reducible refine ag.new ?_); simp; done) | with_reducible refine ag.call ?_ bD)); obtain ⟨⟨yh, yp⟩, yA, yE⟩ := id q5; have mh := Below.size bD; (try simp at mh); have tJ : ¬ aP.heap.size = w.heap.size := (by omega); have vm : ¬ aP.heap.size = w.heap.size + 1 := (by omega); have zK : ¬ aP.heap.size = w.heap.size + 1 + 1 := (by omega); have Ov : ¬ aP.heap.size = w.heap.size + 1 + 1 + 1 := (by omega); have s8 : ¬ w.heap.size = aP.heap.size := (by omega); have uM : ¬ w.heap.size + 1 = aP.heap.size := (by omega); have yu : ¬ w.heap.size + 1 + 1 = aP.heap.size := (by omega); have Ls : ¬ w.heap.size + 1 + 1 + 1 = aP.heap.size := (by omega); have tG : w.heap.size < aP.heap.size := (by omega); have vi : w.heap.size + 1 < aP.heap.size := (by omega); have zE : w.heap.size + 1 + 1 < aP.heap.size := (by omega); have NU : w.heap.size + 1 + 1 + 1 < aP.heap.size := (by omega);have qo : cJ 0 g g := by unfold cJ; omega
  obtain ⟨Wv, Ww⟩ := WE mn m0 (by omega) g1 g0;have GU := WG m0 g1;have GX := WH m0 g2;generalize Mv : g * m = Gc at *;have g4 : g < 9223372036854775809 := adw mn aE (by have := cd; unfold cJ at this; omega) g1;clear hm
  go_wp2_with fail
  refine (On _ _ _ _ _ _ _ qo cd).mono ?_;rw [Mv];rintro e w2 ⟨ph, pl, rfl, hp, bZ⟩;rw [if_pos Wv] at hp;clear Mv;have iT : ag w2 (w.heap.size) (.int .u64 h1) (.int .u64 l1) := (by (repeat first | with_reducible assumption | with_reducible refine ag.call ?_ bZ)); obtain ⟨⟨pa, pf⟩, pn, pp⟩ := id iT; have lA : ag w2 (w.heap.size + 1) (.int .u64 h2) (.int .u64 l2) := (by (repeat first | with_reducible assumption | with_reducible refine ag.call ?_ bZ)); obtain ⟨⟨sV, s4⟩, tc, th⟩ := id lA; have lB : ag w2 (w.heap.size + 1 + 1) (.int .u64 0) (.int .u64 0) := (by (repeat first | with_reducible assumption | with_reducible refine ag.call ?_ bZ)); obtain ⟨⟨sW, s5⟩, td, ti⟩ := id lB; have q6 : ag w2 (w.heap.size + 1 + 1 + 1) (.int .u64 0) (.int .u64 0) := (by (repeat first | with_reducible assumption | with_reducible refine ag.call ?_ bZ)); obtain ⟨⟨yi, yq⟩, yB, yF⟩ := id q6; have nE := Below.size bZ; (try simp at nE); have xf : ¬ w2.heap.size = w.heap.size := (by omega); have zL : ¬ w2.heap.size = w.heap.size + 1 := (by omega); have Dw : ¬ w2.heap.size = w.heap.size + 1 + 1 := (by omega); have Ow : ¬ w2.heap.size = w.heap.size + 1 + 1 + 1 := (by omega); have wy : ¬ w.heap.size = w2.heap.size := (by omega); have yv : ¬ w.heap.size + 1 = w2.heap.size := (by omega); have B0 : ¬ w.heap.size + 1 + 1 = w2.heap.size := (by omega); have Lt : ¬ w.heap.size + 1 + 1 + 1 = w2.heap.size := (by omega); have xa : w.heap.size < w2.heap.size := (by omega); have zF : w.heap.size + 1 < w2.heap.size := (by omega); have Di : w.heap.size + 1 + 1 < w2.heap.size := (by omega); have NV : w.heap.size + 1 + 1 + 1 < w2.heap.size := (by omega);clear ga lG lH lJ lK jl o9 pe pk po oW wk wv wB wG q5 yh yp yA yE tJ s8 tG vm uM vi zK yu zE Ov Ls NU
  go_wp2_with fail
  refine (QH _ _ _ _ _ _ _ H1 hp Ww).mono ?_;rintro e w3 ⟨je, jf, rfl, aq, cV⟩;have lC : ag w3 (w.heap.size) (.int .u64 h1) (.int .u64 l1) := (by (repeat first | with_reducible assumption | with_reducible refine ag.alloc ?_ _ | with_reducible refine ag.call ?_ cV)); obtain ⟨⟨wm, wx⟩, wC, wH⟩ := id lC; have q9 : ag w3 (w.heap.size + 1) (.int .u64 h2) (.int .u64 l2) := (by (repeat first | with_reducible assumption | with_reducible refine ag.alloc ?_ _ | with_reducible refine ag.call ?_ cV)); obtain ⟨⟨BK, BV⟩, Cb, Ck⟩ := id q9; have vM : ag w3 (w.heap.size + 1 + 1) (.int .u64 0) (.int .u64 0) := (by (repeat first | with_reducible assumption | with_reducible refine ag.alloc ?_ _ | with_reducible refine ag.call ?_ cV)); obtain ⟨⟨Fz, FJ⟩, FZ, Ga⟩ := id vM; have Jn : ag w3 (w.heap.size + 1 + 1 + 1) (.int .u64 0) (.int .u64 0) := (by (repeat first | with_reducible assumption | with_reducible refine ag.alloc ?_ _ | with_reducible refine ag.call ?_ cV)); obtain ⟨⟨Ua, UR⟩, VW, Wo⟩ := id Jn; have rZ := Below.size cV; (try simp at rZ); have zM : ¬ w3.heap.size = w.heap.size := (by omega); have Dx : ¬ w3.heap.size = w.heap.size + 1 := (by omega); have Ib : ¬ w3.heap.size = w.heap.size + 1 + 1 := (by omega); have aa3 : ¬ w3.heap.size = w.heap.size + 1 + 1 + 1 := (by omega); have yw : ¬ w.heap.size = w3.heap.size := (by omega); have B1 : ¬ w.heap.size + 1 = w3.heap.size := (by omega); have FU : ¬ w.heap.size + 1 + 1 = w3.heap.size := (by omega); have Vs : ¬ w.heap.size + 1 + 1 + 1 = w3.heap.size := (by omega); have zG : w.heap.size < w3.heap.size := (by omega); have Dj : w.heap.size + 1 < w3.heap.size := (by omega); have HO : w.heap.size + 1 + 1 < w3.heap.size := (by omega); have aal : w.heap.size + 1 + 1 + 1 < w3.heap.size := (by omega);clear iT pa pf pn pp lA sV s4 tc th lB sW s5 td ti q6 yi yq yB yF xf wy xa zL yv zF Dw B0 Di Ow Lt NV
  go_wp2_with fail
  refine (aae _ _ _ _ _ _ _ aq cd).mono ?_;rintro e fh ⟨rfl, eZ⟩;have abt : ¬ w.heap.size + 1 + 1 + 1 = w.heap.size := by omega
  have abr : ¬ w.heap.size + 1 + 1 = w.heap.size := by omega
  have AO : ag fh (w.heap.size) (.int .u64 h1) (.int .u64 l1) := (by (repeat first | with_reducible assumption | focus ((with_reducible refine ag.set ?_ _ ?_); rotate_left; omega) | with_reducible refine ag.call ?_ eZ)); obtain ⟨⟨KI, K7⟩, LF, LV⟩ := id AO; have AP : ag fh (w.heap.size + 1) (.int .u64 h2) (.int .u64 l2) := (by (repeat first | with_reducible assumption | focus ((with_reducible refine ag.set ?_ _ ?_); rotate_left; omega) | with_reducible refine ag.call ?_ eZ)); obtain ⟨⟨KJ, K8⟩, LG, LW⟩ := id AP; have AQ : ag fh (w.heap.size + 1 + 1) (.int .u64 0) (.int .u64 0) := (by (repeat first | with_reducible assumption | focus ((with_reducible refine ag.set ?_ _ ?_); rotate_left; omega) | with_reducible refine ag.call ?_ eZ)); obtain ⟨⟨KK, K9⟩, LH, LX⟩ := id AQ; have Jo : ag fh (w.heap.size + 1 + 1 + 1) (.int .u64 je) (.int .u64 jf) := (by (repeat first | with_reducible refine ag.put ?_ | focus ((with_reducible apply fi.of); with_reducible assumption) | with_reducible refine ag.call ?_ eZ)); obtain ⟨⟨Ue, UW⟩, V0, Ws⟩ := id Jo; have Hr := Below.size eZ; (try simp at Hr); have Ox : ¬ fh.heap.size = w.heap.size := (by omega); have Oy : ¬ fh.heap.size = w.heap.size + 1 := (by omega); have aa4 : ¬ fh.heap.size = w.heap.size + 1 + 1 := (by omega); have aa5 : ¬ fh.heap.size = w.heap.size + 1 + 1 + 1 := (by omega); have Lu : ¬ w.heap.size = fh.heap.size := (by omega); have Lv : ¬ w.heap.size + 1 = fh.heap.size := (by omega); have Vt : ¬ w.heap.size + 1 + 1 = fh.heap.size := (by omega); have Vu : ¬ w.heap.size + 1 + 1 + 1 = fh.heap.size := (by omega); have NW : w.heap.size < fh.heap.size := (by omega); have NX : w.heap.size + 1 < fh.heap.size := (by omega); have aam : w.heap.size + 1 + 1 < fh.heap.size := (by omega); have aan : w.heap.size + 1 + 1 + 1 < fh.heap.size := (by omega);clear lC wm wx wC wH q9 BK BV Cb Ck vM Fz FJ FZ Ga Jn Ua UR VW Wo zM yw zG Dx B1 Dj Ib FU HO aa3 Vs aal
  by_cases ao : n - Gc < m
  · obtain ⟨q1, q2⟩ := GU (by omega)
    have xN := Lib.hid q1; have ET := Lib.hid q2;clear GU GX q1 q2
    go_wp2_with fail
    go_region
    all_goals
      go_wp2_with fail
      refine ye ?_; intro kc ib; have q3 : ag kc (w.heap.size + 1 + 1) (.int .u64 0) (.int .u64 g) := (by rw [ib]; (repeat first | with_reducible refine ag.drew ?_ | with_reducible refine ag.put ?_ | focus ((with_reducible refine ag.set ?_ _ ?_); rotate_left; omega) | focus ((with_reducible apply fi.of); with_reducible assumption))); obtain ⟨⟨BG, BS⟩, B7, Ci⟩ := id q3; have q4 : ag kc (w.heap.size + 1 + 1 + 1) (.int .u64 je) (.int .u64 jf) := (by rw [ib]; (repeat first | with_reducible refine ag.drew ?_ | with_reducible refine ag.put ?_ | focus ((with_reducible apply fi.of); with_reducible assumption) | with_reducible refine fi.set ?_ _ _)); obtain ⟨⟨BH, BU⟩, B8, Cj⟩ := id q4; have oc : Below w.heap.size w kc := (by rw [ib]; (repeat first | with_reducible exact Below.refl _ _ | with_reducible refine cT ?_ _ | focus ((with_reducible refine eJ ?_ _ _ _ ?_); rotate_left; omega) | with_reducible refine Below.drew ?_ | with_reducible refine b4 ?_ eZ | with_reducible refine b4 ?_ cV | with_reducible refine b4 ?_ bZ | with_reducible refine b4 ?_ bD)); clear ib;exact bodyPost_ret (v := .tuple #[.agg #[.int .u64 0, .int .u64 g], .agg #[.int .u64 je, .int .u64 jf]]) (by simp only [results, Tryz.results298]; go_simp) rfl ⟨_, _, _, _, rfl, qo.conv xN.out, aq.conv ET.out, oc⟩
  · obtain ⟨q1, q2⟩ := GX (by omega)
    have xN := Lib.hid q1; have ET := Lib.hid q2;have WR : cJ 0 (g + 1) (g + 1) := by unfold cJ; omega
    have u7 : Hid (∀ w, Calls ai 303 #[.agg #[.int .u64 je, .int .u64 jf], .agg #[.int .u64 h2, .int .u64 l2]] w (aW (n - Gc - m) w)) := fun w => QH _ _ _ _ _ _ w aq cd (by omega);have hD : decide (n - Gc < m) = false := b3 (by omega);clear GU GX q1 q2 ao
    go_wp2_with fail
    refine (u7.out _).mono ?_;rintro e iz ⟨I5, I6, rfl, aD, hg⟩;have Ro : ag iz (w.heap.size) (.int .u64 h1) (.int .u64 l1) := (by (repeat first | with_reducible assumption | with_reducible refine ag.call ?_ hg)); obtain ⟨⟨af1, agk⟩, agK, agY⟩ := id Ro; have Rp : ag iz (w.heap.size + 1) (.int .u64 h2) (.int .u64 l2) := (by (repeat first | with_reducible assumption | with_reducible refine ag.call ?_ hg)); obtain ⟨⟨af2, agl⟩, agL, agZ⟩ := id Rp; have Rq : ag iz (w.heap.size + 1 + 1) (.int .u64 0) (.int .u64 0) := (by (repeat first | with_reducible assumption | with_reducible refine ag.call ?_ hg)); obtain ⟨⟨af3, agm⟩, agM, ag0⟩ := id Rq; have Rr : ag iz (w.heap.size + 1 + 1 + 1) (.int .u64 je) (.int .u64 jf) := (by (repeat first | with_reducible assumption | with_reducible refine ag.call ?_ hg)); obtain ⟨⟨af4, agn⟩, agN, ag1⟩ := id Rr; have YP := Below.size hg; (try simp at YP); have ain : ¬ iz.heap.size = w.heap.size := (by omega); have aio : ¬ iz.heap.size = w.heap.size + 1 := (by omega); have aip : ¬ iz.heap.size = w.heap.size + 1 + 1 := (by omega); have aiq : ¬ iz.heap.size = w.heap.size + 1 + 1 + 1 := (by omega); have agv : ¬ w.heap.size = iz.heap.size := (by omega); have agw : ¬ w.heap.size + 1 = iz.heap.size := (by omega); have agx : ¬ w.heap.size + 1 + 1 = iz.heap.size := (by omega); have agy : ¬ w.heap.size + 1 + 1 + 1 = iz.heap.size := (by omega); have ahX : w.heap.size < iz.heap.size := (by omega); have ahY : w.heap.size + 1 < iz.heap.size := (by omega); have ahZ : w.heap.size + 1 + 1 < iz.heap.size := (by omega); have ah0 : w.heap.size + 1 + 1 + 1 < iz.heap.size := (by omega);clear AO KI K7 LF LV AP KJ K8 LG LW AQ KK K9 LH LX Jo Ue UW V0 Ws Ox Lu NW Oy Lv NX aa4 Vt aam aa5 Vu aan
    go_wp2_with fail
    go_region
    all_goals
      go_wp2_with fail
      refine ye ?_; intro kc ib; have q3 : ag kc (w.heap.size + 1 + 1) (.int .u64 0) (.int .u64 (g + 1)) := (by rw [ib]; (repeat first | with_reducible refine ag.drew ?_ | with_reducible refine ag.put ?_ | focus ((with_reducible refine ag.set ?_ _ ?_); rotate_left; omega) | focus ((with_reducible apply fi.of); with_reducible assumption) | with_reducible refine fi.set ?_ _ _)); obtain ⟨⟨BG, BS⟩, B7, Ci⟩ := id q3; have q4 : ag kc (w.heap.size + 1 + 1 + 1) (.int .u64 I5) (.int .u64 I6) := (by rw [ib]; (repeat first | with_reducible refine ag.drew ?_ | with_reducible refine ag.put ?_ | focus ((with_reducible apply fi.of); with_reducible assumption) | with_reducible refine fi.set ?_ _ _)); obtain ⟨⟨BH, BU⟩, B8, Cj⟩ := id q4; have oc : Below w.heap.size w kc := (by rw [ib]; (repeat first | with_reducible exact Below.refl _ _ | with_reducible refine cT ?_ _ | focus ((with_reducible refine eJ ?_ _ _ _ ?_); rotate_left; omega) | with_reducible refine Below.drew ?_ | with_reducible refine b4 ?_ hg | with_reducible refine b4 ?_ eZ | with_reducible refine b4 ?_ cV | with_reducible refine b4 ?_ bZ | with_reducible refine b4 ?_ bD)); clear ib;exact bodyPost_ret (v := .tuple #[.agg #[.int .u64 0, .int .u64 (g + 1)], .agg #[.int .u64 I5, .int .u64 I6]]) (by simp only [results, Tryz.results298]; go_simp) rfl ⟨_, _, _, _, rfl, WR.conv xN.out, aD.conv ET.out, oc⟩
theorem U2 (h1 l1 n h2 l2 m : Int) (w : World) (H1 : cJ h1 l1 n) (cd : cJ h2 l2 m) (aE : n ≤ 170141183460469231731687303715884105728) (m0 : 0 < m) :
    Calls ai 298 #[.agg #[.int .u64 h1, .int .u64 l1], .agg #[.int .u64 h2, .int .u64 l2]] w (E5 (n / m) (n % m) w) := by
  by_cases k : h2 = 0
  · subst k
    obtain ⟨a, b, e⟩ := id cd;rw [Int.zero_mul, Int.zero_add] at e;subst e;exact U4 h1 l1 n m w H1 cd m0
  · exact U3 h1 l1 n h2 l2 m w H1 cd aE k
end Go.Proofs.YtpochbhajmbfdaaGreat
namespace Go.Proofs.YtpochbhajmbfdaaGreat
open Go.RowKit
def RI (w : World) (Q R : Int) (a b c d : Value) (vE IQ : Value) (fo : World) : Prop :=
 ∃ (g7 g8 : Nat) (zZ z1 je jf : Int), vE = .pointer (some ⟨g7, 0, none⟩) ∧ IQ = .pointer (some ⟨g8, 0, none⟩) ∧ w.heap.size + 4 ≤ g7 ∧ w.heap.size + 4 ≤ g8 ∧ cJ zZ z1 Q ∧ cJ je jf R ∧
  ag fo g7 (.int .u64 zZ) (.int .u64 z1) ∧ ag fo g8 (.int .u64 je) (.int .u64 jf) ∧ ag fo w.heap.size a b ∧ ag fo (w.heap.size + 1) c d ∧ ag fo (w.heap.size + 1 + 1) (.int .i64 0) (.int .u64 0) ∧ ag fo (w.heap.size + 1 + 1 + 1) (.int .i64 0) (.int .u64 0) ∧ Below w.heap.size w fo
theorem ZM {W : World} {b bO : Nat} {u v ku aV : Value} (h : ag W b u v) (k : ag W bO ku aV) : (W.cell? ⟨b, 0, none⟩ = some u ∧ W.cell? ⟨b, 1, none⟩ = some v) ∧ (W.cell? ⟨bO, 0, none⟩ = some ku ∧ W.cell? ⟨bO, 1, none⟩ = some aV) := ⟨h.1, k.1⟩
theorem C9 {W : World} {b bO Fq : Nat} {u v ku aV QW QY : Value} (h : ag W b u v) (k : ag W bO ku aV) (l : ag W Fq QW QY) : (W.cell? ⟨b, 0, none⟩ = some u ∧ W.cell? ⟨b, 1, none⟩ = some v) ∧ (W.cell? ⟨bO, 0, none⟩ = some ku ∧ W.cell? ⟨bO, 1, none⟩ = some aV) ∧ (W.cell? ⟨Fq, 0, none⟩ = some QW ∧ W.cell? ⟨Fq, 1, none⟩ = some QY) := ⟨h.1, k.1, l.1⟩
def RH (w : World) (x y : Int) (fo : World) : Prop := ∃ c1 c2 aI aO : Int, bu c1 c2 x ∧ bu aI aO y ∧ ag fo (w.heap.size + 1 + 1) (.int .i64 c1) (.int .u64 c2) ∧ ag fo (w.heap.size + 1 + 1 + 1) (.int .i64 aI) (.int .u64 aO) ∧ Below w.heap.size w fo
theorem afD {P : Program} {c : Code} {Q : Exit → Act → World → Prop} {a : Act} {W : World} (h : ∀ bo, bo = W → c.wp P Q a bo) : c.wp P Q a W := h W rfl
theorem Z7 {n m : Int} (hm : 0 < m) (h : -170141183460469231731687303715884105728 ≤ n) : -170141183460469231731687303715884105728 * m ≤ n := by
 have := pK (show (1 : Int) ≤ m by omega) (show (0 : Int) ≤ 170141183460469231731687303715884105728 by omega);omega
theorem U8 {n m N M : Int} (hm : 0 < m) (kh : ((n.natAbs : Nat) : Int) = N) (iY : ((m.natAbs : Nat) : Int) = M) (k : 0 ≤ n) : N / M = n / m ∧ N % M = n % m := by
 obtain rfl : M = m := by omega
 obtain rfl : N = n := by omega
 exact ⟨rfl, rfl⟩
theorem U6 {n m N M : Int} (hm : 0 < m) (kh : ((n.natAbs : Nat) : Int) = N) (iY : ((m.natAbs : Nat) : Int) = M) (k : n < 0) (z : N % M = 0) : -(N / M) = n / m ∧ 0 = n % m := by
 obtain rfl : M = m := by omega
 obtain rfl : n = -N := by omega
 have h1 := sn N M;rw [z, Int.add_zero] at h1;have h2 : -N = M * (-(N / M)) := by rw [Int.mul_neg, h1]
 rw [h2]
 constructor
 ·rw [Int.mul_ediv_cancel_left _ (by omega)]
 ·rw [Int.mul_emod_right]
theorem U7 {n m N M : Int} (hm : 0 < m) (kh : ((n.natAbs : Nat) : Int) = N) (iY : ((m.natAbs : Nat) : Int) = M) (k : n < 0) (z : N % M ≠ 0) : -(N / M) - 1 = n / m ∧ -(N % M) + m = n % m := by
 obtain rfl : M = m := by omega
 obtain rfl : n = -N := by omega
 have h1 := sn N M;have h3 := oQ N (show M ≠ 0 by omega);have cQ := nN N hm;have h2 : -N = (M - N % M) + M * (-(N / M) - 1) := by rw [Int.mul_sub, Int.mul_neg, Int.mul_one]; omega
 have q : (-N) / M = -(N / M) - 1 := by
  rw [h2, Int.add_mul_ediv_left _ _ (by omega), Int.ediv_eq_zero_of_lt (by omega) (by omega)];omega
 have r : (-N) % M = M - N % M := by
  rw [h2, Int.add_mul_emod_self_left, Int.emod_eq_of_lt (by omega) (by omega)]
 rw [q, r];omega
def Si (n m : Int) (w : World) (e : Ending) (w' : World) : Prop := ∃ a b c d : Int, e = .returned (.tuple #[.agg #[.int .i64 a, .int .u64 b], .agg #[.int .i64 c, .int .u64 d], .bool true]) ∧ bu a b (n / m) ∧ bu c d (n % m) ∧ Below w.heap.size w w'
theorem Jr (h1 l1 n h2 l2 m : Int) (w : World) (H1 : bu h1 l1 n) (cd : bu h2 l2 m) (hm : 0 < m) :
  Calls ai 289 #[.agg #[.int .i64 h1, .int .u64 l1], .agg #[.int .i64 h2, .int .u64 l2]] w (Si n m w) := by
 have ak : 0 < fM m 0 := by unfold fM; split <;> (try split) <;> omega
 have hs : Hid (∀ w, Calls ai 247 #[.agg #[.int .i64 h2, .int .u64 l2]] w (gP (.int .i64 (fM m 0)) w)) := fun w => Bk _ _ _ w cd;generalize fM m 0 = s at *;have aE : ((n.natAbs : Nat) : Int) ≤ 170141183460469231731687303715884105728 := by have := H1; unfold bu at this; omega
 have yY : 0 < ((m.natAbs : Nat) : Int) := by omega
 go_enter Tryz.func289, Tryz.ntmps289
 go_wp2_with fail
 refine (hs.out _).mono ?_;rintro e xG ⟨rfl, ma⟩;have Jj : ag xG (w.heap.size) (.int .i64 h1) (.int .u64 l1) := (by (repeat first | focus ((with_reducible refine ag.new ?_); simp; done) | with_reducible refine ag.alloc ?_ _ | with_reducible refine ag.call ?_ ma)); obtain ⟨⟨T4, UL⟩, VQ, Wi⟩ := id Jj; have Jk : ag xG (w.heap.size + 1) (.int .i64 h2) (.int .u64 l2) := (by (repeat first | focus ((with_reducible refine ag.new ?_); simp; done) | with_reducible refine ag.alloc ?_ _ | with_reducible refine ag.call ?_ ma)); obtain ⟨⟨T5, UM⟩, VR, Wj⟩ := id Jk; have Jl : ag xG (w.heap.size + 1 + 1) (.int .i64 0) (.int .u64 0) := (by (repeat first | focus ((with_reducible refine ag.new ?_); simp; done) | with_reducible refine ag.alloc ?_ _ | with_reducible refine ag.call ?_ ma)); obtain ⟨⟨T6, UN⟩, VS, Wk⟩ := id Jl; have Jm : ag xG (w.heap.size + 1 + 1 + 1) (.int .i64 0) (.int .u64 0) := (by (repeat first | focus ((with_reducible refine ag.new ?_); simp; done) | with_reducible refine ag.call ?_ ma)); obtain ⟨⟨T7, UO⟩, VT, Wl⟩ := id Jm;have Hq := Below.size ma;simp at Hq;generalize kh : ((n.natAbs : Nat) : Int) = N at *;generalize iY : ((m.natAbs : Nat) : Int) = M at *;have nc := Lib.hid kh; have nZ := Lib.hid iY;have M5 : Hid (∀ w, Calls ai 279 #[.agg #[.int .i64 h1, .int .u64 l1]] w (aW N w)) := fun w => by rw [← nc.out]; exact An h1 l1 n w H1
 have tD : Hid (∀ w, Calls ai 279 #[.agg #[.int .i64 h2, .int .u64 l2]] w (aW M w)) := fun w => by rw [← nZ.out]; exact An h2 l2 m w cd
 clear kh iY
 go_upto_region 3 with fail
 go_cut [7, 8] (fun vE IQ fo => RI w (N / M) (N % M) (.int .i64 h1) (.int .u64 l1) (.int .i64 h2) (.int .u64 l2) vE IQ fo)
 case first =>
  go_region_held3 (fun w' => (w'.cell? ⟨w.heap.size, 0, none⟩ = some (.int .i64 h1) ∧ w'.cell? ⟨w.heap.size, 1, none⟩ = some (.int .u64 l1)) ∧ (w'.cell? ⟨w.heap.size + 1, 0, none⟩ = some (.int .i64 h2) ∧ w'.cell? ⟨w.heap.size + 1, 1, none⟩ = some (.int .u64 l2)))
   ((refine ZM ?_ ?_ <;> ((repeat first | with_reducible assumption | with_reducible refine ag.alloc ?_ _ | with_reducible refine ag.drew ?_ | focus ((with_reducible refine ag.set ?_ _ ?_); rotate_left; omega) | with_reducible refine ag.call ?_ cV | with_reducible refine ag.call ?_ bZ | with_reducible refine ag.call ?_ bD); done)))
   (first
    | (go_at_call 279; ((with_reducible refine (M5.out _).mono ?_); rintro e aP ⟨Am, aeH, rfl, ol, bD⟩; have Ho := Below.size bD; (try simp at Ho)))
    | (go_at_call 279; ((with_reducible refine (tD.out _).mono ?_); rintro e w2 ⟨Ei, aeI, rfl, y9, bZ⟩; have zl := Below.size bZ; (try simp at zl)))
    | (go_at_call 298; ((with_reducible refine (U2 _ _ _ _ _ _ _ ol y9 aE yY).mono ?_); rintro e w3 ⟨zZ, z1, je, jf, rfl, al, aq, cV⟩; have YK := Below.size cV; (try simp at YK); (try ((refine k8 (p := ag w3 (xG.heap.size) (.int .u64 0) (.int .u64 0)) ?_ ?_); (repeat first | focus ((with_reducible refine ag.new ?_); simp; done) | with_reducible refine ag.alloc ?_ _ | with_reducible refine ag.drew ?_ | with_reducible refine ag.call ?_ cV | with_reducible refine ag.call ?_ bZ | with_reducible refine ag.call ?_ bD | with_reducible refine ag.call ?_ ma); intro ra; obtain ⟨⟨Ub, US⟩, VX, Wp⟩ := id ra; have ZU := ag.lt ra; have aa0 := iu (ag.lt ra); have aav := iv (ag.lt ra))); (try ((refine k8 (p := ag w3 (xG.heap.size + 1) (.int .u64 0) (.int .u64 0)) ?_ ?_); (repeat first | focus ((with_reducible refine ag.new ?_); simp; done) | with_reducible refine ag.alloc ?_ _ | with_reducible refine ag.drew ?_ | with_reducible refine ag.call ?_ cV | with_reducible refine ag.call ?_ bZ | with_reducible refine ag.call ?_ bD | with_reducible refine ag.call ?_ ma); intro rb; obtain ⟨⟨Uc, UT⟩, VY, Wq⟩ := id rb; have ZV := ag.lt rb; have aa1 := iu (ag.lt rb); have aaw := iv (ag.lt rb))); (try ((refine k8 (p := ag w3 (aP.heap.size) (.int .u64 0) (.int .u64 0)) ?_ ?_); (repeat first | focus ((with_reducible refine ag.new ?_); simp; done) | with_reducible refine ag.alloc ?_ _ | with_reducible refine ag.drew ?_ | with_reducible refine ag.call ?_ cV | with_reducible refine ag.call ?_ bZ | with_reducible refine ag.call ?_ bD | with_reducible refine ag.call ?_ ma); intro rc; obtain ⟨⟨Ud, UU⟩, VZ, Wr⟩ := id rc; have ZW := ag.lt rc; have aa2 := iu (ag.lt rc); have aax := iv (ag.lt rc))); (try ((refine k8 (p := ag w3 (aP.heap.size + 1) (.int .u64 0) (.int .u64 0)) ?_ ?_); (repeat first | focus ((with_reducible refine ag.new ?_); simp; done) | with_reducible refine ag.alloc ?_ _ | with_reducible refine ag.drew ?_ | with_reducible refine ag.call ?_ cV | with_reducible refine ag.call ?_ bZ | with_reducible refine ag.call ?_ bD | with_reducible refine ag.call ?_ ma); intro AL; obtain ⟨⟨afY, agh⟩, agH, agV⟩ := id AL; have ahP := ag.lt AL; have aie := iu (ag.lt AL); have ah5 := iv (ag.lt AL))); (try ((refine k8 (p := ag w3 (w2.heap.size) (.int .u64 0) (.int .u64 0)) ?_ ?_); (repeat first | focus ((with_reducible refine ag.new ?_); simp; done) | with_reducible refine ag.alloc ?_ _ | with_reducible refine ag.drew ?_ | with_reducible refine ag.call ?_ cV | with_reducible refine ag.call ?_ bZ | with_reducible refine ag.call ?_ bD | with_reducible refine ag.call ?_ ma); intro AM; obtain ⟨⟨afZ, agi⟩, agI, agW⟩ := id AM; have ahQ := ag.lt AM; have aif := iu (ag.lt AM); have ah6 := iv (ag.lt AM))); (try ((refine k8 (p := ag w3 (w2.heap.size + 1) (.int .u64 0) (.int .u64 0)) ?_ ?_); (repeat first | focus ((with_reducible refine ag.new ?_); simp; done) | with_reducible refine ag.alloc ?_ _ | with_reducible refine ag.drew ?_ | with_reducible refine ag.call ?_ cV | with_reducible refine ag.call ?_ bZ | with_reducible refine ag.call ?_ bD | with_reducible refine ag.call ?_ ma); intro AN; obtain ⟨⟨af0, agj⟩, agJ, agX⟩ := id AN; have ahR := ag.lt AN; have aih := iu (ag.lt AN); have ah7 := iv (ag.lt AN))))))
  all_goals
   go_wp2_with fail
   go_meet
   refine ⟨_, _, zZ, z1, je, jf, rfl, rfl, by omega, by omega, al, aq, ?_, ?_, ?_, ?_, ?_, ?_, ?_⟩
   ·(repeat first | focus ((with_reducible refine ag.new ?_); simp; done) | with_reducible refine ag.alloc ?_ _ | with_reducible refine ag.put ?_ | focus ((with_reducible refine ag.set ?_ _ ?_); rotate_left; omega) | focus ((with_reducible apply fi.of); with_reducible assumption))
   ·(repeat first | focus ((with_reducible refine ag.new ?_); simp; done) | with_reducible refine ag.alloc ?_ _ | with_reducible refine ag.put ?_ | focus ((with_reducible apply fi.of); with_reducible assumption) | with_reducible refine fi.set ?_ _ _)
   ·(repeat first | with_reducible assumption | with_reducible refine ag.alloc ?_ _ | with_reducible refine ag.drew ?_ | focus ((with_reducible refine ag.set ?_ _ ?_); rotate_left; omega) | with_reducible refine ag.call ?_ cV | with_reducible refine ag.call ?_ bZ | with_reducible refine ag.call ?_ bD)
   ·(repeat first | with_reducible assumption | with_reducible refine ag.alloc ?_ _ | with_reducible refine ag.drew ?_ | focus ((with_reducible refine ag.set ?_ _ ?_); rotate_left; omega) | with_reducible refine ag.call ?_ cV | with_reducible refine ag.call ?_ bZ | with_reducible refine ag.call ?_ bD)
   ·(repeat first | with_reducible assumption | with_reducible refine ag.alloc ?_ _ | with_reducible refine ag.drew ?_ | focus ((with_reducible refine ag.set ?_ _ ?_); rotate_left; omega) | with_reducible refine ag.call ?_ cV | with_reducible refine ag.call ?_ bZ | with_reducible refine ag.call ?_ bD)
   ·(repeat first | with_reducible assumption | with_reducible refine ag.alloc ?_ _ | with_reducible refine ag.drew ?_ | focus ((with_reducible refine ag.set ?_ _ ?_); rotate_left; omega) | with_reducible refine ag.call ?_ cV | with_reducible refine ag.call ?_ bZ | with_reducible refine ag.call ?_ bD)
   ·(repeat first | with_reducible exact Below.refl _ _ | with_reducible refine cT ?_ _ | focus ((with_reducible refine eJ ?_ _ _ _ ?_); rotate_left; omega) | with_reducible refine Below.drew ?_ | with_reducible refine b4 ?_ cV | with_reducible refine b4 ?_ bZ | with_reducible refine b4 ?_ bD | with_reducible refine b4 ?_ ma)
 case rest =>
  obtain ⟨g7, g8, zZ, z1, je, jf, rfl, rfl, XM, XN, al, aq, DW, DX, nK, nL, Iy, Iz, ab⟩ := hcut;have abc : ¬ g7 = w.heap.size := by omega
  have abd : ¬ g7 = w.heap.size + 1 := by omega
  have abe : ¬ g7 = w.heap.size + 1 + 1 := by omega
  have abf : ¬ g7 = w.heap.size + 1 + 1 + 1 := by omega
  have abg : ¬ g8 = w.heap.size := by omega
  have abh : ¬ g8 = w.heap.size + 1 := by omega
  have abi : ¬ g8 = w.heap.size + 1 + 1 := by omega
  have abj : ¬ g8 = w.heap.size + 1 + 1 + 1 := by omega
  have cY : 0 ≤ N / M := pO (by have := nc.out; omega) (by omega);have q1 : N / M ≤ N := Int.ediv_le_self _ (by have := nc.out; omega);have h3 : 0 ≤ N % M := oQ _ (by omega);have cQ : N % M < M := nN _ yY;have aay : M ≤ 170141183460469231731687303715884105727 := by have := cd; have := nZ.out; unfold bu at *; omega
  have ig : 0 ≤ n → N ≤ 170141183460469231731687303715884105727 := by have := H1; have := nc.out; unfold bu at *; omega
  have jA : N ≤ 170141183460469231731687303715884105728 := aE;have c1 := U8 hm nc.out nZ.out; have c2 := U6 hm nc.out nZ.out; have kD := U7 hm nc.out nZ.out;have aM := Lib.hid c1; have bU := Lib.hid c2; have e8 := Lib.hid kD;have y2 := H1.neg;generalize N / M = Q at *;generalize N % M = R at *;clear c1 c2 kD M5 tD hs ak ma Hq nc nZ;have DZ := nK.1; have Ix := nL.1; have adu := Iy; have adv := Iz; have ado := DW.1; have adr := DX.1;obtain ⟨⟨c5, dt⟩, kw, mY⟩ := id Iy;obtain ⟨⟨lz, q0⟩, afH, afI⟩ := id Iz;obtain ⟨jk, z2⟩ := DZ;obtain ⟨z3, z4⟩ := Ix;obtain ⟨z5, afK⟩ := ado;obtain ⟨afL, afM⟩ := adr
  by_cases k : h1 < 0
  ·have k' : n < 0 := y2.1 k;have f1 : Hid (fits (-Q) = true) := by unfold Hid fits; rw [cE]; omega
   have f2 : Hid (fits (-R) = true) := by unfold Hid fits; rw [cE]; omega
   have NF : decide (h1 < 0) = true := bG k;clear y2 ig
   go_wp2_with fail
   refine (IX _ _ _ _ al).mono ?_;rintro e aP ⟨a1, b1, rfl, mf, bD⟩;rw [if_pos f1.out] at mf;have ga : ag aP (w.heap.size) (.int .i64 h1) (.int .u64 l1) := (by (repeat first | with_reducible assumption | with_reducible refine ag.call ?_ bD)); obtain ⟨⟨lG, lH⟩, lJ, lK⟩ := id ga; have jl : ag aP (w.heap.size + 1) (.int .i64 h2) (.int .u64 l2) := (by (repeat first | with_reducible assumption | with_reducible refine ag.call ?_ bD)); obtain ⟨⟨o9, pe⟩, pk, po⟩ := id jl; have oW : ag aP (w.heap.size + 1 + 1) (.int .i64 0) (.int .u64 0) := (by (repeat first | with_reducible assumption | with_reducible refine ag.call ?_ bD)); obtain ⟨⟨wk, wv⟩, wB, wG⟩ := id oW; have q5 : ag aP (w.heap.size + 1 + 1 + 1) (.int .i64 0) (.int .u64 0) := (by (repeat first | with_reducible assumption | with_reducible refine ag.call ?_ bD)); obtain ⟨⟨yh, yp⟩, yA, yE⟩ := id q5; have AJ : ag aP (g8) (.int .u64 je) (.int .u64 jf) := (by (repeat first | with_reducible assumption | with_reducible refine ag.call ?_ bD)); obtain ⟨⟨KH, K6⟩, LD, LU⟩ := id AJ
   go_wp2_with fail
   refine (IX _ _ _ _ aq).mono ?_;rintro e w2 ⟨a2, b2, rfl, kn, bZ⟩;rw [if_pos f2.out] at kn;have iT : ag w2 (w.heap.size) (.int .i64 h1) (.int .u64 l1) := (by (repeat first | with_reducible assumption | focus ((with_reducible refine ag.set ?_ _ ?_); rotate_left; omega) | with_reducible refine ag.call ?_ bZ)); obtain ⟨⟨pa, pf⟩, pn, pp⟩ := id iT; have lA : ag w2 (w.heap.size + 1) (.int .i64 h2) (.int .u64 l2) := (by (repeat first | with_reducible assumption | focus ((with_reducible refine ag.set ?_ _ ?_); rotate_left; omega) | with_reducible refine ag.call ?_ bZ)); obtain ⟨⟨sV, s4⟩, tc, th⟩ := id lA; have lB : ag w2 (w.heap.size + 1 + 1) (.int .i64 a1) (.int .u64 b1) := (by (repeat first | with_reducible refine ag.put ?_ | focus ((with_reducible apply fi.of); with_reducible assumption) | with_reducible refine ag.call ?_ bZ)); obtain ⟨⟨sW, s5⟩, td, ti⟩ := id lB; have q6 : ag w2 (w.heap.size + 1 + 1 + 1) (.int .i64 0) (.int .u64 0) := (by (repeat first | with_reducible assumption | focus ((with_reducible refine ag.set ?_ _ ?_); rotate_left; omega) | with_reducible refine ag.call ?_ bZ)); obtain ⟨⟨yi, yq⟩, yB, yF⟩ := id q6
   by_cases Eh : R = 0
   ·obtain ⟨aI, aO⟩ := bU.out k' Eh;have iU := Lib.hid aI; have p7 := Lib.hid aO;have Fa : 0 ≤ a2 := by have := kn.neg; omega
    have Ym : bu a2 b2 0 := kn.conv (by omega)
    clear aI aO Eh
    go_wp2_with fail
    go_region
    all_goals
     go_wp2_with fail
     refine ye ?_; intro kc ib; have q3 : ag kc (w.heap.size + 1 + 1) (.int .i64 a1) (.int .u64 b1) := (by rw [ib]; (repeat first | with_reducible refine ag.drew ?_ | with_reducible refine ag.put ?_ | focus ((with_reducible refine ag.set ?_ _ ?_); rotate_left; omega) | focus ((with_reducible apply fi.of); with_reducible assumption) | with_reducible refine fi.set ?_ _ _)); obtain ⟨⟨BG, BS⟩, B7, Ci⟩ := id q3; have q4 : ag kc (w.heap.size + 1 + 1 + 1) (.int .i64 a2) (.int .u64 b2) := (by rw [ib]; (repeat first | with_reducible refine ag.drew ?_ | with_reducible refine ag.put ?_ | focus ((with_reducible apply fi.of); with_reducible assumption) | with_reducible refine fi.set ?_ _ _)); obtain ⟨⟨BH, BU⟩, B8, Cj⟩ := id q4; have oc : Below w.heap.size w kc := (by rw [ib]; (repeat first | with_reducible assumption | focus ((with_reducible refine eJ ?_ _ _ _ ?_); rotate_left; omega) | with_reducible refine Below.drew ?_ | with_reducible refine b4 ?_ bZ | with_reducible refine b4 ?_ bD)); clear ib;exact bodyPost_ret (v := .tuple #[.agg #[.int .i64 a1, .int .u64 b1], .agg #[.int .i64 a2, .int .u64 b2], .bool true]) (by simp only [results, Tryz.results289]; go_simp) rfl ⟨_, _, _, _, rfl, mf.conv iU.out, Ym.conv p7.out, oc⟩
   ·obtain ⟨aI, aO⟩ := e8.out k' Eh;have iU := Lib.hid aI; have p7 := Lib.hid aO;have Fa : a2 < 0 := by have := kn.neg; omega
    have j9 : Hid (fits (-Q - 1) = true) := by
     have ar := H1.fits;unfold Hid fits at *;rw [cE] at *;have := Int.le_ediv_of_mul_le hm (show -170141183460469231731687303715884105728 * m ≤ n from Z7 hm ar.1);omega
    have na : Hid (fits (-R + m) = true) := by
     have ar := cd.fits;unfold Hid fits at *;rw [cE] at *;omega
    clear aI aO Eh;have X6 : Hid (∀ w, Calls ai 224 #[.int .i64 1] w (o3 1 w)) := fun w => rh 1 w (by omega) (by omega)
    have tu : Hid (∀ o1 o2 w, bu o1 o2 1 → Calls ai 245 #[.agg #[.int .i64 a1, .int .u64 b1], .agg #[.int .i64 o1, .int .u64 o2]] w (o3 (-Q - 1) w)) := fun o1 o2 w ay => by
     have := zI a1 b1 o1 o2 _ _ w mf ay;rw [Jg j9.out] at this;exact this
    have oj : Hid (∀ w, Calls ai 299 #[.agg #[.int .i64 a2, .int .u64 b2], .agg #[.int .i64 h2, .int .u64 l2]] w (o3 (-R + m) w)) := fun w => by
     have := PD a2 b2 h2 l2 _ _ w kn cd;rw [Jg na.out] at this;exact this
    go_upto_region 7 with fail
    go_cut [] (fun fo => RH w (-Q - 1) (-R + m) fo)
    case first =>
     refine afD ?_;intro W eY;have Mj : Below w.heap.size w W := by rw [eY]; (repeat first | with_reducible assumption | focus ((with_reducible refine eJ ?_ _ _ _ ?_); rotate_left; omega) | with_reducible refine b4 ?_ bZ | with_reducible refine b4 ?_ bD)
     have E9 : ag W (w.heap.size + 1 + 1) (.int .i64 a1) (.int .u64 b1) := by rw [eY]; (repeat first | with_reducible assumption | focus ((with_reducible refine ag.set ?_ _ ?_); rotate_left; omega))
     have gD : ag W (w.heap.size + 1 + 1 + 1) (.int .i64 a2) (.int .u64 b2) := by rw [eY]; (repeat first | with_reducible refine ag.put ?_ | focus ((with_reducible apply fi.of); with_reducible assumption))
     have Bl : ag W (w.heap.size + 1) (.int .i64 h2) (.int .u64 l2) := by rw [eY]; (repeat first | with_reducible assumption | focus ((with_reducible refine ag.set ?_ _ ?_); rotate_left; omega))
     clear Jj T4 UL VQ Wi Jk T5 UM VR Wj Jl T6 UN VS Wk Jm T7 UO VT Wl ga lG lH lJ lK jl o9 pe pk po oW wk wv wB wG q5 yh yp yA yE AJ KH K6 LD LU iT pa pf pn pp lA sV s4 tc th lB sW s5 td ti q6 yi yq yB yF;clear eY c5 dt kw mY lz q0 afH afI jk z2 z3 z4 z5 afK afL afM abc abd abe abf abg abh abi abj bZ bD DW DX nK nL Iy Iz adu adv cY q1 h3 cQ aay jA XM XN al aq f1 f2 NF k k' Fa ab aE yY hm aM bU e8 iU p7 j9 na;obtain ⟨⟨TZ, UI⟩, VL, Wf⟩ := id E9;obtain ⟨⟨T0, UJ⟩, VM, Wg⟩ := id gD;obtain ⟨⟨T1, UK⟩, VN, Wh⟩ := id Bl;have JU := ag.drew E9; have JV := ag.drew gD; have JW := ag.drew Bl;have Mi := Below.drew Mj;clear VL Wf VM Wg VN Wh TZ UI T0 UJ T1 UK E9 gD Bl Mj;refine afE (S := fun w' => (w'.cell? ⟨w.heap.size + 1 + 1, 0, none⟩ = some (.int .i64 a1) ∧ w'.cell? ⟨w.heap.size + 1 + 1, 1, none⟩ = some (.int .u64 b1)) ∧ (w'.cell? ⟨w.heap.size + 1 + 1 + 1, 0, none⟩ = some (.int .i64 a2) ∧ w'.cell? ⟨w.heap.size + 1 + 1 + 1, 1, none⟩ = some (.int .u64 b2)) ∧ (w'.cell? ⟨w.heap.size + 1, 0, none⟩ = some (.int .i64 h2) ∧ w'.cell? ⟨w.heap.size + 1, 1, none⟩ = some (.int .u64 l2))) (T := fun j => j == 6 || j == 7) (by kernel_rfl) ?_;generalize W.drew = V at *;have Gu := C9 JU JV JW;refine Jf 2 (i := 0) (v := .agg #[.int .i64 a1, .int .u64 b1]) rfl (by kernel_rfl) (by kernel_rfl) (by kernel_rfl) (fun _ _ _ h => h) (Or.inl ⟨by rfl, ?_⟩) Gu ?_
     ·intro w yL;obtain ⟨⟨p1, p2⟩, ⟨p3, p4⟩, qK, Pe⟩ := id yL
      go_simp
     simp only [Act.put, List.setIfInBounds_toArray];refine Jf 5 (i := 3) (v := .agg #[.int .i64 a2, .int .u64 b2]) rfl (by kernel_rfl) (by kernel_rfl) (by kernel_rfl) (fun _ _ _ h => h) (Or.inl ⟨by rfl, ?_⟩) Gu ?_
     ·intro w yL;obtain ⟨⟨p1, p2⟩, ⟨p3, p4⟩, qK, Pe⟩ := id yL
      go_simp
     simp only [Act.put];refine Jf 5 (i := 4) (v := .agg #[.int .i64 h2, .int .u64 l2]) rfl (by kernel_rfl) (by kernel_rfl) (by kernel_rfl) (fun _ _ _ h => h) (Or.inl ⟨by rfl, ?_⟩) Gu ?_
     ·intro w yL;obtain ⟨⟨p1, p2⟩, ⟨p3, p4⟩, qK, Pe⟩ := id yL
      go_simp
     simp only [Act.put];refine AB (i := 1) (by kernel_rfl) rfl (fun K dV => ?_)
     go_simp
     refine (X6.out _).mono ?_;rintro e w3 ⟨o1, o2, rfl, ay, cV⟩;have JX := ag.call JU cV; have JY := ag.call JV cV; have JZ := ag.call JW cV; have Xe := b4 Mi cV;obtain ⟨⟨s1, s2⟩, ⟨bT, bY⟩, vD, pU⟩ := C9 JX JY JZ
     go_wp2_with fail
     refine dV.out _ _ (.inr ⟨⟨s1, s2⟩, ⟨bT, bY⟩, vD, pU⟩) ?_;clear dV K s1 s2 bT bY vD pU;refine AB (i := 2) (by kernel_rfl) rfl (fun K dV => ?_)
     go_simp
     refine (tu.out _ _ _ ay).mono ?_;rintro e fh ⟨c1, c2, rfl, ak, eZ⟩;have J0 := ag.call JX eZ; have J1 := ag.call JY eZ; have J2 := ag.call JZ eZ; have Mk := b4 Xe eZ;obtain ⟨⟨s1, s2⟩, ⟨bT, bY⟩, vD, pU⟩ := C9 J0 J1 J2
     go_wp2_with fail
     refine dV.out _ _ (.inr ⟨⟨s1, s2⟩, ⟨bT, bY⟩, vD, pU⟩) ?_;clear dV K s1 s2 bT bY vD pU;refine AB (i := 5) (by kernel_rfl) rfl (fun K dV => ?_)
     go_simp
     refine (oj.out _).mono ?_;rintro e iz ⟨aI, aO, rfl, he, hg⟩;have e3 := ag.call J0 hg; have rk := ag.call J1 hg; have uB := ag.call J2 hg; have Xf := b4 Mk hg;obtain ⟨⟨s1, s2⟩, ⟨bT, bY⟩, vD, pU⟩ := C9 e3 rk uB;have f0 := e3.2; have f1 := rk.2;obtain ⟨agC, agD⟩ := f0; obtain ⟨agE, agF⟩ := f1
     go_wp2_with fail
     refine dV.out _ _ (.inr ⟨⟨s1, s2⟩, ⟨bT, bY⟩, vD, pU⟩) ?_;clear dV K;refine AB (i := 6) (by kernel_rfl) rfl (fun K dV => ?_)
     go_simp
     refine dV.out _ _ (.inl rfl) ?_;clear dV K;refine AB (i := 7) (by kernel_rfl) rfl (fun K dV => ?_)
     go_simp
     refine dV.out _ _ (.inl rfl) ?_;clear dV K;refine afC (by kernel_rfl) ?_ _
     go_wp2_with fail
     go_meet
     exact ⟨c1, c2, aI, aO, ak, he, ag.set (ag.set (ag.put (.of e3)) _ (by omega)) _ (by omega), ag.put (fi.set (fi.set (.of rk) _ _) _ _), eJ (eJ (eJ (eJ Xf _ _ _ (by omega)) _ _ _ (by omega)) _ _ _ (by omega)) _ _ _ (by omega)⟩
    case rest =>
     obtain ⟨c1, c2, aI, aO, ak, he, Fu, be, cV⟩ := hcut;obtain ⟨⟨v1, v2⟩, v3, v4⟩ := id Fu;obtain ⟨⟨v5, v6⟩, aiQ, aiR⟩ := id be
     go_wp2_with fail
     go_region
     all_goals
      go_wp2_with fail
      refine ye ?_; intro kc ib; have q3 : ag kc (w.heap.size + 1 + 1) (.int .i64 c1) (.int .u64 c2) := (by rw [ib]; (repeat first | with_reducible refine ag.drew ?_ | with_reducible refine ag.put ?_ | focus ((with_reducible refine ag.set ?_ _ ?_); rotate_left; omega) | focus ((with_reducible apply fi.of); with_reducible assumption))); obtain ⟨⟨BG, BS⟩, B7, Ci⟩ := id q3; have q4 : ag kc (w.heap.size + 1 + 1 + 1) (.int .i64 aI) (.int .u64 aO) := (by rw [ib]; (repeat first | with_reducible refine ag.drew ?_ | with_reducible refine ag.put ?_ | focus ((with_reducible apply fi.of); with_reducible assumption) | with_reducible refine fi.set ?_ _ _)); obtain ⟨⟨BH, BU⟩, B8, Cj⟩ := id q4; have oc : Below w.heap.size w kc := (by rw [ib]; (repeat first | with_reducible assumption | focus ((with_reducible refine eJ ?_ _ _ _ ?_); rotate_left; omega) | with_reducible refine Below.drew ?_)); clear ib;exact bodyPost_ret (v := .tuple #[.agg #[.int .i64 c1, .int .u64 c2], .agg #[.int .i64 aI, .int .u64 aO], .bool true]) (by simp only [results, Tryz.results289]; go_simp) rfl ⟨_, _, _, _, rfl, ak.conv iU.out, he.conv p7.out, oc⟩
  ·have k' : 0 ≤ h1 := by omega
   obtain ⟨aI, aO⟩ := aM.out (by have := y2.1; omega);have iU := Lib.hid aI; have p7 := Lib.hid aO;have aib := ig (by have := y2.1; omega);have f1 : Hid (fits Q = true) := by unfold Hid fits; rw [cE]; omega
   have f2 : Hid (fits R = true) := by unfold Hid fits; rw [cE]; omega
   have NF : decide (h1 < 0) = false := b3 k;clear y2 k aI aO
   go_wp2_with fail
   refine (IY _ _ _ _ al).mono ?_;rintro e aP ⟨a1, b1, rfl, mf, bD⟩;rw [if_pos f1.out] at mf;have ga : ag aP (w.heap.size) (.int .i64 h1) (.int .u64 l1) := (by (repeat first | with_reducible assumption | with_reducible refine ag.call ?_ bD)); obtain ⟨⟨lG, lH⟩, lJ, lK⟩ := id ga; have jl : ag aP (w.heap.size + 1) (.int .i64 h2) (.int .u64 l2) := (by (repeat first | with_reducible assumption | with_reducible refine ag.call ?_ bD)); obtain ⟨⟨o9, pe⟩, pk, po⟩ := id jl; have oW : ag aP (w.heap.size + 1 + 1) (.int .i64 0) (.int .u64 0) := (by (repeat first | with_reducible assumption | with_reducible refine ag.call ?_ bD)); obtain ⟨⟨wk, wv⟩, wB, wG⟩ := id oW; have q5 : ag aP (w.heap.size + 1 + 1 + 1) (.int .i64 0) (.int .u64 0) := (by (repeat first | with_reducible assumption | with_reducible refine ag.call ?_ bD)); obtain ⟨⟨yh, yp⟩, yA, yE⟩ := id q5; have AJ : ag aP (g8) (.int .u64 je) (.int .u64 jf) := (by (repeat first | with_reducible assumption | with_reducible refine ag.call ?_ bD)); obtain ⟨⟨KH, K6⟩, LD, LU⟩ := id AJ
   go_wp2_with fail
   refine (IY _ _ _ _ aq).mono ?_;rintro e w2 ⟨a2, b2, rfl, kn, bZ⟩;rw [if_pos f2.out] at kn;have iT : ag w2 (w.heap.size) (.int .i64 h1) (.int .u64 l1) := (by (repeat first | with_reducible assumption | focus ((with_reducible refine ag.set ?_ _ ?_); rotate_left; omega) | with_reducible refine ag.call ?_ bZ)); obtain ⟨⟨pa, pf⟩, pn, pp⟩ := id iT; have lA : ag w2 (w.heap.size + 1) (.int .i64 h2) (.int .u64 l2) := (by (repeat first | with_reducible assumption | focus ((with_reducible refine ag.set ?_ _ ?_); rotate_left; omega) | with_reducible refine ag.call ?_ bZ)); obtain ⟨⟨sV, s4⟩, tc, th⟩ := id lA; have lB : ag w2 (w.heap.size + 1 + 1) (.int .i64 a1) (.int .u64 b1) := (by (repeat first | with_reducible refine ag.put ?_ | focus ((with_reducible apply fi.of); with_reducible assumption) | with_reducible refine ag.call ?_ bZ)); obtain ⟨⟨sW, s5⟩, td, ti⟩ := id lB; have q6 : ag w2 (w.heap.size + 1 + 1 + 1) (.int .i64 0) (.int .u64 0) := (by (repeat first | with_reducible assumption | focus ((with_reducible refine ag.set ?_ _ ?_); rotate_left; omega) | with_reducible refine ag.call ?_ bZ)); obtain ⟨⟨yi, yq⟩, yB, yF⟩ := id q6;have Fa : 0 ≤ a2 := by have := kn.neg; omega
   go_wp2_with fail
   go_region
   all_goals
    go_wp2_with fail
    refine ye ?_; intro kc ib; have q3 : ag kc (w.heap.size + 1 + 1) (.int .i64 a1) (.int .u64 b1) := (by rw [ib]; (repeat first | with_reducible refine ag.drew ?_ | with_reducible refine ag.put ?_ | focus ((with_reducible refine ag.set ?_ _ ?_); rotate_left; omega) | focus ((with_reducible apply fi.of); with_reducible assumption) | with_reducible refine fi.set ?_ _ _)); obtain ⟨⟨BG, BS⟩, B7, Ci⟩ := id q3; have q4 : ag kc (w.heap.size + 1 + 1 + 1) (.int .i64 a2) (.int .u64 b2) := (by rw [ib]; (repeat first | with_reducible refine ag.drew ?_ | with_reducible refine ag.put ?_ | focus ((with_reducible apply fi.of); with_reducible assumption) | with_reducible refine fi.set ?_ _ _)); obtain ⟨⟨BH, BU⟩, B8, Cj⟩ := id q4; have oc : Below w.heap.size w kc := (by rw [ib]; (repeat first | with_reducible assumption | focus ((with_reducible refine eJ ?_ _ _ _ ?_); rotate_left; omega) | with_reducible refine Below.drew ?_ | with_reducible refine b4 ?_ bZ | with_reducible refine b4 ?_ bD)); clear ib;exact bodyPost_ret (v := .tuple #[.agg #[.int .i64 a1, .int .u64 b1], .agg #[.int .i64 a2, .int .u64 b2], .bool true]) (by simp only [results, Tryz.results289]; go_simp) rfl ⟨_, _, _, _, rfl, mf.conv iU.out, kn.conv p7.out, oc⟩
def dn (w : World) (b : Nat) (u v x y : Value) : Prop := (w.cell? ⟨b, 0, none⟩ = some u ∧ w.cell? ⟨b, 1, none⟩ = some v ∧ w.cell? ⟨b, 2, none⟩ = some x ∧ w.cell? ⟨b, 3, none⟩ = some y) ∧ (w.frozen? ⟨b, 0, none⟩ = false ∧ w.frozen? ⟨b, 1, none⟩ = false ∧ w.frozen? ⟨b, 2, none⟩ = false ∧ w.frozen? ⟨b, 3, none⟩ = false)
section
variable {w W aP : World} {b g : Nat} {u v x y q : Value}
theorem dn.lt (h : dn w b u v x y) : b < w.heap.size := World.block_lt_of_cell? w _ h.1.1
theorem dn.call (h : dn W b u v x y) (ab : Below W.heap.size W aP) : dn aP b u v x y := by
 have ao := h.lt;obtain ⟨⟨h1, h2, ap, aL⟩, bB, cf, hE, jb⟩ := h;exact ⟨⟨(ab.cell (p := ⟨b, 0, none⟩) ao).trans h1, (ab.cell (p := ⟨b, 1, none⟩) ao).trans h2, (ab.cell (p := ⟨b, 2, none⟩) ao).trans ap, (ab.cell (p := ⟨b, 3, none⟩) ao).trans aL⟩, (ab.frozen (p := ⟨b, 0, none⟩) ao).trans bB, (ab.frozen (p := ⟨b, 1, none⟩) ao).trans cf, (ab.frozen (p := ⟨b, 2, none⟩) ao).trans hE, (ab.frozen (p := ⟨b, 3, none⟩) ao).trans jb⟩
theorem dn.alloc (h : dn W b u v x y) (o : Obj) : dn (W.alloc o) b u v x y := h.call ((Below.refl _ _).alloc (dW _) o)
theorem dn.drew (h : dn W b u v x y) : dn W.drew b u v x y := h.call ((Below.refl _ _).drew)
theorem dn.new {t : TypeId} (e : b = W.heap.size) : dn (W.alloc (.cells #[u, v, x, y] t)) b u v x y := by
 subst e;unfold dn
 go_simp
theorem dn.set (h : dn W b u v x y) (o : Nat) (ne : g ≠ b) : dn (W.setCell ⟨g, o, none⟩ q) b u v x y := by
 obtain ⟨⟨h1, h2, ap, aL⟩, bB, cf, hE, jb⟩ := h;have mn : ∀ i, (⟨g, o, none⟩ : Addr) ≠ ⟨b, i, none⟩ := fun i e => ne (congrArg Addr.block e);refine ⟨⟨?_, ?_, ?_, ?_⟩, ?_, ?_, ?_, ?_⟩
 ·rw [World.cell?_setCell_other _ _ _ _ (mn 0)]; exact h1
 ·rw [World.cell?_setCell_other _ _ _ _ (mn 1)]; exact h2
 ·rw [World.cell?_setCell_other _ _ _ _ (mn 2)]; exact ap
 ·rw [World.cell?_setCell_other _ _ _ _ (mn 3)]; exact aL
 ·go_simp
 ·go_simp
 ·go_simp
 ·go_simp
end
section
variable {W : World} {b : Nat} {u v x y ku aV : Value}
theorem dn.aiA (h : dn W b u v x y) : dn ((W.setCell ⟨b, 0, none⟩ ku).setCell ⟨b, 1, none⟩ aV) b ku aV x y := by
 obtain ⟨⟨h1, h2, ap, aL⟩, bB, cf, hE, jb⟩ := h;unfold dn
 go_simp
theorem dn.aiB (h : dn W b u v x y) : dn ((W.setCell ⟨b, 2, none⟩ ku).setCell ⟨b, 3, none⟩ aV) b u v ku aV := by
 obtain ⟨⟨h1, h2, ap, aL⟩, bB, cf, hE, jb⟩ := h;unfold dn
 go_simp
end
theorem YW (d : Int) : decide (0 < fM d 0) = decide (0 < d) := by
 unfold fM;rw [oL];simp only [cE]
 repeat' split
 all_goals omega
theorem E6 (h l aF cx d : Int) (w : World) (H : bu aF cx d) : Calls ai 269 #[.agg #[.int .i64 h, .int .u64 l, .int .i64 aF, .int .u64 cx]] w (gP (.bool (decide (0 < d))) w) := by
 have nb := Lib.hid (YW d)
 go_enter Tryz.func269, Tryz.ntmps269
 go_wp2_with (go_at_call 247; ((with_reducible refine (Bk _ _ _ _ H).mono ?_); rintro e aP ⟨rfl, ab⟩))
 go_ret
 exact ⟨P8 nb.out, by (repeat first | with_reducible exact Below.refl _ _ | with_reducible refine cT ?_ _ | with_reducible refine b4 ?_ ab)⟩
end Go.Proofs.YtpochbhajmbfdaaGreat
namespace Go.Proofs.YtpochbhajmbfdaaGreat
open Go.RowKit
attribute [local go_sem ↓] Go.wp_at_zero Go.wp_at_succ
theorem RQ (h l n aF cx d : Int) (w : World) (H : bu h l n) (e9 : bu aF cx d) (hd : 0 < d) : Calls ai 272 #[.agg #[.int .i64 h, .int .u64 l, .int .i64 aF, .int .u64 cx]] w (o3 (n / d) w) := by
 go_enter Tryz.func272, Tryz.ntmps272
 go_wp2_with (go_at_call 289; ((with_reducible refine (Jr _ _ _ _ _ _ _ H e9 hd).mono ?_); rintro e aP ⟨nK, nL, su, sv, rfl, al, aq, ab⟩; have ga : ag aP (w.heap.size + 1) (.int .i64 0) (.int .u64 0) := (by (repeat first | focus ((with_reducible refine ag.new ?_); simp; done) | with_reducible refine ag.call ?_ ab)); obtain ⟨⟨lG, lH⟩, lJ, lK⟩ := id ga; have nD := Below.size ab; (try simp at nD); have xg : ¬ aP.heap.size = w.heap.size := (by omega); have zN : ¬ aP.heap.size = w.heap.size + 1 := (by omega); have agz : ¬ w.heap.size = aP.heap.size := (by omega); have agA : ¬ w.heap.size + 1 = aP.heap.size := (by omega); have ah1 : w.heap.size < aP.heap.size := (by omega); have ah2 : w.heap.size + 1 < aP.heap.size := (by omega)))
 refine bodyPost_ret (v := .agg #[.int .i64 nK, .int .u64 nL]) (by simp only [results, Tryz.results272]; go_simp) rfl ⟨_, _, rfl, al, ?_⟩;(repeat first | with_reducible exact Below.refl _ _ | with_reducible refine cT ?_ _ | focus ((with_reducible refine eJ ?_ _ _ _ ?_); rotate_left; omega) | with_reducible refine b4 ?_ ab)
theorem ag.both {w : World} {b : Nat} {u v : Value} (h : ag w b u v) : w.cell? ⟨b, 0, none⟩ = some u ∧ w.cell? ⟨b, 1, none⟩ = some v := h.1
def nI (n d : Int) : Int := if n % d < d - n % d then n / d else n / d + 1
theorem aa7 {n d : Int} (aE : fits n = true) (hd : 0 < d) (Xu : fits d = true) : fits (d - n % d) = true ∧ (d - n % d ≤ n % d → fits (n / d + 1) = true) := by
 unfold fits at *;rw [cE] at aE Xu;have aH := oQ n (show d ≠ 0 by omega);have h1 := nN n hd;have h2 := sn n d;rw [cE, cE];refine ⟨by omega, fun hle => ?_⟩;have wO : 2 ≤ d := by omega
 have q1 : n / d * 2 ≤ 170141183460469231731687303715884105727 ∧ -170141183460469231731687303715884105728 ≤ n / d := by
  refine ⟨?_, ?_⟩
  ·rcases pN (n / d) 0 with q | q
   ·omega
   ·have : n / d * 2 ≤ n / d * d := pK wO q;rw [jG (n / d) d] at this;omega
  ·rcases pN (n / d) 0 with q | q
   ·have : d * (n / d + 1) ≤ 1 * (n / d + 1) := Int.mul_le_mul_of_nonpos_right (by omega) (by omega);rw [Int.mul_add] at this;omega
   ·omega
 omega
theorem OB (h l n aF cx d : Int) (w : World) (H : bu h l n) (e9 : bu aF cx d) (hd : 0 < d) : Calls ai 270 #[.agg #[.int .i64 h, .int .u64 l], .agg #[.int .i64 aF, .int .u64 cx]] w (o3 (nI n d) w) := by
 have ar := aa7 H.fits hd e9.fits;have j9 := Lib.hid ar.1;have na := Lib.hid ar.2;clear ar
 go_enter Tryz.func270, Tryz.ntmps270
 go_wp2_with fail
 refine (Jr _ _ _ _ _ _ _ H e9 hd).mono ?_;rintro e aP ⟨nK, nL, su, sv, rfl, al, aq, bD⟩;have ga : ag aP (w.heap.size + 1) (.int .i64 aF) (.int .u64 cx) := (by (repeat first | focus ((with_reducible refine ag.new ?_); simp; done) | with_reducible refine ag.alloc ?_ _ | with_reducible refine ag.call ?_ bD)); obtain ⟨⟨lG, lH⟩, lJ, lK⟩ := id ga; have jl : ag aP (w.heap.size + 1 + 1) (.int .i64 0) (.int .u64 0) := (by (repeat first | focus ((with_reducible refine ag.new ?_); simp; done) | with_reducible refine ag.call ?_ bD)); obtain ⟨⟨o9, pe⟩, pk, po⟩ := id jl;have mh := Below.size bD; (try simp at mh); have tJ : ¬ aP.heap.size = w.heap.size := (by omega); have vm : ¬ aP.heap.size = w.heap.size + 1 := (by omega); have zK : ¬ aP.heap.size = w.heap.size + 1 + 1 := (by omega); have s8 : ¬ w.heap.size = aP.heap.size := (by omega); have uM : ¬ w.heap.size + 1 = aP.heap.size := (by omega); have yu : ¬ w.heap.size + 1 + 1 = aP.heap.size := (by omega); have tG : w.heap.size < aP.heap.size := (by omega); have vi : w.heap.size + 1 < aP.heap.size := (by omega); have zE : w.heap.size + 1 + 1 < aP.heap.size := (by omega)
 go_wp2_with fail
 refine (JP _ _ _ _ _ _ _ e9 aq).mono ?_;rintro e w2 ⟨aiK, aiL, rfl, hs, bZ⟩;rw [if_pos j9.out] at hs;have iT : ag w2 (w.heap.size + 1 + 1) (.int .i64 0) (.int .u64 0) := (by (repeat first | with_reducible assumption | with_reducible refine ag.alloc ?_ _ | with_reducible refine ag.call ?_ bZ)); obtain ⟨⟨pa, pf⟩, pn, pp⟩ := id iT; have lA : ag w2 (aP.heap.size) (.int .i64 nK) (.int .u64 nL) := (by (repeat first | focus ((with_reducible refine ag.new ?_); simp; done) | with_reducible refine ag.alloc ?_ _ | with_reducible refine ag.call ?_ bZ)); obtain ⟨⟨sV, s4⟩, tc, th⟩ := id lA; have lB : ag w2 (aP.heap.size + 1) (.int .i64 su) (.int .u64 sv) := (by (repeat first | focus ((with_reducible refine ag.new ?_); simp; done) | with_reducible refine ag.call ?_ bZ)); obtain ⟨⟨sW, s5⟩, td, ti⟩ := id lB;have nE := Below.size bZ; (try simp at nE);have zx := ag.lt iT; have zy := ag.lt lA; have HH := ag.lt lB;have m3 := iv zx; have m4 := iv zy; have m5 := iv HH; have r8 := iu zx; have r9 := iu zy; have H6 := iu HH
 go_wp2_with fail
 refine (Jp _ _ _ _ _ _ _ aq hs).mono ?_;rintro e w3 ⟨rfl, cV⟩;have lC : ag w3 (w.heap.size + 1 + 1) (.int .i64 0) (.int .u64 0) := (by (repeat first | with_reducible assumption | with_reducible refine ag.alloc ?_ _ | with_reducible refine ag.call ?_ cV)); obtain ⟨⟨wm, wx⟩, wC, wH⟩ := id lC; have q9 : ag w3 (aP.heap.size) (.int .i64 nK) (.int .u64 nL) := (by (repeat first | with_reducible assumption | with_reducible refine ag.alloc ?_ _ | with_reducible refine ag.call ?_ cV)); obtain ⟨⟨BK, BV⟩, Cb, Ck⟩ := id q9;have HI := ag.lt lC; have HJ := ag.lt q9;have m6 := iv HI; have m7 := iv HJ; have H7 := iu HI; have aic := iu HJ;have ail : ¬ (aP.heap.size = w.heap.size + 1 + 1) := by omega
 have aim : ¬ (w.heap.size + 1 + 1 = aP.heap.size) := by omega
 by_cases bj : n % d < d - n % d
 ·have Hs := M7 bj;rw [Hs];have hv : Hid (nI n d = n / d) := by unfold Hid nI; rw [if_pos bj]
  clear Hs bj
  go_wp2_with fail
  rw [hv.out];refine bodyPost_ret (v := .agg #[.int .i64 nK, .int .u64 nL]) (by simp only [results, Tryz.results270]; go_simp) rfl ⟨_, _, rfl, al, ?_⟩;(repeat first | with_reducible exact Below.refl _ _ | with_reducible refine cT ?_ _ | focus ((with_reducible refine eJ ?_ _ _ _ ?_); rotate_left; omega) | with_reducible refine b4 ?_ cV | with_reducible refine b4 ?_ bZ | with_reducible refine b4 ?_ bD)
 ·have Hs : 0 ≤ fM (n % d) (d - n % d) := YU.2 (by omega);have hv : Hid (nI n d = n / d + 1) := by unfold Hid nI; rw [if_neg bj]
  have EO := Lib.hid (na.out (by omega));clear bj;generalize fM (n % d) (d - n % d) = c at *
  go_wp2_with fail
  go_region_held3 (fun w' => w'.cell? ⟨aP.heap.size, 0, none⟩ = some (.int .i64 nK) ∧ w'.cell? ⟨aP.heap.size, 1, none⟩ = some (.int .u64 nL)) (((refine ag.both ?_); ((repeat first | with_reducible assumption | with_reducible refine ag.alloc ?_ _ | with_reducible refine ag.drew ?_ | focus ((with_reducible refine ag.set ?_ _ ?_); rotate_left; omega) | with_reducible refine ag.call ?_ hg | with_reducible refine ag.call ?_ eZ); done)))
   (first
    | (go_at_call 224; ((with_reducible refine (rh 1 _ (by omega) (by omega)).mono ?_); rintro e fh ⟨abA, hY, rfl, ay, eZ⟩; have YL := Below.size eZ; (try simp at YL)))
    | (go_at_call 290; ((with_reducible refine (Rk _ _ _ _ _ _ _ al ay).mono ?_); rintro e iz ⟨sD, sE, rfl, hu, hg⟩; rw [if_pos EO.out] at hu; rw [EO.out]; have YM := Below.size hg; (try simp at YM); (try ((refine k8 (p := ag iz (w3.heap.size) (.int .i64 0) (.int .u64 0)) ?_ ?_); (repeat first | focus ((with_reducible refine ag.new ?_); simp; done) | with_reducible refine ag.alloc ?_ _ | with_reducible refine ag.drew ?_ | with_reducible refine ag.call ?_ hg | with_reducible refine ag.call ?_ eZ | with_reducible refine ag.call ?_ cV | with_reducible refine ag.call ?_ bZ | with_reducible refine ag.call ?_ bD); intro AR; obtain ⟨⟨af5, ago⟩, agO, ag2⟩ := id AR; have ahS := ag.lt AR; have aii := iu (ag.lt AR); have ah8 := iv (ag.lt AR))); (try ((refine k8 (p := ag iz (fh.heap.size) (.int .i64 0) (.int .u64 0)) ?_ ?_); (repeat first | focus ((with_reducible refine ag.new ?_); simp; done) | with_reducible refine ag.alloc ?_ _ | with_reducible refine ag.drew ?_ | with_reducible refine ag.call ?_ hg | with_reducible refine ag.call ?_ eZ | with_reducible refine ag.call ?_ cV | with_reducible refine ag.call ?_ bZ | with_reducible refine ag.call ?_ bD); intro AS; obtain ⟨⟨af6, agp⟩, agP, ag3⟩ := id AS; have ahT := ag.lt AS; have aij := iu (ag.lt AS); have ah9 := iv (ag.lt AS))); (try ((refine k8 (p := ag iz (w.heap.size + 1 + 1) (.int .i64 0) (.int .u64 0)) ?_ ?_); (repeat first | with_reducible assumption | with_reducible refine ag.alloc ?_ _ | with_reducible refine ag.drew ?_ | with_reducible refine ag.call ?_ hg | with_reducible refine ag.call ?_ eZ); intro AU; obtain ⟨⟨af7, agq⟩, agQ, ag4⟩ := id AU; have ahU := ag.lt AU; have aik := iu (ag.lt AU); have aia := iv (ag.lt AU))))))
  all_goals
   go_wp2_with fail
   rw [hv.out];refine bodyPost_ret (v := .agg #[.int .i64 sD, .int .u64 sE]) (by simp only [results, Tryz.results270]; go_simp) rfl ⟨_, _, rfl, hu, ?_⟩;(repeat first | with_reducible exact Below.refl _ _ | with_reducible refine cT ?_ _ | focus ((with_reducible refine eJ ?_ _ _ _ ?_); rotate_left; omega) | with_reducible refine Below.drew ?_ | with_reducible refine b4 ?_ hg | with_reducible refine b4 ?_ eZ | with_reducible refine b4 ?_ cV | with_reducible refine b4 ?_ bZ | with_reducible refine b4 ?_ bD)
end Go.Proofs.YtpochbhajmbfdaaGreat
namespace Go.Proofs.YtpochbhajmbfdaaGreat
open Go.RowKit
attribute [local go_sem ↓] Go.wp_at_zero Go.wp_at_succ
def Sj (n d : Int) (w : World) (e : Ending) (w' : World) : Prop := ∃ a b c f, e = .returned (.agg #[.int .i64 a, .int .u64 b, .int .i64 c, .int .u64 f]) ∧ bu a b n ∧ bu c f d ∧ Below w.heap.size w w'
def E4 (is : Bool) (n d : Int) (w : World) (e : Ending) (w' : World) : Prop := ∃ a b c f, e = .returned (.tuple #[.agg #[.int .i64 a, .int .u64 b, .int .i64 c, .int .u64 f], .bool is]) ∧ bu a b n ∧ bu c f d ∧ Below w.heap.size w w'
theorem VK (k : Int) (w : World) (aH : -9223372036854775808 ≤ k) (h1 : k < 9223372036854775808) : Calls ai 220 #[.int .i64 k] w (Sj k 1 w) := by
 have hx := Lib.hid (fun w => rh k w aH h1);clear aH h1
 go_enter Tryz.func220, Tryz.ntmps220
 go_wp2_with fail
 refine (hx.out _).mono ?_;rintro e aP ⟨a, b, rfl, aK, bD⟩
 go_wp2_with fail
 refine (rh 1 _ (by omega) (by omega)).mono ?_;rintro e w2 ⟨c, f, rfl, ak, bZ⟩;have bt : dn w2 w.heap.size (.int .i64 0) (.int .u64 0) (.int .i64 0) (.int .u64 0) := by (repeat first | focus ((with_reducible refine dn.new ?_); simp; done) | with_reducible refine dn.call ?_ bZ | with_reducible refine dn.call ?_ bD)
 obtain ⟨⟨jF, p1, p2, p3⟩, cY, q1, q2, cg⟩ := id bt
 go_wp2_with fail
 refine bodyPost_ret (v := .agg #[.int .i64 a, .int .u64 b, .int .i64 c, .int .u64 f]) (by simp only [results, Tryz.results220]; go_simp) rfl ⟨_, _, _, _, rfl, aK, ak, ?_⟩;(repeat first | with_reducible exact Below.refl _ _ | with_reducible refine cT ?_ _ | focus ((with_reducible refine eJ ?_ _ _ _ ?_); rotate_left; omega) | with_reducible refine b4 ?_ bZ | with_reducible refine b4 ?_ bD)
theorem Sa (h l n aF cx d : Int) (w : World) (H : bu h l n) (e9 : bu aF cx d) (hd : 0 < d) : Calls ai 223 #[.agg #[.int .i64 h, .int .u64 l], .agg #[.int .i64 aF, .int .u64 cx]] w (E4 true n d w) := by
 have hx : Hid (∀ w, Calls ai 247 #[.agg #[.int .i64 aF, .int .u64 cx]] w (gP (.int .i64 1) w)) := fun w => by have := Bk aF cx d w e9; rw [YV hd] at this; exact this
 go_enter Tryz.func223, Tryz.ntmps223
 go_wp2_with fail
 refine (hx.out _).mono ?_;rintro e aP ⟨rfl, bD⟩;have ga : ag aP (w.heap.size) (.int .i64 h) (.int .u64 l) := (by (repeat first | focus ((with_reducible refine ag.new ?_); simp; done) | with_reducible refine ag.alloc ?_ _ | with_reducible refine ag.call ?_ bD)); obtain ⟨⟨lG, lH⟩, lJ, lK⟩ := id ga; have jl : ag aP (w.heap.size + 1) (.int .i64 aF) (.int .u64 cx) := (by (repeat first | focus ((with_reducible refine ag.new ?_); simp; done) | with_reducible refine ag.alloc ?_ _ | with_reducible refine ag.call ?_ bD)); obtain ⟨⟨o9, pe⟩, pk, po⟩ := id jl;have bt : dn aP (w.heap.size + 1 + 1) (.int .i64 0) (.int .u64 0) (.int .i64 0) (.int .u64 0) := by (repeat first | focus ((with_reducible refine dn.new ?_); simp; done) | with_reducible refine dn.call ?_ bD)
 obtain ⟨⟨jF, p1, p2, p3⟩, cY, q1, q2, cg⟩ := id bt
 go_wp2_with fail
 refine bodyPost_ret (v := .tuple #[.agg #[.int .i64 h, .int .u64 l, .int .i64 aF, .int .u64 cx], .bool true]) (by simp only [results, Tryz.results223]; go_simp) rfl ⟨_, _, _, _, rfl, H, e9, ?_⟩;(repeat first | with_reducible exact Below.refl _ _ | with_reducible refine cT ?_ _ | focus ((with_reducible refine eJ ?_ _ _ _ ?_); rotate_left; omega) | with_reducible refine b4 ?_ bD)
def vU (n d : Int) (w : World) (e : Ending) (w' : World) : Prop := E4 (fits (-n) && fits (-d)) (if (fits (-n) && fits (-d)) = true then -n else 0) (if (fits (-n) && fits (-d)) = true then -d else 0) w e w'
theorem adJ {n d : Int} {w w' : World} {a b c f : Int} (f1 : fits (-n) = true) (f2 : fits (-d) = true) (h1 : bu a b (-n)) (h2 : bu c f (-d)) (ab : Below w.heap.size w w') : vU n d w (.returned (.tuple #[.agg #[.int .i64 a, .int .u64 b, .int .i64 c, .int .u64 f], .bool true])) w' := by
 unfold vU; rw [f1, f2]; exact ⟨a, b, c, f, rfl, h1, h2, ab⟩
theorem Qb {n d : Int} {w w' : World} (h : (fits (-n) && fits (-d)) = false) (ab : Below w.heap.size w w') : vU n d w (.returned (.tuple #[.agg #[.int .i64 0, .int .u64 0, .int .i64 0, .int .u64 0], .bool false])) w' := by
 unfold vU; rw [h]; exact ⟨0, 0, 0, 0, rfl, ou, ou, ab⟩
theorem R9 (aK dM n aF cx d : Int) (w : World) (H : bu aK dM n) (e9 : bu aF cx d) (hd : d < 0) :
  Calls ai 223 #[.agg #[.int .i64 aK, .int .u64 dM], .agg #[.int .i64 aF, .int .u64 cx]] w (vU n d w) := by
 have hx : Hid (∀ w, Calls ai 247 #[.agg #[.int .i64 aF, .int .u64 cx]] w (gP (.int .i64 (-1)) w)) := fun w => by have := Bk aF cx d w e9; rw [M7 hd] at this; exact this
 have yY := ou
 go_enter Tryz.func223, Tryz.ntmps223
 go_wp2_with fail
 refine (hx.out _).mono ?_;rintro e aP ⟨rfl, bD⟩;have ga : ag aP (w.heap.size) (.int .i64 aK) (.int .u64 dM) := (by (repeat first | focus ((with_reducible refine ag.new ?_); simp; done) | with_reducible refine ag.alloc ?_ _ | with_reducible refine ag.call ?_ bD)); obtain ⟨⟨lG, lH⟩, lJ, lK⟩ := id ga; have jl : ag aP (w.heap.size + 1) (.int .i64 aF) (.int .u64 cx) := (by (repeat first | focus ((with_reducible refine ag.new ?_); simp; done) | with_reducible refine ag.alloc ?_ _ | with_reducible refine ag.call ?_ bD)); obtain ⟨⟨o9, pe⟩, pk, po⟩ := id jl; have mh := Below.size bD; (try simp at mh); have tJ : ¬ aP.heap.size = w.heap.size := (by omega); have vm : ¬ aP.heap.size = w.heap.size + 1 := (by omega); have zK : ¬ aP.heap.size = w.heap.size + 1 + 1 := (by omega); have s8 : ¬ w.heap.size = aP.heap.size := (by omega); have uM : ¬ w.heap.size + 1 = aP.heap.size := (by omega); have yu : ¬ w.heap.size + 1 + 1 = aP.heap.size := (by omega); have tG : w.heap.size < aP.heap.size := (by omega); have vi : w.heap.size + 1 < aP.heap.size := (by omega); have zE : w.heap.size + 1 + 1 < aP.heap.size := (by omega)
 go_wp2_with fail
 refine (JA _ _ _ _ H).mono ?_;rintro e w2 ⟨Ot, Ou, rfl, aE, bZ⟩;have iT : ag w2 (w.heap.size + 1) (.int .i64 aF) (.int .u64 cx) := (by (repeat first | with_reducible assumption | with_reducible refine ag.call ?_ bZ)); obtain ⟨⟨pa, pf⟩, pn, pp⟩ := id iT; have nE := Below.size bZ; (try simp at nE); have xf : ¬ w2.heap.size = w.heap.size := (by omega); have zL : ¬ w2.heap.size = w.heap.size + 1 := (by omega); have Dw : ¬ w2.heap.size = w.heap.size + 1 + 1 := (by omega); have wy : ¬ w.heap.size = w2.heap.size := (by omega); have yv : ¬ w.heap.size + 1 = w2.heap.size := (by omega); have B0 : ¬ w.heap.size + 1 + 1 = w2.heap.size := (by omega); have xa : w.heap.size < w2.heap.size := (by omega); have zF : w.heap.size + 1 < w2.heap.size := (by omega); have Di : w.heap.size + 1 + 1 < w2.heap.size := (by omega)
 go_wp2_with fail
 refine (JA _ _ _ _ e9).mono ?_;rintro e w3 ⟨UX, UY, rfl, uT, cV⟩;have lC : ag w3 (w2.heap.size) (.int .i64 Ot) (.int .u64 Ou) := (by (repeat first | focus ((with_reducible refine ag.new ?_); simp; done) | with_reducible refine ag.call ?_ cV)); obtain ⟨⟨wm, wx⟩, wC, wH⟩ := id lC; have rZ := Below.size cV; (try simp at rZ); have zM : ¬ w3.heap.size = w.heap.size := (by omega); have Dx : ¬ w3.heap.size = w.heap.size + 1 := (by omega); have Ib : ¬ w3.heap.size = w.heap.size + 1 + 1 := (by omega); have yw : ¬ w.heap.size = w3.heap.size := (by omega); have B1 : ¬ w.heap.size + 1 = w3.heap.size := (by omega); have FU : ¬ w.heap.size + 1 + 1 = w3.heap.size := (by omega); have zG : w.heap.size < w3.heap.size := (by omega); have Dj : w.heap.size + 1 < w3.heap.size := (by omega); have HO : w.heap.size + 1 + 1 < w3.heap.size := (by omega);have bt : dn w3 (w.heap.size + 1 + 1) (.int .i64 0) (.int .u64 0) (.int .i64 0) (.int .u64 0) := by (repeat first | focus ((with_reducible refine dn.new ?_); simp; done) | with_reducible refine dn.alloc ?_ _ | with_reducible refine dn.call ?_ cV | with_reducible refine dn.call ?_ bZ | with_reducible refine dn.call ?_ bD)
 obtain ⟨⟨jF, p1, p2, p3⟩, cY, q1, q2, cg⟩ := id bt;have l2 := ag.lt lC; have zx := iv (ag.lt lC); have zy := iu (ag.lt lC);have HH := bt.lt; have HI := iv bt.lt; have HJ := iu bt.lt
 by_cases f1 : fits (-n) = true
 ·by_cases f2 : fits (-d) = true
  ·rw [if_pos f1] at aE;rw [if_pos f2] at uT;have oY := Lib.hid f1;have xM := Lib.hid f2;rw [f1, f2];clear f1 f2
   go_wp2_with fail
   refine bodyPost_ret (v := .tuple #[.agg #[.int .i64 Ot, .int .u64 Ou, .int .i64 UX, .int .u64 UY], .bool true]) (by simp only [results, Tryz.results223]; go_simp) rfl (adJ oY.out xM.out aE uT ?_);(repeat first | with_reducible exact Below.refl _ _ | with_reducible refine cT ?_ _ | focus ((with_reducible refine eJ ?_ _ _ _ ?_); rotate_left; omega) | with_reducible refine b4 ?_ cV | with_reducible refine b4 ?_ bZ | with_reducible refine b4 ?_ bD)
  ·have FY : fits (-d) = false := by simpa using f2
   have G : Hid ((fits (-n) && fits (-d)) = false) := by unfold Hid; rw [FY, Bool.and_false]
   rw [f1, FY];clear f1 f2 FY aE uT
   go_wp2_with fail
   refine bodyPost_ret (v := .tuple #[.agg #[.int .i64 0, .int .u64 0, .int .i64 0, .int .u64 0], .bool false]) (by simp only [results, Tryz.results223]; go_simp) rfl (Qb G.out ?_);(repeat first | with_reducible exact Below.refl _ _ | with_reducible refine cT ?_ _ | focus ((with_reducible refine eJ ?_ _ _ _ ?_); rotate_left; omega) | with_reducible refine b4 ?_ cV | with_reducible refine b4 ?_ bZ | with_reducible refine b4 ?_ bD)
 ·have rI : fits (-n) = false := by simpa using f1
  have G : Hid ((fits (-n) && fits (-d)) = false) := by unfold Hid; rw [rI, Bool.false_and]
  rw [rI];clear f1 rI aE uT
  go_wp2_with fail
  refine bodyPost_ret (v := .tuple #[.agg #[.int .i64 0, .int .u64 0, .int .i64 0, .int .u64 0], .bool false]) (by simp only [results, Tryz.results223]; go_simp) rfl (Qb G.out ?_);(repeat first | with_reducible exact Below.refl _ _ | with_reducible refine cT ?_ _ | focus ((with_reducible refine eJ ?_ _ _ _ ?_); rotate_left; omega) | with_reducible refine b4 ?_ cV | with_reducible refine b4 ?_ bZ | with_reducible refine b4 ?_ bD)
end Go.Proofs.YtpochbhajmbfdaaGreat
namespace Go.Proofs.YtpochbhajmbfdaaGreat
open Go.RowKit
attribute [local go_sem ↓] Go.wp_at_zero Go.wp_at_succ
theorem dn.cs {w : World} {b : Nat} {u v x y : Value} (h : dn w b u v x y) : w.cell? ⟨b, 0, none⟩ = some u ∧ w.cell? ⟨b, 1, none⟩ = some v ∧ w.cell? ⟨b, 2, none⟩ = some x ∧ w.cell? ⟨b, 3, none⟩ = some y := h.1
def Bi (n : Int) (w : World) (e : Ending) (w' : World) : Prop := ∃ H L, e = .returned (.tuple #[.agg #[.int .i64 H, .int .u64 L], .bool true]) ∧ bu H L n ∧ Below w.heap.size w w'
def k0 (n d : Int) (k : Nat) : Int := if k = 0 then nI n d else nI (n / d) (2 ^ k)
theorem adf {k : Nat} (h : k ≤ 100) : fits ((2 : Int) ^ k) = true := by
 have h1 := Nat.pow_le_pow_right (show 0 < 2 by decide) h;rw [show (2 : Nat) ^ 100 = 1267650600228229401496703205376 by decide] at h1;have h2 := (PF k).1;have e : ((2 : Int) ^ k) = ((2 ^ k : Nat) : Int) := by simp
 unfold fits;rw [e, cE];generalize (2 : Nat) ^ k = P at *;omega
theorem Sx (aK dM n aF cx d k : Int) (w : World) (H : bu aK dM n) (e9 : bu aF cx d) (ju : ¬ (0 < d) ∨ (k < 0 ∨ 100 < k)) : Calls ai 240 #[.agg #[.int .i64 aK, .int .u64 dM, .int .i64 aF, .int .u64 cx], .int .i64 k] w (gP (.tuple #[.agg #[.int .i64 0, .int .u64 0], .bool false]) w) := by
 have hx := Lib.hid (fun w => E6 aK dM aF cx d w e9)
 have ev : decide (0 < d) = false ∨ (decide (0 < d) = true ∧ k < 0) ∨ (decide (0 < d) = true ∧ 0 ≤ k ∧ 100 < k) := by
  by_cases e : 0 < d
  ·right;rcases ju with q | q | q
   ·exact absurd e q
   ·exact .inl ⟨bG e, q⟩
   ·exact .inr ⟨bG e, by omega, q⟩
  ·exact .inl (b3 e)
 clear ju;rcases ev with e | ⟨e, q⟩ | ⟨e, q, cA⟩
 ·have aM : Hid (∀ w, Calls ai 269 #[.agg #[.int .i64 aK, .int .u64 dM, .int .i64 aF, .int .u64 cx]] w (gP (.bool false) w)) := fun w => by have := hx.out w; rw [e] at this; exact this
  clear e hx
  go_enter Tryz.func240, Tryz.ntmps240
  go_wp2_with (go_at_call 269; ((with_reducible refine (aM.out _).mono ?_); rintro e aP ⟨rfl, bD⟩; have ga : ag aP (w.heap.size + 1) (.int .i64 0) (.int .u64 0) := (by (repeat first | focus ((with_reducible refine ag.new ?_); simp; done) | with_reducible refine ag.call ?_ bD)); obtain ⟨⟨lG, lH⟩, lJ, lK⟩ := id ga))
  refine bodyPost_ret (v := .tuple #[.agg #[.int .i64 0, .int .u64 0], .bool false]) (by simp only [results, Tryz.results240]; go_simp) rfl ⟨rfl, ?_⟩;(repeat first | with_reducible exact Below.refl _ _ | with_reducible refine cT ?_ _ | focus ((with_reducible refine eJ ?_ _ _ _ ?_); rotate_left; omega) | with_reducible refine b4 ?_ bD)
 ·have aM : Hid (∀ w, Calls ai 269 #[.agg #[.int .i64 aK, .int .u64 dM, .int .i64 aF, .int .u64 cx]] w (gP (.bool true) w)) := fun w => by have := hx.out w; rw [e] at this; exact this
  have U9 : decide (k < 0) = true := bG q;clear e hx
  go_enter Tryz.func240, Tryz.ntmps240
  go_wp2_with (go_at_call 269; ((with_reducible refine (aM.out _).mono ?_); rintro e aP ⟨rfl, bD⟩; have ga : ag aP (w.heap.size + 1) (.int .i64 0) (.int .u64 0) := (by (repeat first | focus ((with_reducible refine ag.new ?_); simp; done) | with_reducible refine ag.call ?_ bD)); obtain ⟨⟨lG, lH⟩, lJ, lK⟩ := id ga))
  refine bodyPost_ret (v := .tuple #[.agg #[.int .i64 0, .int .u64 0], .bool false]) (by simp only [results, Tryz.results240]; go_simp) rfl ⟨rfl, ?_⟩;(repeat first | with_reducible exact Below.refl _ _ | with_reducible refine cT ?_ _ | focus ((with_reducible refine eJ ?_ _ _ _ ?_); rotate_left; omega) | with_reducible refine b4 ?_ bD)
 ·have aM : Hid (∀ w, Calls ai 269 #[.agg #[.int .i64 aK, .int .u64 dM, .int .i64 aF, .int .u64 cx]] w (gP (.bool true) w)) := fun w => by have := hx.out w; rw [e] at this; exact this
  have U9 : decide (k < 0) = false := b3 (by omega);clear e hx
  go_enter Tryz.func240, Tryz.ntmps240
  go_wp2_with (go_at_call 269; ((with_reducible refine (aM.out _).mono ?_); rintro e aP ⟨rfl, bD⟩; have ga : ag aP (w.heap.size + 1) (.int .i64 0) (.int .u64 0) := (by (repeat first | focus ((with_reducible refine ag.new ?_); simp; done) | with_reducible refine ag.call ?_ bD)); obtain ⟨⟨lG, lH⟩, lJ, lK⟩ := id ga))
  refine bodyPost_ret (v := .tuple #[.agg #[.int .i64 0, .int .u64 0], .bool false]) (by simp only [results, Tryz.results240]; go_simp) rfl ⟨rfl, ?_⟩;(repeat first | with_reducible exact Below.refl _ _ | with_reducible refine cT ?_ _ | focus ((with_reducible refine eJ ?_ _ _ _ ?_); rotate_left; omega) | with_reducible refine b4 ?_ bD)
theorem Sz (aK dM n aF cx d : Int) (w : World) (H : bu aK dM n) (e9 : bu aF cx d) (hd : 0 < d) : Calls ai 240 #[.agg #[.int .i64 aK, .int .u64 dM, .int .i64 aF, .int .u64 cx], .int .i64 0] w (Bi (nI n d) w) := by
 have aM : Hid (∀ w, Calls ai 269 #[.agg #[.int .i64 aK, .int .u64 dM, .int .i64 aF, .int .u64 cx]] w (gP (.bool true) w)) := fun w => by have := E6 aK dM aF cx d w e9; rw [bG hd] at this; exact this
 have bU := Lib.hid (fun w => OB aK dM n aF cx d w H e9 hd)
 go_enter Tryz.func240, Tryz.ntmps240
 go_wp2_with (first
  | (go_at_call 269; ((with_reducible refine (aM.out _).mono ?_); rintro e aP ⟨rfl, bD⟩; have ka : dn aP w.heap.size (.int .i64 aK) (.int .u64 dM) (.int .i64 aF) (.int .u64 cx) := (by (repeat first | focus ((with_reducible refine dn.new ?_); simp; done) | with_reducible refine dn.alloc ?_ _ | with_reducible refine dn.call ?_ bD)); obtain ⟨⟨jF, p1, p2, p3⟩, cY, q1, q2, cg⟩ := id ka))
  | (go_at_call 270; ((with_reducible refine (bU.out _).mono ?_); rintro e w2 ⟨su, sv, rfl, aq, bZ⟩; have iT : ag w2 (w.heap.size + 1) (.int .i64 0) (.int .u64 0) := (by (repeat first | focus ((with_reducible refine ag.new ?_); simp; done) | with_reducible refine ag.call ?_ bZ | with_reducible refine ag.call ?_ bD)); obtain ⟨⟨pa, pf⟩, pn, pp⟩ := id iT)))
 refine bodyPost_ret (v := .tuple #[.agg #[.int .i64 su, .int .u64 sv], .bool true]) (by simp only [results, Tryz.results240]; go_simp) rfl ⟨_, _, rfl, aq, ?_⟩;(repeat first | with_reducible exact Below.refl _ _ | with_reducible refine cT ?_ _ | focus ((with_reducible refine eJ ?_ _ _ _ ?_); rotate_left; omega) | with_reducible refine b4 ?_ bZ | with_reducible refine b4 ?_ bD)
theorem Sy (aK dM n aF cx d : Int) (k : Nat) (w : World) (H : bu aK dM n) (e9 : bu aF cx d) (hd : 0 < d) (gV : 0 < k) (bB : k ≤ 100) : Calls ai 240 #[.agg #[.int .i64 aK, .int .u64 dM, .int .i64 aF, .int .u64 cx], .int .i64 k] w (Bi (nI (n / d) (2 ^ k)) w) := by
 have aM : Hid (∀ w, Calls ai 269 #[.agg #[.int .i64 aK, .int .u64 dM, .int .i64 aF, .int .u64 cx]] w (gP (.bool true) w)) := fun w => by have := E6 aK dM aF cx d w e9; rw [bG hd] at this; exact this
 have bU : Hid (∀ a b w, bu a b 1 → Calls ai 271 #[.agg #[.int .i64 a, .int .u64 b], .int .i64 k] w (Bi (2 ^ k) w)) := fun a b w h => (Ss a b 1 k w h (by omega) (by omega)).mono fun e w' ⟨p, q, he, hi, ab⟩ => by
  rw [Int.one_mul, ks] at he hi;rw [adf bB] at he hi;exact ⟨p, q, he, hi, ab⟩
 have e8 := Lib.hid (fun w => RQ aK dM n aF cx d w H e9 hd);have mZ : Hid (∀ a b a' bO w, bu a b (n / d) → bu a' bO (2 ^ k) → Calls ai 270 #[.agg #[.int .i64 a, .int .u64 b], .agg #[.int .i64 a', .int .u64 bO]] w (o3 (nI (n / d) (2 ^ k)) w)) := fun a b a' bO w h aF => OB a b _ a' bO _ w h aF (PF k).1;generalize jq : nI (n / d) (2 ^ k) = E at mZ ⊢;clear jq;have ahN : ((k : Int) == 0) = false := by simp; omega
 go_enter Tryz.func240, Tryz.ntmps240
 go_wp2_with fail
 refine (aM.out _).mono ?_;rintro e aP ⟨rfl, bD⟩;have ig := Lib.hid bD.size
 go_wp2_with fail
 refine (rh 1 _ (by omega) (by omega)).mono ?_;rintro e w2 ⟨abA, hY, rfl, ay, bZ⟩
 go_wp2_with fail
 refine (bU.out _ _ _ ay).mono ?_;rintro e w3 ⟨sD, sE, rfl, hu, cV⟩;have ka : dn w3 w.heap.size (.int .i64 aK) (.int .u64 dM) (.int .i64 aF) (.int .u64 cx) := (by (repeat first | focus ((with_reducible refine dn.new ?_); simp; done) | with_reducible refine dn.alloc ?_ _ | with_reducible refine dn.call ?_ cV | with_reducible refine dn.call ?_ bZ | with_reducible refine dn.call ?_ bD));have bl : ag w3 (w.heap.size + 1) (.int .i64 0) (.int .u64 0) := (by (repeat first | focus ((with_reducible refine ag.new ?_); simp; done) | with_reducible refine ag.call ?_ cV | with_reducible refine ag.call ?_ bZ | with_reducible refine ag.call ?_ bD));have afV : Below w.heap.size w w3 := (by (repeat first | with_reducible exact Below.refl _ _ | with_reducible refine cT ?_ _ | with_reducible refine b4 ?_ cV | with_reducible refine b4 ?_ bZ | with_reducible refine b4 ?_ bD));clear bD bZ cV ig;have l1 := ka.lt; have l2 := bl.lt;have aI : ¬ (w.heap.size = w3.heap.size) := by omega
 have aO : ¬ (w.heap.size + 1 = w3.heap.size) := by omega
 have cD : ¬ (w3.heap.size = w.heap.size) := by omega
 have eD : ¬ (w3.heap.size = w.heap.size + 1) := by omega
 have k9 : ¬ (w.heap.size + 1 = w.heap.size) := by omega
 obtain ⟨⟨jF, p1, p2, p3⟩, cY, q1, q2, cg⟩ := id ka
 go_wp2_with fail
 have afR : ag (w3.alloc (.cells #[.int .i64 sD, .int .u64 sE] 159)).drew w3.heap.size (.int .i64 sD) (.int .u64 sE) := (by (repeat first | focus ((with_reducible refine ag.new ?_); simp; done) | with_reducible refine ag.drew ?_));have mE := (ka.alloc (.cells #[.int .i64 sD, .int .u64 sE] 159)).drew;have eV := (bl.alloc (.cells #[.int .i64 sD, .int .u64 sE] 159)).drew
 go_region_held3 (fun w' => (w'.cell? ⟨w.heap.size, 0, none⟩ = some (.int .i64 aK) ∧ w'.cell? ⟨w.heap.size, 1, none⟩ = some (.int .u64 dM) ∧ w'.cell? ⟨w.heap.size, 2, none⟩ = some (.int .i64 aF) ∧ w'.cell? ⟨w.heap.size, 3, none⟩ = some (.int .u64 cx)) ∧ (w'.cell? ⟨w3.heap.size, 0, none⟩ = some (.int .i64 sD) ∧ w'.cell? ⟨w3.heap.size, 1, none⟩ = some (.int .u64 sE)))
  ((refine And.intro (dn.cs ?_) (ag.both ?_) <;> ((repeat first | with_reducible assumption | focus ((with_reducible refine ag.set ?_ _ ?_); rotate_left; omega) | focus ((with_reducible refine dn.set ?_ _ ?_); rotate_left; omega) | with_reducible refine ag.call ?_ hg | with_reducible refine dn.call ?_ hg | with_reducible refine ag.call ?_ eZ | with_reducible refine dn.call ?_ eZ); done)))
  (first
   | (go_at_call 272; ((with_reducible refine (e8.out _).mono ?_); rintro e fh ⟨agR, agS, rfl, ar, eZ⟩))
   | (go_at_call 270; ((with_reducible refine (mZ.out _ _ _ _ _ ar hu).mono ?_); rintro e iz ⟨su, sv, rfl, aq, hg⟩; have Sg := (eV.call eZ).call hg; obtain ⟨⟨t0, t1⟩, t2, t3⟩ := id Sg)))
 all_goals
  go_wp2_with fail
  refine bodyPost_ret (v := .tuple #[.agg #[.int .i64 su, .int .u64 sv], .bool true]) (by simp only [results, Tryz.results240]; go_simp) rfl ⟨_, _, rfl, aq, ?_⟩;(repeat first | with_reducible assumption | with_reducible refine cT ?_ _ | focus ((with_reducible refine eJ ?_ _ _ _ ?_); rotate_left; omega) | with_reducible refine Below.drew ?_ | with_reducible refine b4 ?_ hg | with_reducible refine b4 ?_ eZ)
theorem JO (aK dM n aF cx d : Int) (k : Nat) (w : World) (H : bu aK dM n) (e9 : bu aF cx d) (hd : 0 < d) (bB : k ≤ 100) : Calls ai 240 #[.agg #[.int .i64 aK, .int .u64 dM, .int .i64 aF, .int .u64 cx], .int .i64 k] w (Bi (k0 n d k) w) := by
 unfold k0;rcases k with _ | k
 ·rw [if_pos rfl]; exact Sz aK dM n aF cx d w H e9 hd
 ·rw [if_neg (by omega)]; exact Sy aK dM n aF cx d (k + 1) w H e9 hd (by omega) bB
end Go.Proofs.YtpochbhajmbfdaaGreat
namespace Go.Proofs.YtpochbhajmbfdaaGreat
open Go.RowKit
attribute [local go_sem ↓] Go.wp_at_zero Go.wp_at_succ
end Go.Proofs.YtpochbhajmbfdaaGreat
namespace Go.Proofs.YtpochbhajmbfdaaGreat
open Go.RowKit
attribute [local go_sem ↓] Go.wp_at_zero Go.wp_at_succ
end Go.Proofs.YtpochbhajmbfdaaGreat
namespace Go.Proofs.YtpochbhajmbfdaaGreat
open Go.RowKit
attribute [local go_sem ↓] Go.wp_at_zero Go.wp_at_succ
section
variable {w W aP : World} {g iW : Nat} {a b c d s t : Int}
end
end Go.Proofs.YtpochbhajmbfdaaGreat
namespace Go.Proofs.YtpochbhajmbfdaaGreat
open Go.RowKit
def kl (n : Int) : Int := n / 18446744073709551616
def kp (n : Int) : Int := n % 18446744073709551616
abbrev Nu (n : Int) : bI := .agg [.c (.int .i64 (kl n)), .c (.int .u64 (kp n))]
abbrev qZ (n : Int) : aj := .w (Nu n)
theorem ov {n : Int} (h : fits n = true) : bu (kl n) (kp n) n := by
 unfold fits at h;rw [cE] at h;unfold bu kl kp;omega
theorem ve {H L n : Int} (h : bu H L n) : H = kl n ∧ L = kp n := by
 obtain ⟨a, b, rfl⟩ := h;unfold kl kp;omega
theorem yV : kl 0 = 0 := by decide
theorem zD : kp 0 = 0 := by decide
theorem acV {n : Int} (aH : -9223372036854775808 ≤ n) (h1 : n < 9223372036854775808) : aR ai 224 [aT n] (qZ n) :=
 mS [.int .i64 n] (.agg #[.int .i64 (kl n), .int .u64 (kp n)]) rfl rfl rfl rfl rfl fun W => (rh n W aH h1).mono fun e w' ⟨H, L, he, hw, ab⟩ => by
  obtain ⟨rfl, rfl⟩ := ve hw; exact ⟨he, ab⟩
abbrev wf (z : Int) : aj := .cZ [Nu (if fits z then z else 0), .one (.c (.bool (fits z)))]
theorem aei {z : Int} {w w' : World} {e : Ending} (h : l3 z w e w') : e = .returned (.tuple #[.agg #[.int .i64 (kl (if fits z then z else 0)), .int .u64 (kp (if fits z then z else 0))], .bool (fits z)]) ∧ Below w.heap.size w w' := by
 obtain ⟨H, L, he, hw, ab⟩ := h;obtain ⟨rfl, rfl⟩ := ve hw;exact ⟨he, ab⟩
theorem acW {n m : Int} (f : fits n = true) (g : fits m = true) : aR ai 221 [qZ n, qZ m] (wf (n - m)) :=
 mS [.agg #[.int .i64 (kl n), .int .u64 (kp n)], .agg #[.int .i64 (kl m), .int .u64 (kp m)]] _ rfl rfl rfl rfl rfl fun W => (JP _ _ _ _ _ _ W (ov f) (ov g)).mono fun e w' h => aei h
abbrev Cc (n d : Int) : bI := .agg [.c (.int .i64 (kl n)), .c (.int .u64 (kp n)), .c (.int .i64 (kl d)), .c (.int .u64 (kp d))]
abbrev fv (n d : Int) : aj := .w (Cc n d)
abbrev fx (n d : Int) : Value := .agg #[.int .i64 (kl n), .int .u64 (kp n), .int .i64 (kl d), .int .u64 (kp d)]
abbrev fo (n : Int) : Value := .agg #[.int .i64 (kl n), .int .u64 (kp n)]
theorem adI {n d : Int} {a b c f : Int} {w w' : World} {e : Ending} (he : e = .returned (.agg #[.int .i64 a, .int .u64 b, .int .i64 c, .int .u64 f])) (h1 : bu a b n) (h2 : bu c f d) (ab : Below w.heap.size w w') : e = .returned (fx n d) ∧ Below w.heap.size w w' := by
 obtain ⟨rfl, rfl⟩ := ve h1;obtain ⟨rfl, rfl⟩ := ve h2;exact ⟨he, ab⟩
theorem Qa {s : Bool} {n d : Int} {w w' : World} {e : Ending} (h : E4 s n d w e w') : e = .returned (.tuple #[fx n d, .bool s]) ∧ Below w.heap.size w w' := by
 obtain ⟨a, b, c, f, he, h1, h2, ab⟩ := h;obtain ⟨rfl, rfl⟩ := ve h1;obtain ⟨rfl, rfl⟩ := ve h2;exact ⟨he, ab⟩
theorem aeh {n : Int} {w w' : World} {e : Ending} (h : o3 n w e w') : e = .returned (fo n) ∧ Below w.heap.size w w' := by
 obtain ⟨a, b, he, h1, ab⟩ := h;obtain ⟨rfl, rfl⟩ := ve h1;exact ⟨he, ab⟩
theorem Ph {k : Int} (aH : -9223372036854775808 ≤ k) (h1 : k < 9223372036854775808) : aR ai 220 [aT k] (fv k 1) :=
 mS [.int .i64 k] (fx k 1) rfl rfl rfl rfl rfl fun W => (VK k W aH h1).mono fun e w' ⟨a, b, c, f, he, h1, h2, ab⟩ => adI he h1 h2 ab
theorem ab5 {n d : Int} (f : fits n = true) (g : fits d = true) (hd : 0 < d) : aR ai 223 [qZ n, qZ d] (.cZ [Cc n d, .one (.c (.bool true))]) :=
 mS [fo n, fo d] (.tuple #[fx n d, .bool true]) rfl rfl rfl rfl rfl fun W => (Sa _ _ n _ _ d W (ov f) (ov g) hd).mono fun e w' h => Qa h
theorem ab4 {n d : Int} (f : fits n = true) (g : fits d = true) (hd : d < 0) {s : Bool} {x y : Int} (hs : (fits (-n) && fits (-d)) = s) (aa : x = if s then -n else 0) (ah : y = if s then -d else 0) : aR ai 223 [qZ n, qZ d] (.cZ [Cc x y, .one (.c (.bool s))]) :=
 mS [fo n, fo d] (.tuple #[fx x y, .bool s]) rfl rfl rfl rfl rfl fun W => (R9 _ _ n _ _ d W (ov f) (ov g) hd).mono fun e w' h => by unfold vU at h; rw [hs] at h; rw [aa, ah]; exact Qa h
theorem Oz {n d : Int} (hd : 0 < d) : nI n d = (n + n + d) / (d * 2) := by
 have h1 := sn n d;have h2 := oQ n (show d ≠ 0 by omega);have ap := nN n hd;unfold nI;generalize n / d = q at *;generalize n % d = r at *;have e : n + n + d = (r + r + d) + q * (d * 2) := by rw [← h1, jG q (d * 2), kV, Int.mul_left_comm d 2 q]; omega
 rw [e, Int.add_mul_ediv_right _ _ (by omega)]
 split
 ·rw [Int.ediv_eq_zero_of_lt (by omega) (by omega)]; omega
 ·have : (r + r + d) / (d * 2) = 1 := by
   rw [show r + r + d = (r + r - d) + 1 * (d * 2) by omega, Int.add_mul_ediv_right _ _ (by omega), Int.ediv_eq_zero_of_lt (by omega) (by omega)];omega
  rw [this]; omega
theorem aeP {n d : Int} (k : Nat) (hd : 0 < d) : (n + n + d * 2 ^ k) / (d * 2 ^ (k + 1)) = k0 n d k := by
 unfold k0;rcases k with _ | k
 ·rw [if_pos rfl, Oz hd];simp
 ·rw [if_neg (by omega), Oz (jI (by decide))];have hp : (0 : Int) < 2 ^ k := jI (by decide);rw [Int.pow_succ 2 (k + 1), Int.pow_succ 2 k];generalize (2 : Int) ^ k = Q at *
  have aI : (n + n + d * (Q * 2)) / (d * (Q * 2 * 2)) = (n + d * Q) / (d * (Q * 2)) := by
   rw [show n + n + d * (Q * 2) = 2 * (n + d * Q) by rw [jG Q 2, Int.mul_left_comm]; omega, show d * (Q * 2 * 2) = 2 * (d * (Q * 2)) by rw [jG (Q * 2) 2, Int.mul_left_comm], Int.mul_ediv_mul_of_pos _ _ (by decide)]
  have aO : (n / d + n / d + Q * 2) / (Q * 2 * 2) = (n / d + Q) / (Q * 2) := by
   rw [show n / d + n / d + Q * 2 = 2 * (n / d + Q) by omega, jG (Q * 2) 2, Int.mul_ediv_mul_of_pos _ _ (by decide)]
  rw [aI, aO, ← xu (by omega), jG d Q, Int.add_mul_ediv_right _ _ (by omega)]
end Go.Proofs.YtpochbhajmbfdaaGreat
