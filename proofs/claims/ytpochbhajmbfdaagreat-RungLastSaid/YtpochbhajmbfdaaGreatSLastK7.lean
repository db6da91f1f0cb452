/-
  My own texts, without what this claim does not need. My own text.
-/
import Derived.Deep.QuietTactic
import Derived.Deep.DeepCutAuto
import Derived.Deep.CutBlock
import Derived.Deep.DrawnRows
import Derived.RegionTactic
import Derived.Deep.LoopGhost
import Derived.Test.YtpochbhajmbfdaaGreatSLastK6
set_option maxRecDepth 100000
set_option maxHeartbeats 64000000
set_option linter.unusedVariables false
set_option linter.unusedSimpArgs false
set_option linter.unusedSectionVars false
open Go.Proofs.Tryz renaming prog → aj
namespace Go.Proofs.YtpochbhajmbfdaaGreat
structure hn (u d a b : Int) : Prop where
  a0 : 2147483648 ≤ a
  a1 : a < 4294967296
  n1 : 0 ≤ b
  b1 : b < 4294967296
  j8 : 0 ≤ u
  cE : u < a * 4294967296 + b
  d0 : 0 ≤ d
  d1 : d < 4294967296
def iG (u d a b : Int) : Int := (u * 4294967296 + d) / (a * 4294967296 + b)
def hN (u d a b : Int) : Int := (u * 4294967296 + d) % (a * 4294967296 + b)
structure lC (u d a b q r : Int) : Prop where
  sum : q * a + r = u
  cY : 0 ≤ q
  hV : 0 ≤ r
  le : iG u d a b ≤ q
variable {u d a b q r : Int}
theorem hn.nQ (h : hn u d a b) : 0 < a * 4294967296 + b := by have := h.a0; have := h.n1; omega
theorem hn.cY (h : hn u d a b) : 0 ≤ iG u d a b := pL (by have := h.j8; have := h.d0; omega) (pM h.nQ)
theorem hn.DX (h : hn u d a b) : iG u d a b < 4294967296 := by
  unfold iG;refine Int.ediv_lt_of_lt_mul h.nQ ?_;have h1 := h.cE; have h2 := h.d1;generalize a * 4294967296 + b = y at *;omega
theorem hn.le_iff (h : hn u d a b) (q : Int) : q ≤ iG u d a b ↔ q * (a * 4294967296 + b) ≤ u * 4294967296 + d := by
  unfold iG;exact pN h.nQ
theorem H3 (q a b : Int) : q * (a * 4294967296 + b) = q * a * 4294967296 + q * b := by rw [Int.mul_add, lp]
theorem hn.init (h : hn u d a b) : lC u d a b (u / a) (u - u / a * a) := by
  have aK : 0 < a := by have := h.a0; omega
  refine ⟨by omega, pL h.j8 (pM aK), ?_, ?_⟩
  · have := Int.ediv_mul_le u (show a ≠ 0 by omega)
    omega
  · have h1 := (h.le_iff _).1 (oL _)
    rw [H3] at h1;rw [pN aK];have h2 := iM h.cY h.n1;have ap := h.d1;omega
theorem hn.M7 (h : hn u d a b) : u - u / a * a < a ∧ u - u / a * a < 4294967296 := by
  have aK : 0 < a := by have := h.a0; omega
  have h1 := nH u aK;rw [Int.emod_def, jE] at h1;have := h.a1;omega
theorem lC.down (h : hn u d a b) (t : lC u d a b q r) (k : 4294967296 ≤ q ∨ 4294967296 * r + d < q * b) : lC u d a b (q - 1) (r + a) ∧ 1 ≤ q := by
  have bi : iG u d a b < q := by
    rcases k with k | k
    · exact Int.lt_of_lt_of_le h.DX k
    · rcases pK (iG u d a b) q with l | l
      · exact l
      · have h1 := (h.le_iff q).1 l
        rw [H3] at h1;have h2 := t.sum;generalize q * a = nB at *;generalize q * b = nC at *;omega
  have aG := h.cY;refine ⟨⟨?_, by omega, by have := t.hV; have := h.a0; omega, by omega⟩, by omega⟩;rw [Int.sub_mul, ← t.sum];omega
theorem lC.done (h : hn u d a b) (t : lC u d a b q r) (k : q * b ≤ 4294967296 * r + d) : q = iG u d a b := by
  have h1 : q ≤ iG u d a b := by
    rw [h.le_iff, H3];have h2 := t.sum;generalize q * a = nB at *;generalize q * b = nC at *;omega
  have := t.le;omega
theorem lC.DV (h : hn u d a b) (t : lC u d a b q r) : q < 8589934592 := by
  rcases pK q 8589934592 with l | l
  · exact l
  · have h1 : 8589934592 * 2147483648 ≤ q * a := Int.mul_le_mul l h.a0 (by omega) t.cY
    have h2 := t.sum; have ap := h.cE; have aL := h.b1; have dx := h.a1; have gd := t.hV;omega
theorem lC.small (h : hn u d a b) (t : lC u d a b q r) (k : 4294967296 ≤ r) : q < 4294967296 := by
  rcases pK q 4294967296 with l | l
  · exact l
  · have h1 := pI l (show (0 : Int) ≤ a by have := h.a0; omega)
    have h2 := t.sum; have ap := h.cE; have aL := h.b1;omega
theorem lC.oy (h : hn u d a b) (t : lC u d a b q r) (k : q < 4294967296) : 0 ≤ q * b ∧ q * b < 18446744073709551616 := by
  refine ⟨iM t.cY h.n1, ?_⟩;have h1 : q * b ≤ 4294967295 * 4294967295 := Int.mul_le_mul (by omega) (by have := h.b1; omega) h.n1 (by omega);omega
theorem lC.out (h : hn u d a b) (t : lC u d a b q r) (k : 4294967296 ≤ r) : q = iG u d a b := by
  have h1 := t.small h k;refine t.done h ?_;have h2 := (t.oy h h1).2;have ap := h.d0;omega
theorem hn.rest (h : hn u d a b) : IntKind.u64.wrap (IntKind.u64.wrap (IntKind.u64.wrap (u * 4294967296) + d) - IntKind.u64.wrap (iG u d a b * (a * 4294967296 + b))) = hN u d a b := by
  have h1 : u * 4294967296 + d - iG u d a b * (a * 4294967296 + b) = hN u d a b := by
    unfold iG hN;rw [Int.emod_def, jE (a * 4294967296 + b)]
  have h2 : 0 ≤ hN u d a b := oN _ (by have := h.nQ; omega);have ap : hN u d a b < a * 4294967296 + b := nH _ h.nQ;have aL := h.a1; have dx := h.b1;simp only [IntKind.wrap_u64];generalize hN u d a b = k at *;generalize iG u d a b * (a * 4294967296 + b) = p at *;omega
theorem hn.next (h : hn u d a b) (e : Int) (dp : 0 ≤ e ∧ e < 4294967296) : hn (hN u d a b) e a b :=
  ⟨h.a0, h.a1, h.n1, h.b1, oN _ (by have := h.nQ; omega), nH _ h.nQ, dp.1, dp.2⟩
theorem hn.two (h : hn u d a b) (e : Int) (dp : 0 ≤ e ∧ e < 4294967296) :
    iG u d a b * 4294967296 + iG (hN u d a b) e a b = (u * 18446744073709551616 + d * 4294967296 + e) / (a * 4294967296 + b) ∧ hN (hN u d a b) e a b = (u * 18446744073709551616 + d * 4294967296 + e) % (a * 4294967296 + b) := by
  have k := h.next e dp
  have nQ := h.nQ;have s1 : u * 4294967296 + d = (a * 4294967296 + b) * iG u d a b + hN u d a b := (ss _ _).symm;have s2 : hN u d a b * 4294967296 + e = (a * 4294967296 + b) * iG (hN u d a b) e a b + hN (hN u d a b) e a b := (ss _ _).symm;have hV : 0 ≤ hN (hN u d a b) e a b := oN _ (by omega);have cP : hN (hN u d a b) e a b < a * 4294967296 + b := nH _ nQ;generalize hN (hN u d a b) e a b = R at *;generalize iG (hN u d a b) e a b = mz at *;generalize hN u d a b = bn at *;generalize iG u d a b = my at *;generalize a * 4294967296 + b = y at *
  have t : u * 18446744073709551616 + d * 4294967296 + e = R + y * (my * 4294967296 + mz) := by
    rw [Int.mul_add, ← lp];generalize y * my = p at *;generalize y * mz = p2 at *;omega
  rw [t]
  constructor
  · rw [Int.add_mul_ediv_left _ _ (by omega), Int.ediv_eq_zero_of_lt hV cP]
    omega
  · rw [Int.add_mul_emod_self_left, Int.emod_eq_of_lt hV cP]
structure Lz (y s : Int) : Prop where
  eF : 0 ≤ s
  s1 : s < 64
  lo : 9223372036854775808 ≤ y * 2 ^ s.toNat
  hi : y * 2 ^ s.toNat < 18446744073709551616
theorem aak (y : Int) (aG : 0 < y) (h1 : y < 18446744073709551616) : Lz y (64 - (Lib.bitLen y.toNat : Int)) := by
  obtain ⟨n, rfl⟩ := mn (pM aG);rw [kw];rcases NJ n (by omega) with ⟨h, _⟩ | ⟨l1, _, zx, zy⟩
  · omega
  · have l2 : Lib.bitLen n ≤ 64 := Lib.bitLen_le n 64 (dL _) (by rw [qY]; omega)
    have e : (64 - (Lib.bitLen n : Int)).toNat = 64 - Lib.bitLen n := by omega
    have f : (n : Int) * 2 ^ (64 - Lib.bitLen n) = ((n * 2 ^ (64 - Lib.bitLen n) : Nat) : Int) := by simp
    have g1 : 2 ^ 63 ≤ n * 2 ^ (64 - Lib.bitLen n) := by
      have := jZ (2 ^ (64 - Lib.bitLen n)) zx;rw [← Nat.pow_add, show Lib.bitLen n - 1 + (64 - Lib.bitLen n) = 63 by omega] at this;exact this
    have g2 : n * 2 ^ (64 - Lib.bitLen n) < 2 ^ 64 := by
      have := Nat.mul_lt_mul_of_pos_right zy (Nat.two_pow_pos (64 - Lib.bitLen n));rw [← Nat.pow_add, show Lib.bitLen n + (64 - Lib.bitLen n) = 64 by omega] at this;exact this
    rw [qY] at g2;rw [show (2 : Nat) ^ 63 = 9223372036854775808 by decide] at g1;exact ⟨by omega, by omega, by rw [e, f]; omega, by rw [e, f]; omega⟩
structure Nm (hi lo y s U V Y : Int) : Prop where
  y : Y = y * 2 ^ s.toNat
  n : (hi * 18446744073709551616 + lo) * 2 ^ s.toNat = U * 18446744073709551616 + V
  j8 : 0 ≤ U
  cE : U < Y
  v0 : 0 ≤ V
  v1 : V < 18446744073709551616
theorem abf {hi lo y s : Int} (aG : 0 ≤ hi) (h1 : hi < y) (l : 0 ≤ lo ∧ lo < 18446744073709551616) (k : Lz y s) :
    Nm hi lo y s (bits .or .u64 (IntKind.u64.wrap (hi * 2 ^ s.toNat)) (lo / 2 ^ (64 - s).toNat)) (IntKind.u64.wrap (lo * 2 ^ s.toNat)) (IntKind.u64.wrap (y * 2 ^ s.toNat)) := by
  have jD : (0 : Int) < 2 ^ s.toNat := jG (by omega)
  have t : (hi * 18446744073709551616 + lo) * 2 ^ s.toNat < y * 2 ^ s.toNat * 18446744073709551616 := by
    rw [Int.mul_right_comm];exact Int.mul_lt_mul_of_pos_right (by omega) jD
  have ou := k.hi;obtain ⟨H, aI, aN, cC⟩ := Qr hi lo s aG l ⟨k.eF, k.s1⟩ (by omega)
  have w : IntKind.u64.wrap (y * 2 ^ s.toNat) = y * 2 ^ s.toNat := by
    have := k.lo;rw [IntKind.wrap_u64];omega
  rw [aI, w];have v : 0 ≤ IntKind.u64.wrap (lo * 2 ^ s.toNat) ∧ IntKind.u64.wrap (lo * 2 ^ s.toNat) < 18446744073709551616 := by rw [IntKind.wrap_u64]; omega
  refine ⟨rfl, cC, aN.1, ?_, v.1, v.2⟩;rw [cC] at t;omega
theorem Kg (x : Int) (h : 0 ≤ x ∧ x < 18446744073709551616) : bits .and .u64 x 4294967295 = x % 4294967296 := by
  obtain ⟨X, rfl⟩ := mn h.1;have h1 := bits_and_u64_nat X 4294967295 (by omega) (by omega);rw [show X &&& 4294967295 = X % 4294967296 from Nat.and_two_pow_sub_one_eq_mod X 32] at h1;rw [show ((4294967295 : Nat) : Int) = 4294967295 from rfl] at h1;rw [h1];omega
theorem Nm.ZJ {hi lo y s U V Y : Int} (h : Nm hi lo y s U V Y) (k : Lz y s) : hn U (V / 4294967296) (Y / 4294967296) (Y % 4294967296) := by
  have a := h.y; have b := h.j8; have c := h.cE; have d := h.v0; have e := h.v1; have f := k.lo; have g := k.hi
  constructor <;> omega
theorem Nm.quo {hi lo y s U V Y : Int} (h : Nm hi lo y s U V Y) (k : Lz y s) : (U * 18446744073709551616 + V / 4294967296 * 4294967296 + V % 4294967296) / (Y / 4294967296 * 4294967296 + Y % 4294967296) = (hi * 18446744073709551616 + lo) / y ∧
    (U * 18446744073709551616 + V / 4294967296 * 4294967296 + V % 4294967296) % (Y / 4294967296 * 4294967296 + Y % 4294967296) / 2 ^ s.toNat = (hi * 18446744073709551616 + lo) % y := by
  have jD : (0 : Int) < 2 ^ s.toNat := jG (by omega);rw [show U * 18446744073709551616 + V / 4294967296 * 4294967296 + V % 4294967296 = U * 18446744073709551616 + V by omega, show Y / 4294967296 * 4294967296 + Y % 4294967296 = Y by omega, ← h.n, h.y];generalize (2 : Int) ^ s.toNat = p at *
  constructor
  · exact Int.mul_ediv_mul_of_pos_left _ _ jD
  · rw [Int.emod_def, Int.mul_ediv_mul_of_pos_left _ _ jD, Int.mul_right_comm, ← Int.sub_mul, Int.mul_ediv_cancel _ (by omega), Int.emod_def]
end Go.Proofs.YtpochbhajmbfdaaGreat
namespace Go.Proofs.YtpochbhajmbfdaaGreat
theorem Pz (s : Int) (eF : 0 ≤ s) (s1 : s < 64) : (2 : Int) * 2 ^ (63 - s).toNat * 2 ^ s.toNat = 18446744073709551616 ∧ (0 : Int) < 2 ^ (63 - s).toNat ∧ (0 : Int) < 2 ^ s.toNat := by
  refine ⟨?_, jG (by omega), jG (by omega)⟩;rw [lp, ← Int.pow_add, show (63 - s).toNat + s.toNat = 63 by omega];decide
theorem WC (A b s T low : Int) (bY : 0 ≤ A) (mv : A ≤ 170141183460469231731687303715884105728) (eF : 0 ≤ s) (s1 : s < 64) (e : b * 2 ^ s.toNat = T * 18446744073709551616 + low) (qz : 0 ≤ low) (l1 : low < 18446744073709551616) (Sv : 9223372036854775808 ≤ T) :
    A / b ≤ A / 2 / T / 2 ^ (63 - s).toNat ∧ A / 2 / T / 2 ^ (63 - s).toNat ≤ A / b + 1 ∧ A / 2 / T / 2 ^ (63 - s).toNat ≤ 9223372036854775808 := by
  obtain ⟨p1, p2, p3⟩ := Pz s eF s1;generalize (2 : Int) ^ (63 - s).toNat = c at *;generalize (2 : Int) ^ s.toNat = p at *;rw [xr (show (0 : Int) ≤ T by omega), xr (show (0 : Int) ≤ 2 by omega)]
 
  have kh : T * (2 * c) * p = T * 18446744073709551616 := by rw [lp, p1]
  have c2 : 2 ≤ 2 * c := by omega
  have Rx : 18446744073709551616 ≤ T * (2 * c) := by
    have := Int.mul_le_mul Sv c2 (by omega) (by omega);omega
  have U8 : T * (2 * c) ≤ b := by
    have : T * (2 * c) * p ≤ b * p := by rw [kh, e]; omega
    exact Int.le_of_mul_le_mul_right this p3
  have agj : b < T * (2 * c) + 2 * c := by
    have : b * p < (T * (2 * c) + 2 * c) * p := by rw [Int.add_mul, kh, p1, e]; omega
    exact Int.lt_of_mul_lt_mul_right this (pM p3)
  rw [show 2 * (T * c) = T * (2 * c) by rw [← lp, jE 2 T, lp]];generalize agZ : T * (2 * c) = D at *;have RB : 0 < D := by omega
  have TQ : 0 < b := by omega
  have g1 : A / D * D ≤ A := Int.ediv_mul_le A (by omega);have g0 : 0 ≤ A / D := pL bY (by omega)
  have gt : A / D ≤ 9223372036854775808 := by
    rcases pK 9223372036854775808 (A / D) with h | h
    · have := Int.mul_le_mul (show 9223372036854775809 ≤ A / D by omega) Rx (by omega) g0
      omega
    · exact h
  refine ⟨?_, ?_, gt⟩
  · rw [pN RB]
    have h1 : A / b * b ≤ A := Int.ediv_mul_le A (by omega);have h2 : A / b * D ≤ A / b * b := pH U8 (pL bY (by omega));omega
  · have : A / D - 1 ≤ A / b := by
      rw [pN TQ];rcases pK 0 (A / D) with h | h
      · have h2 : (A / D - 1) * b ≤ (A / D - 1) * (D + 2 * c) := pH (by omega) (by omega)
        have ap : (A / D - 1) * (2 * c) ≤ T * (2 * c) := pI (by omega) (by omega);rw [Int.mul_add, Int.sub_mul (A / D) 1 D, Int.one_mul] at h2;omega
      · have h2 : (A / D - 1) * b ≤ 0 := Int.mul_nonpos_of_nonpos_of_nonneg (by omega) (by omega)
        omega
    omega
theorem abJ (h l : Nat) (h1 : h * 9223372036854775808 < 18446744073709551616) (h2 : l < 9223372036854775808) (ap : h * 9223372036854775808 + l < 18446744073709551616) :
    bits .or .u64 ((h * 9223372036854775808 : Nat) : Int) (l : Int) = ((h * 9223372036854775808 + l : Nat) : Int) := by
  have e := Ib h l 63;rw [show (2 : Nat) ^ 63 = 9223372036854775808 by decide] at e;exact e h1 h2 ap
theorem W4 (h l : Int) (uC : 0 ≤ h ∧ h < 18446744073709551616) (sY : 0 ≤ l ∧ l < 18446744073709551616) :
    ∃ L, bits .or .u64 (IntKind.u64.wrap (h * 9223372036854775808)) (l / 2) = L ∧ (0 ≤ L ∧ L < 18446744073709551616) ∧ h / 2 * 18446744073709551616 + L = (h * 18446744073709551616 + l) / 2 := by
  obtain ⟨a, rfl⟩ := mn uC.1;obtain ⟨b, rfl⟩ := mn sY.1
  have aO : IntKind.u64.wrap ((a : Int) * 9223372036854775808) = ((a % 2 * 9223372036854775808 : Nat) : Int) := by
    rw [IntKind.wrap_u64];omega
  have w2 : (b : Int) / 2 = ((b / 2 : Nat) : Int) := by omega
  refine ⟨_, rfl, ?_⟩;rw [aO, w2, abJ _ _ (by omega) (by omega) (by omega)];omega
theorem aal {h l s : Int} (k : Lz h s) (aG : 0 ≤ h) (qz : 0 ≤ l) (l1 : l < 18446744073709551616) :
    (h * 18446744073709551616 + l) * 2 ^ s.toNat < 340282366920938463463374607431768211456 ∧ 170141183460469231731687303715884105728 ≤ (h * 18446744073709551616 + l) * 2 ^ s.toNat := by
  obtain ⟨p1, p2, p3⟩ := Pz s k.eF k.s1;have lo := k.lo; have hi := k.hi;generalize (2 : Int) ^ (63 - s).toNat = c at *;generalize (2 : Int) ^ s.toNat = p at *
  have ak : h < 2 * c := by
    rw [← p1] at hi;exact Int.lt_of_mul_lt_mul_right hi (pM p3)
  have h2 : (h + 1) * p ≤ 2 * c * p := pI (by omega) (pM p3);have ap : l * p ≤ 18446744073709551615 * p := pI (by omega) (pM p3);have aL : 0 ≤ l * p := iM qz (pM p3);rw [Int.add_mul, Int.one_mul, p1] at h2;rw [Int.add_mul, Int.mul_right_comm];generalize h * p = hp at *;generalize l * p = ahO at *;omega
end Go.Proofs.YtpochbhajmbfdaaGreat
namespace Go.Proofs.YtpochbhajmbfdaaGreat
open Go.RowKit
theorem TM {w W : World} (h : Below w.heap.size w W) (n : Nat) : Below w.heap.size w (W.drewN n) := ⟨h.os, h.tape, h.output, h.size, h.block⟩
def Si (y : Int) (w : World) (e : Ending) (w' : World) : Prop := ∃ s : Int, e = .returned (.int .i64 s) ∧ Lz y s ∧ w = w'
theorem NX (y : Int) (w : World) (aG : 0 < y) (h1 : y < 18446744073709551616) : Calls aj 305 #[.int .u64 y] w (Si y w) := by
  refine (Tryz.bits_LeadingZeros64 y w (by omega) (by omega)).mono ?_;rintro e w' ⟨rfl, rfl⟩;exact ⟨_, rfl, aak y aG h1, rfl⟩
theorem adz {a b c d : Int} (h : a = c) (k : b = d) : Ending.returned (.tuple #[.int .u64 a, .int .u64 b]) = .returned (.tuple #[.int .u64 c, .int .u64 d]) := by rw [h, k]
def Be (q r : Int) (w : World) (e : Ending) (w' : World) : Prop := e = .returned (.tuple #[.int .u64 q, .int .u64 r]) ∧ Below w.heap.size w w'
theorem UZ (lo y : Int) (w : World) (l : 0 ≤ lo ∧ lo < 18446744073709551616) (nQ : 0 < y) (lv : y < 18446744073709551616) :
    Calls aj 301 #[.int .u64 0, .int .u64 lo, .int .u64 y] w (Be (lo / y) (lo % y) w) := by
  have mj : (y == 0) = false := by simp; omega
  have hP : decide (y ≤ 0) = false := by simp; omega
  obtain ⟨qz, l1⟩ := l
  go_enter Tryz.func301, Tryz.ntmps301
  go_wp2
  go_quiet (fail)
  go_wp2
  go_ret2
  exact ⟨rfl, TM (Below.refl _ _) _⟩
theorem UY (hi lo y : Int) (w : World) (aG : 0 < hi) (h1 : hi < y) (l : 0 ≤ lo ∧ lo < 18446744073709551616) (lv : y < 18446744073709551616) :
    Calls aj 301 #[.int .u64 hi, .int .u64 lo, .int .u64 y] w (Be ((hi * 18446744073709551616 + lo) / y) ((hi * 18446744073709551616 + lo) % y) w) := by
  have mj : (y == 0) = false := by simp; omega
  have hP : decide (y ≤ hi) = false := by simp; omega
  have iI : (hi == 0) = false := by simp; omega
  go_enter Tryz.func301, Tryz.ntmps301
  go_wp2_with fail
  refine (NX y _ (by omega) lv).mono ?_;rintro e aO ⟨s, rfl, hs, rfl⟩;have pA := hs.eF; have oh := hs.s1;have YF : IntKind.u64.wrap s = s := by rw [IntKind.wrap_u64]; omega
  have tB := abf (pM aG) h1 l hs;generalize dy : bits .or .u64 (IntKind.u64.wrap (hi * 2 ^ s.toNat)) (lo / 2 ^ (64 - s).toNat) = U at tB;generalize po : IntKind.u64.wrap (lo * 2 ^ s.toNat) = V at tB;generalize L5 : IntKind.u64.wrap (y * 2 ^ s.toNat) = Y at tB;have jU := tB.ZJ hs;have G8 := tB.quo hs;have L6 : 0 ≤ Y ∧ Y < 18446744073709551616 := by have := jU.a0; have := jU.a1; omega
  have Mb := Kg Y L6;have L9 := Kg V ⟨tB.v0, tB.v1⟩;have two := jU.two (V % 4294967296) (by omega);rw [G8.1] at two;have L7 : Y / 4294967296 * 4294967296 + Y % 4294967296 = Y := by omega
  have D2 := jU.rest;have zw := jU.next (V % 4294967296) (by omega)
  have Ab := zw.rest;rw [L7] at D2 Ab;have Vd : 0 ≤ V % 4294967296 ∧ V % 4294967296 < 4294967296 := by omega
  generalize hd : V / 4294967296 = d at *;generalize he : V % 4294967296 = e at *;generalize aK : Y / 4294967296 = a at *;generalize ab : Y % 4294967296 = b at *;have a0 := jU.a0; have a1 := jU.a1; have n1 := jU.n1; have b1 := jU.b1; have j8 := jU.j8; have d0 := jU.d0; have d1 := jU.d1;have cE : U < 18446744073709551616 := by have := jU.cE; omega
  have afM : (a == 0) = false := by simp; omega
  have xM := Lib.hid two; have RL := Lib.hid G8.2; have uh := Lib.hid jU; have lB := Lib.hid zw;have adg := jU.DX; have adf := jU.cY; have Is := zw.DX; have Ir := zw.cY;have t1 := jU.init; have QB := jU.M7;have i1 := t1.DV jU;have i2 : 0 ≤ U / a := t1.cY
  have i3 : IntKind.u64.wrap (U / a * a) = U / a * a := by
    have := t1.sum; have := t1.hV; rw [IntKind.wrap_u64];have : 0 ≤ U / a * a := iM i2 (by omega);omega
  have i4 := t1.hV;have i7 : 0 ≤ U / a * a := iM i2 (by omega);obtain ⟨m1, wU⟩ : ∃ m, m = U / a * a := ⟨_, rfl⟩;rw [← wU] at i4 i7 t1 QB;have ahr : IntKind.u64.wrap (U / a * a) = m1 := by rw [i3, wU]
  obtain ⟨i5, i6⟩ := QB;have rp := Lib.hid t1;generalize L1 : iG U d a b = my at *;generalize WZ : hN U d a b = k2 at *;have ER := Lib.hid L1;have RM := Lib.hid D2; have RN := Lib.hid Ab;clear two G8 jU zw tB L7 Vd L6 h1 aG l lv i3 wU t1 L1 WZ D2 Ab
  go_upto_block 0 with fail
  go_cut [15, 16] (fun Aj vx fm => w = fm ∧ Aj = .int .u64 my ∧ ∃ r, vx = .int .u64 r)
  case first =>
    go_wp2_with fail
    go_loop [15, 16] (fun Aj vx => ∃ q r : Int, Aj = .int .u64 q ∧ vx = .int .u64 r ∧ lC U d a b q r ∧ r < 4294967296) (fun Aj _ => (intOf Aj).toNat)
    case atStart => exact ⟨_, _, rfl, rfl, rp.out, i6⟩
    case round =>
      obtain ⟨q, r, rfl, rfl, aE, aq⟩ := hrel;have al := aE.DV uh.out;have MF := aE.cY;have Yj := aE.hV
      by_cases ab : 4294967296 ≤ q
      · obtain ⟨fP, mc⟩ := aE.down uh.out (.inl ab)
        have mx := Lib.hid fP;clear fP
        by_cases aa : 4294967296 ≤ r + a
        · have iD := mx.out.out uh.out aa
          rw [ER.out] at iD;have lX := Lib.hid iD;clear iD
          go_wp2_with fail
          go_meet
          exact ⟨rfl, congrArg _ lX.out, _, rfl⟩
        · go_wp2_with fail
          go_round
          case rel => exact ⟨_, _, rfl, rfl, mx.out, by omega⟩
          case measure => simp [intOf]; omega
      · have GW := aE.oy uh.out (by omega)
        obtain ⟨P, fC⟩ : ∃ P, P = q * b := ⟨_, rfl⟩;rw [← fC] at GW;have WU : IntKind.u64.wrap (q * b) = P := by rw [← fC, IntKind.wrap_u64]; omega
        have rh := Lib.hid fC;clear fC
        by_cases ak : 4294967296 * r + d < P
        · obtain ⟨fP, mc⟩ := aE.down uh.out (.inr (by rw [← rh.out]; exact ak))
          have mx := Lib.hid fP;clear fP
          by_cases aa : 4294967296 ≤ r + a
          · have iD := mx.out.out uh.out aa
            rw [ER.out] at iD;have lX := Lib.hid iD;clear iD
            go_wp2_with fail
            go_meet
            exact ⟨rfl, congrArg _ lX.out, _, rfl⟩
          · go_wp2_with fail
            go_round
            case rel => exact ⟨_, _, rfl, rfl, mx.out, by omega⟩
            case measure => simp [intOf]; omega
        · have iD := aE.done uh.out (by rw [← rh.out]; omega)
          rw [ER.out] at iD;have lX := Lib.hid iD;clear iD
          go_wp2_with fail
          go_meet
          exact ⟨rfl, congrArg _ lX.out, _, rfl⟩
  case rest =>
    obtain ⟨rfl, rfl, cP, rfl⟩ := hcut;have D2 := RM.out;have v0 := lB.out.j8;have v1 : k2 < 18446744073709551616 := by have := lB.out.cE; omega
    have dp := lB.out.d0; have aI := lB.out.d1;have t2 := lB.out.init; have QC := lB.out.M7;have qy := t2.DV lB.out;have C2 : 0 ≤ k2 / a := t2.cY
    have Nq : IntKind.u64.wrap (k2 / a * a) = k2 / a * a := by
      have := t2.sum; have := t2.hV; rw [IntKind.wrap_u64];have : 0 ≤ k2 / a * a := iM C2 (by omega);omega
    have Ze := t2.hV;have Zg : 0 ≤ k2 / a * a := iM C2 (by omega);obtain ⟨m2, nl⟩ : ∃ m, m = k2 / a * a := ⟨_, rfl⟩;rw [← nl] at Ze Zg t2 QC;have ahD : IntKind.u64.wrap (k2 / a * a) = m2 := by rw [Nq, nl]
    obtain ⟨ahE, Zf⟩ := QC;have vU := Lib.hid t2;obtain ⟨mz, Gq⟩ : ∃ Q, Q = iG k2 e a b := ⟨_, rfl⟩;have xN := Lib.hid Gq.symm;have Ir := lB.out.cY; have Is := lB.out.DX;rw [← Gq] at Ir Is;clear Nq nl t2 Gq
    go_upto_block 2 with fail
    go_cut [18, 16] (fun Ak vx fm => w = fm ∧ Ak = .int .u64 mz ∧ ∃ r, vx = .int .u64 r)
    case first =>
      go_wp2_with fail
      go_loop [18, 16] (fun Ak vx => ∃ q r : Int, Ak = .int .u64 q ∧ vx = .int .u64 r ∧ lC k2 e a b q r ∧ r < 4294967296) (fun Ak _ => (intOf Ak).toNat)
      case atStart => exact ⟨_, _, rfl, rfl, vU.out, Zf⟩
      case round =>
        obtain ⟨q, r, rfl, rfl, aE, aq⟩ := hrel;have al := aE.DV lB.out;have MF := aE.cY;have Yj := aE.hV
        by_cases ab : 4294967296 ≤ q
        · obtain ⟨fP, mc⟩ := aE.down lB.out (.inl ab)
          have mx := Lib.hid fP;clear fP
          by_cases aa : 4294967296 ≤ r + a
          · have iD := mx.out.out lB.out aa
            rw [xN.out] at iD;have lX := Lib.hid iD;clear iD
            go_wp2_with fail
            go_meet
            exact ⟨rfl, congrArg _ lX.out, _, rfl⟩
          · go_wp2_with fail
            go_round
            case rel => exact ⟨_, _, rfl, rfl, mx.out, by omega⟩
            case measure => simp [intOf]; omega
        · have GW := aE.oy lB.out (by omega)
          obtain ⟨P, fC⟩ : ∃ P, P = q * b := ⟨_, rfl⟩;rw [← fC] at GW;have WU : IntKind.u64.wrap (q * b) = P := by rw [← fC, IntKind.wrap_u64]; omega
          have rh := Lib.hid fC;clear fC
          by_cases ak : 4294967296 * r + e < P
          · obtain ⟨fP, mc⟩ := aE.down lB.out (.inr (by rw [← rh.out]; exact ak))
            have mx := Lib.hid fP;clear fP
            by_cases aa : 4294967296 ≤ r + a
            · have iD := mx.out.out lB.out aa
              rw [xN.out] at iD;have lX := Lib.hid iD;clear iD
              go_wp2_with fail
              go_meet
              exact ⟨rfl, congrArg _ lX.out, _, rfl⟩
            · go_wp2_with fail
              go_round
              case rel => exact ⟨_, _, rfl, rfl, mx.out, by omega⟩
              case measure => simp [intOf]; omega
          · have iD := aE.done lB.out (by rw [← rh.out]; omega)
            rw [xN.out] at iD;have lX := Lib.hid iD;clear iD
            go_wp2_with fail
            go_meet
            exact ⟨rfl, congrArg _ lX.out, _, rfl⟩
    case rest =>
      obtain ⟨rfl, rfl, ea, rfl⟩ := hcut;have Ab := RN.out;rw [xN.out] at Ab;have fin := xM.out;have F0 := RL.out;rw [xN.out] at fin;rw [← fin.2] at F0;have RG := Lib.hid fin.1;have RH := Lib.hid F0;generalize hN k2 e a b = R at *;clear fin F0
      go_wp2
      go_ret2
      exact ⟨adz RG.out RH.out, Below.refl _ _⟩
theorem FK (hi lo y : Int) (w : World) (aG : 0 ≤ hi) (h1 : hi < y) (l : 0 ≤ lo ∧ lo < 18446744073709551616) (lv : y < 18446744073709551616) :
    Calls aj 301 #[.int .u64 hi, .int .u64 lo, .int .u64 y] w (Be ((hi * 18446744073709551616 + lo) / y) ((hi * 18446744073709551616 + lo) % y) w) := by
  by_cases h : hi = 0
  · subst h
    rw [Int.zero_mul, Int.zero_add];exact UZ lo y w l (by omega) lv
  · exact UY hi lo y w (by omega) h1 l lv
end Go.Proofs.YtpochbhajmbfdaaGreat
namespace Go.Proofs.YtpochbhajmbfdaaGreat
open Go.RowKit
theorem VW (x y : Int) (w : World) : (Instr.field 311 (.agg #[.int .u64 x, .int .u64 y]) 0).run aj w = .ok (.int .u64 x) w := by kernel_rfl
attribute [local go_sem] VW
def Sg (q : Int) (w : World) (e : Ending) (w' : World) : Prop := ∃ g : Int, e = .returned (.int .u64 g) ∧ (0 ≤ g ∧ g ≤ q ∧ q ≤ g + 1 ∧ g < 18446744073709551616) ∧ Below w.heap.size w w'
theorem Wy (h1 l1 n h2 l2 m : Int) (w : World) (H1 : cJ h1 l1 n) (b8 : cJ h2 l2 m) (aF : n ≤ 170141183460469231731687303715884105728) (hm : h2 ≠ 0) :
    Calls aj 302 #[.agg #[.int .u64 h1, .int .u64 l1], .agg #[.int .u64 h2, .int .u64 l2]] w (Sg (n / m) w) := by
  obtain ⟨b1, b2, aI⟩ := id H1;obtain ⟨ed, dD, aN⟩ := id b8
  go_enter Tryz.func302, Tryz.ntmps302
  go_wp2_with fail
  refine (NX h2 _ (by omega) (by omega)).mono ?_;rintro e aO ⟨s, rfl, hs, rfl⟩;have pA := hs.eF; have oh := hs.s1;have YF : IntKind.u64.wrap s = s := by rw [IntKind.wrap_u64]; omega
  go_wp2_with fail
  obtain ⟨An, Eg⟩ := aal hs ed.1 dD.1 dD.2;rw [← aN] at An Eg;refine (Qq _ _ m s _ b8 pA (by omega) An).mono ?_;rintro e aO ⟨T, low, rfl, dY, bC⟩;have fW : ah aO (w.heap.size) (.int .u64 h1) (.int .u64 l1) := (by (repeat first | focus ((with_reducible refine ah.new ?_); simp; done) | with_reducible refine ah.alloc ?_ _ | with_reducible refine ah.call ?_ bC)); obtain ⟨⟨lD, lE⟩, lG, lH⟩ := id fW; have jk : ah aO (w.heap.size + 1) (.int .u64 h2) (.int .u64 l2) := (by (repeat first | focus ((with_reducible refine ah.new ?_); simp; done) | with_reducible refine ah.call ?_ bC)); obtain ⟨⟨o6, pb⟩, pf, pi⟩ := id jk; have mf := Below.size bC; (try simp at mf); have tL : ¬ aO.heap.size = w.heap.size := (by omega); have vf : ¬ aO.heap.size = w.heap.size + 1 := (by omega); have tc : ¬ w.heap.size = aO.heap.size := (by omega); have uG : ¬ w.heap.size + 1 = aO.heap.size := (by omega); have tI : w.heap.size < aO.heap.size := (by omega); have vc : w.heap.size + 1 < aO.heap.size := (by omega);obtain ⟨TK, sY, K7⟩ := dY;have WX : 9223372036854775808 ≤ T := by omega
  obtain ⟨L, iB, WR, LX⟩ := W4 h1 l1 b1 b2;have aw := WC n m s T low (by omega) aF pA oh K7 sY.1 sY.2 WX;have aY : h1 / 2 < T := by omega
  have hdiv : Hid (∀ w, Calls aj 301 #[.int .u64 (h1 / 2), .int .u64 L, .int .u64 T] w (Be (n / 2 / T) ((h1 / 2 * 18446744073709551616 + L) % T) w)) := fun w => by
    rw [aI, ← LX];exact FK (h1 / 2) L T w (by omega) aY WR TK.2
  have MF : 0 ≤ n / 2 / T := pL (by omega) (by omega);have yX : 0 ≤ n / m := pL (by omega) (by omega);generalize n / 2 / T = Q at *;generalize n / m = q at *;clear An Eg LX aI aN K7 aF hm H1 b8;obtain ⟨ag8, ag9, aha⟩ := aw
  go_wp2_with fail
  refine (hdiv.out _).mono ?_;rintro e w2 ⟨rfl, bW⟩
  go_wp2_with fail
  · have cn : (Q / 2 ^ (63 - s).toNat != 0) = true := by assumption
    go_ret
    refine ⟨_, rfl, ?_, by (repeat first | with_reducible exact Below.refl _ _ | with_reducible refine cT ?_ _ | with_reducible refine b0 ?_ bW | with_reducible refine b0 ?_ bC)⟩;generalize Q / 2 ^ (63 - s).toNat = G at *;rw [bne_iff_ne] at cn
    first | (rw [IntKind.wrap_u64]; omega) | omega
  · have cn : (Q / 2 ^ (63 - s).toNat != 0) = false := by assumption
    go_ret
    refine ⟨_, rfl, ?_, by (repeat first | with_reducible exact Below.refl _ _ | with_reducible refine cT ?_ _ | with_reducible refine b0 ?_ bW | with_reducible refine b0 ?_ bC)⟩;generalize Q / 2 ^ (63 - s).toNat = G at *;rw [bne_eq_false_iff_eq] at cn;omega
def E5 (q r : Int) (w : World) (e : Ending) (w' : World) : Prop := ∃ a b c d : Int, e = .returned (.tuple #[.agg #[.int .u64 a, .int .u64 b], .agg #[.int .u64 c, .int .u64 d]]) ∧ cJ a b q ∧ cJ c d r ∧ Below w.heap.size w w'
theorem U3 {h1 l1 n m : Int} (H1 : cJ h1 l1 n) (m0 : 0 < m) (m1 : m < 18446744073709551616) :
    cJ (h1 / m) ((h1 % m * 18446744073709551616 + l1) / m) (n / m) ∧ cJ 0 ((h1 % m * 18446744073709551616 + l1) % m) (n % m) := by
  obtain ⟨b1, b2, rfl⟩ := H1;have hV := oN h1 (show m ≠ 0 by omega);have cP := nH h1 m0
  have e : h1 * 18446744073709551616 + l1 = (h1 % m * 18446744073709551616 + l1) + m * (h1 / m * 18446744073709551616) := by
    have := ss h1 m;rw [← lp];generalize m * (h1 / m) = k at *;omega
  have cY : 0 ≤ h1 / m := pL b1.1 (by omega);have q1 : h1 / m ≤ h1 := Int.ediv_le_self _ b1.1;have eF := oN (h1 % m * 18446744073709551616 + l1) (show m ≠ 0 by omega);have s1 := nH (h1 % m * 18446744073709551616 + l1) m0;have t0 : 0 ≤ (h1 % m * 18446744073709551616 + l1) / m := pL (by omega) (by omega);have t1 : (h1 % m * 18446744073709551616 + l1) / m < 18446744073709551616 := Int.ediv_lt_of_lt_mul m0 (by omega)
  constructor
  · refine ⟨by omega, by omega, ?_⟩
    rw [e, Int.add_mul_ediv_left _ _ (by omega)];omega
  · refine ⟨by omega, by omega, ?_⟩
    rw [e, Int.add_mul_emod_self_left];omega
theorem U2 (h1 l1 n l2 : Int) (w : World) (H1 : cJ h1 l1 n) (b8 : cJ 0 l2 l2) (m0 : 0 < l2) :
    Calls aj 298 #[.agg #[.int .u64 h1, .int .u64 l1], .agg #[.int .u64 0, .int .u64 l2]] w (E5 (n / l2) (n % l2) w) := by
  have m1 : l2 < 18446744073709551616 := b8.2.1.2;have hd := U3 H1 m0 m1;have mx := Lib.hid hd;have b1 := H1.1; have b2 := H1.2.1;have hV := oN h1 (show l2 ≠ 0 by omega);have cP := nH h1 m0;clear hd
  go_enter Tryz.func298, Tryz.ntmps298
  go_wp2_with fail
  refine (FK 0 h1 l2 _ (by omega) m0 b1 m1).mono ?_;rintro e aO ⟨rfl, bC⟩;rw [Int.zero_mul, Int.zero_add];have fW : ah aO (w.heap.size) (.int .u64 h1) (.int .u64 l1) := (by (repeat first | focus ((with_reducible refine ah.new ?_); simp; done) | with_reducible refine ah.alloc ?_ _ | with_reducible refine ah.call ?_ bC)); obtain ⟨⟨lD, lE⟩, lG, lH⟩ := id fW; have jk : ah aO (w.heap.size + 1) (.int .u64 0) (.int .u64 l2) := (by (repeat first | focus ((with_reducible refine ah.new ?_); simp; done) | with_reducible refine ah.alloc ?_ _ | with_reducible refine ah.call ?_ bC)); obtain ⟨⟨o6, pb⟩, pf, pi⟩ := id jk; have oT : ah aO (w.heap.size + 1 + 1) (.int .u64 0) (.int .u64 0) := (by (repeat first | focus ((with_reducible refine ah.new ?_); simp; done) | with_reducible refine ah.alloc ?_ _ | with_reducible refine ah.call ?_ bC)); obtain ⟨⟨wh, wq⟩, wz, wE⟩ := id oT; have q7 : ah aO (w.heap.size + 1 + 1 + 1) (.int .u64 0) (.int .u64 0) := (by (repeat first | focus ((with_reducible refine ah.new ?_); simp; done) | with_reducible refine ah.call ?_ bC)); obtain ⟨⟨yg, yo⟩, yz, yD⟩ := id q7; have mf := Below.size bC; (try simp at mf); have tL : ¬ aO.heap.size = w.heap.size := (by omega); have vf : ¬ aO.heap.size = w.heap.size + 1 := (by omega); have zL : ¬ aO.heap.size = w.heap.size + 1 + 1 := (by omega); have Oo : ¬ aO.heap.size = w.heap.size + 1 + 1 + 1 := (by omega); have tc : ¬ w.heap.size = aO.heap.size := (by omega); have uG : ¬ w.heap.size + 1 = aO.heap.size := (by omega); have yt : ¬ w.heap.size + 1 + 1 = aO.heap.size := (by omega); have Li : ¬ w.heap.size + 1 + 1 + 1 = aO.heap.size := (by omega); have tI : w.heap.size < aO.heap.size := (by omega); have vc : w.heap.size + 1 < aO.heap.size := (by omega); have zE : w.heap.size + 1 + 1 < aO.heap.size := (by omega); have NS : w.heap.size + 1 + 1 + 1 < aO.heap.size := (by omega);generalize h1 % l2 = R at *;generalize h1 / l2 = Q at *
  go_wp2_with fail
  refine (FK R l1 l2 _ hV cP b2 m1).mono ?_;rintro e w2 ⟨rfl, bW⟩;have iQ : ah w2 (w.heap.size) (.int .u64 h1) (.int .u64 l1) := (by (repeat first | with_reducible assumption | with_reducible refine ah.call ?_ bW)); obtain ⟨⟨o7, pc⟩, pg, pj⟩ := id iQ; have lx : ah w2 (w.heap.size + 1) (.int .u64 0) (.int .u64 l2) := (by (repeat first | with_reducible assumption | with_reducible refine ah.call ?_ bW)); obtain ⟨⟨sZ, s8⟩, tf, tk⟩ := id lx; have ly : ah w2 (w.heap.size + 1 + 1) (.int .u64 0) (.int .u64 0) := (by (repeat first | with_reducible assumption | with_reducible refine ah.call ?_ bW)); obtain ⟨⟨s0, s9⟩, tg, tl⟩ := id ly; have q8 : ah w2 (w.heap.size + 1 + 1 + 1) (.int .u64 0) (.int .u64 0) := (by (repeat first | with_reducible assumption | with_reducible refine ah.call ?_ bW)); obtain ⟨⟨yh, yp⟩, yA, yE⟩ := id q8; have nv := Below.size bW; (try simp at nv); have xd : ¬ w2.heap.size = w.heap.size := (by omega); have zM : ¬ w2.heap.size = w.heap.size + 1 := (by omega); have Dt : ¬ w2.heap.size = w.heap.size + 1 + 1 := (by omega); have Oq : ¬ w2.heap.size = w.heap.size + 1 + 1 + 1 := (by omega); have wv : ¬ w.heap.size = w2.heap.size := (by omega); have yu : ¬ w.heap.size + 1 = w2.heap.size := (by omega); have BX : ¬ w.heap.size + 1 + 1 = w2.heap.size := (by omega); have Lj : ¬ w.heap.size + 1 + 1 + 1 = w2.heap.size := (by omega); have w7 : w.heap.size < w2.heap.size := (by omega); have zF : w.heap.size + 1 < w2.heap.size := (by omega); have Dh : w.heap.size + 1 + 1 < w2.heap.size := (by omega); have NT : w.heap.size + 1 + 1 + 1 < w2.heap.size := (by omega);generalize (R * 18446744073709551616 + l1) / l2 = mz at *;generalize (R * 18446744073709551616 + l1) % l2 = eY at *
  go_wp2_with fail
  refine bodyPost_ret (v := .tuple #[.agg #[.int .u64 Q, .int .u64 mz], .agg #[.int .u64 0, .int .u64 eY]]) (by simp only [results, Tryz.results298]; go_simp) rfl ⟨_, _, _, _, rfl, mx.out.1, mx.out.2, ?_⟩;(repeat first | with_reducible exact Below.refl _ _ | with_reducible refine cT ?_ _ | focus ((with_reducible refine eG ?_ _ _ _ ?_); rotate_left; omega) | with_reducible refine b0 ?_ bW | with_reducible refine b0 ?_ bC)
end Go.Proofs.YtpochbhajmbfdaaGreat
namespace Go.Proofs.YtpochbhajmbfdaaGreat
open Go.RowKit
theorem Wz {n m g : Int} (mj : 0 ≤ n) (m0 : 0 < m) (hP : n < 340282366920938463463374607431768211456) (h : g ≤ n / m) (g0 : 0 ≤ g) : kK (g * m) = true ∧ g * m ≤ n := by
  have h1 : g * m ≤ n := (pN m0).1 h;unfold kK;rw [cB];exact ⟨by omega, h1⟩
theorem WA {n m g : Int} (m0 : 0 < m) (h : g ≤ n / m) (k : n - g * m < m) : g = n / m ∧ n - g * m = n % m := by
  have h1 : g * m ≤ n := (pN m0).1 h;have h2 : n / m < g + 1 := Int.ediv_lt_of_lt_mul m0 (by rw [Int.add_mul]; omega);have e : g = n / m := by omega
  refine ⟨e, ?_⟩;rw [Int.emod_def, e, jE]
theorem WB {n m g : Int} (m0 : 0 < m) (h : n / m ≤ g + 1) (k : ¬ n - g * m < m) : g + 1 = n / m ∧ n - g * m - m = n % m := by
  have h2 : g + 1 ≤ n / m := (pN m0).2 (by rw [Int.add_mul]; omega);have e : g + 1 = n / m := by omega
  refine ⟨e, ?_⟩;rw [Int.emod_def, ← e, jE m, Int.add_mul];omega
theorem adq {n m g : Int} (mj : 0 ≤ n) (aF : n ≤ 170141183460469231731687303715884105728) (m0 : 18446744073709551616 ≤ m) (h : g ≤ n / m) : g < 9223372036854775809 := by
  rcases pK g 9223372036854775809 with k | k
  · exact k
  · have h1 : g * m ≤ n := (pN (by omega)).1 h
    have h2 : 9223372036854775809 * 18446744073709551616 ≤ g * m := Int.mul_le_mul k m0 (by omega) (by omega);omega
theorem U1 (h1 l1 n h2 l2 m : Int) (w : World) (H1 : cJ h1 l1 n) (b8 : cJ h2 l2 m) (aF : n ≤ 170141183460469231731687303715884105728) (hm : h2 ≠ 0) :
    Calls aj 298 #[.agg #[.int .u64 h1, .int .u64 l1], .agg #[.int .u64 h2, .int .u64 l2]] w (E5 (n / m) (n % m) w) := by
  have mj : 0 ≤ n := by have := H1; unfold cJ at this; omega
  have m0 : 0 < m := by have := b8; unfold cJ at this; omega
  have aip : (h2 == 0) = false := by simpa using hm
  go_enter Tryz.func298, Tryz.ntmps298
  go_wp2_with fail
  refine (Wy _ _ _ _ _ _ _ H1 b8 aF hm).mono ?_;rintro e aO ⟨g, rfl, ⟨g0, g1, g2, g3⟩, bC⟩;have fW : ah aO (w.heap.size) (.int .u64 h1) (.int .u64 l1) := (by (repeat first | focus ((with_reducible refine ah.new ?_); simp; done) | with_reducible refine ah.alloc ?_ _ | with_reducible refine ah.call ?_ bC)); obtain ⟨⟨lD, lE⟩, lG, lH⟩ := id fW; have jk : ah aO (w.heap.size + 1) (.int .u64 h2) (.int .u64 l2) := (by (repeat first | focus ((with_reducible refine ah.new ?_); simp; done) | with_reducible refine ah.alloc ?_ _ | with_reducible refine ah.call ?_ bC)); obtain ⟨⟨o6, pb⟩, pf, pi⟩ := id jk; have oT : ah aO (w.heap.size + 1 + 1) (.int .u64 0) (.int .u64 0) := (by (repeat first | focus ((with_reducible refine ah.new ?_); simp; done) | with_reducible refine ah.alloc ?_ _ | with_reducible refine ah.call ?_ bC)); obtain ⟨⟨wh, wq⟩, wz, wE⟩ := id oT; have q7 : ah aO (w.heap.size + 1 + 1 + 1) (.int .u64 0) (.int .u64 0) := (by (repeat first | focus ((with_reducible refine ah.new ?_); simp; done) | with_reducible refine ah.call ?_ bC)); obtain ⟨⟨yg, yo⟩, yz, yD⟩ := id q7; have mf := Below.size bC; (try simp at mf); have tL : ¬ aO.heap.size = w.heap.size := (by omega); have vf : ¬ aO.heap.size = w.heap.size + 1 := (by omega); have zL : ¬ aO.heap.size = w.heap.size + 1 + 1 := (by omega); have Oo : ¬ aO.heap.size = w.heap.size + 1 + 1 + 1 := (by omega); have tc : ¬ w.heap.size = aO.heap.size := (by omega); have uG : ¬ w.heap.size + 1 = aO.heap.size := (by omega); have yt : ¬ w.heap.size + 1 + 1 = aO.heap.size := (by omega); have Li : ¬ w.heap.size + 1 + 1 + 1 = aO.heap.size := (by omega); have tI : w.heap.size < aO.heap.size := (by omega); have vc : w.heap.size + 1 < aO.heap.size := (by omega); have zE : w.heap.size + 1 + 1 < aO.heap.size := (by omega); have NS : w.heap.size + 1 + 1 + 1 < aO.heap.size := (by omega);have qo : cJ 0 g g := by unfold cJ; omega
  obtain ⟨Wq, Wr⟩ := Wz mj m0 (by omega) g1 g0;have GU := WA m0 g1;have GX := WB m0 g2;generalize Mn : g * m = Gb at *;have g4 : g < 9223372036854775809 := adq mj aF (by have := b8; unfold cJ at this; omega) g1;clear hm
  go_wp2_with fail
  refine (Oj _ _ _ _ _ _ _ qo b8).mono ?_;rw [Mn];rintro e w2 ⟨ph, pl, rfl, hp, bW⟩;rw [if_pos Wq] at hp;clear Mn;have iQ : ah w2 (w.heap.size) (.int .u64 h1) (.int .u64 l1) := (by (repeat first | with_reducible assumption | with_reducible refine ah.call ?_ bW)); obtain ⟨⟨o7, pc⟩, pg, pj⟩ := id iQ; have lx : ah w2 (w.heap.size + 1) (.int .u64 h2) (.int .u64 l2) := (by (repeat first | with_reducible assumption | with_reducible refine ah.call ?_ bW)); obtain ⟨⟨sZ, s8⟩, tf, tk⟩ := id lx; have ly : ah w2 (w.heap.size + 1 + 1) (.int .u64 0) (.int .u64 0) := (by (repeat first | with_reducible assumption | with_reducible refine ah.call ?_ bW)); obtain ⟨⟨s0, s9⟩, tg, tl⟩ := id ly; have q8 : ah w2 (w.heap.size + 1 + 1 + 1) (.int .u64 0) (.int .u64 0) := (by (repeat first | with_reducible assumption | with_reducible refine ah.call ?_ bW)); obtain ⟨⟨yh, yp⟩, yA, yE⟩ := id q8; have nv := Below.size bW; (try simp at nv); have xd : ¬ w2.heap.size = w.heap.size := (by omega); have zM : ¬ w2.heap.size = w.heap.size + 1 := (by omega); have Dt : ¬ w2.heap.size = w.heap.size + 1 + 1 := (by omega); have Oq : ¬ w2.heap.size = w.heap.size + 1 + 1 + 1 := (by omega); have wv : ¬ w.heap.size = w2.heap.size := (by omega); have yu : ¬ w.heap.size + 1 = w2.heap.size := (by omega); have BX : ¬ w.heap.size + 1 + 1 = w2.heap.size := (by omega); have Lj : ¬ w.heap.size + 1 + 1 + 1 = w2.heap.size := (by omega); have w7 : w.heap.size < w2.heap.size := (by omega); have zF : w.heap.size + 1 < w2.heap.size := (by omega); have Dh : w.heap.size + 1 + 1 < w2.heap.size := (by omega); have NT : w.heap.size + 1 + 1 + 1 < w2.heap.size := (by omega);clear fW lD lE lG lH jk o6 pb pf pi oT wh wq wz wE q7 yg yo yz yD tL tc tI vf uG vc zL yt zE Oo Li NS
  go_wp2_with fail
  refine (Qz _ _ _ _ _ _ _ H1 hp Wr).mono ?_;rintro e w3 ⟨je, jf, rfl, aq, cV⟩;have lz : ah w3 (w.heap.size) (.int .u64 h1) (.int .u64 l1) := (by (repeat first | with_reducible assumption | with_reducible refine ah.alloc ?_ _ | with_reducible refine ah.call ?_ cV)); obtain ⟨⟨wj, wu⟩, wA, wF⟩ := id lz; have rb : ah w3 (w.heap.size + 1) (.int .u64 h2) (.int .u64 l2) := (by (repeat first | with_reducible assumption | with_reducible refine ah.alloc ?_ _ | with_reducible refine ah.call ?_ cV)); obtain ⟨⟨BI, BS⟩, B9, Cj⟩ := id rb; have vH : ah w3 (w.heap.size + 1 + 1) (.int .u64 0) (.int .u64 0) := (by (repeat first | with_reducible assumption | with_reducible refine ah.alloc ?_ _ | with_reducible refine ah.call ?_ cV)); obtain ⟨⟨Fz, FI⟩, FY, F8⟩ := id vH; have Jf : ah w3 (w.heap.size + 1 + 1 + 1) (.int .u64 0) (.int .u64 0) := (by (repeat first | with_reducible assumption | with_reducible refine ah.alloc ?_ _ | with_reducible refine ah.call ?_ cV)); obtain ⟨⟨T5, UP⟩, VQ, Wj⟩ := id Jf; have r3 := Below.size cV; (try simp at r3); have zN : ¬ w3.heap.size = w.heap.size := (by omega); have Du : ¬ w3.heap.size = w.heap.size + 1 := (by omega); have H9 : ¬ w3.heap.size = w.heap.size + 1 + 1 := (by omega); have aaY : ¬ w3.heap.size = w.heap.size + 1 + 1 + 1 := (by omega); have yv : ¬ w.heap.size = w3.heap.size := (by omega); have BZ : ¬ w.heap.size + 1 = w3.heap.size := (by omega); have FT : ¬ w.heap.size + 1 + 1 = w3.heap.size := (by omega); have Vp : ¬ w.heap.size + 1 + 1 + 1 = w3.heap.size := (by omega); have zG : w.heap.size < w3.heap.size := (by omega); have Di : w.heap.size + 1 < w3.heap.size := (by omega); have HM : w.heap.size + 1 + 1 < w3.heap.size := (by omega); have aah : w.heap.size + 1 + 1 + 1 < w3.heap.size := (by omega);clear iQ o7 pc pg pj lx sZ s8 tf tk ly s0 s9 tg tl q8 yh yp yA yE xd wv w7 zM yu zF Dt BX Dh Oq Lj NT
  go_wp2_with fail
  refine (aaa _ _ _ _ _ _ _ aq b8).mono ?_;rintro e ff ⟨rfl, eU⟩;have abn : ¬ w.heap.size + 1 + 1 + 1 = w.heap.size := by omega
  have abm : ¬ w.heap.size + 1 + 1 = w.heap.size := by omega
  have AN : ah ff (w.heap.size) (.int .u64 h1) (.int .u64 l1) := (by (repeat first | with_reducible assumption | focus ((with_reducible refine ah.set ?_ _ ?_); rotate_left; omega) | with_reducible refine ah.call ?_ eU)); obtain ⟨⟨Kz, KX⟩, Ls, LH⟩ := id AN; have AO : ah ff (w.heap.size + 1) (.int .u64 h2) (.int .u64 l2) := (by (repeat first | with_reducible assumption | focus ((with_reducible refine ah.set ?_ _ ?_); rotate_left; omega) | with_reducible refine ah.call ?_ eU)); obtain ⟨⟨KA, KY⟩, Lt, LI⟩ := id AO; have AP : ah ff (w.heap.size + 1 + 1) (.int .u64 0) (.int .u64 0) := (by (repeat first | with_reducible assumption | focus ((with_reducible refine ah.set ?_ _ ?_); rotate_left; omega) | with_reducible refine ah.call ?_ eU)); obtain ⟨⟨KB, KZ⟩, Lu, LJ⟩ := id AP; have Jg : ah ff (w.heap.size + 1 + 1 + 1) (.int .u64 je) (.int .u64 jf) := (by (repeat first | with_reducible refine ah.put ?_ | focus ((with_reducible apply fg.of); with_reducible assumption) | with_reducible refine ah.call ?_ eU)); obtain ⟨⟨T9, UT⟩, VU, Wn⟩ := id Jg; have Hq := Below.size eU; (try simp at Hq); have Ot : ¬ ff.heap.size = w.heap.size := (by omega); have Ou : ¬ ff.heap.size = w.heap.size + 1 := (by omega); have aaZ : ¬ ff.heap.size = w.heap.size + 1 + 1 := (by omega); have aa0 : ¬ ff.heap.size = w.heap.size + 1 + 1 + 1 := (by omega); have Lk : ¬ w.heap.size = ff.heap.size := (by omega); have Ll : ¬ w.heap.size + 1 = ff.heap.size := (by omega); have Vq : ¬ w.heap.size + 1 + 1 = ff.heap.size := (by omega); have Vr : ¬ w.heap.size + 1 + 1 + 1 = ff.heap.size := (by omega); have NU : w.heap.size < ff.heap.size := (by omega); have NV : w.heap.size + 1 < ff.heap.size := (by omega); have aai : w.heap.size + 1 + 1 < ff.heap.size := (by omega); have aaj : w.heap.size + 1 + 1 + 1 < ff.heap.size := (by omega);clear lz wj wu wA wF rb BI BS B9 Cj vH Fz FI FY F8 Jf T5 UP VQ Wj zN yv zG Du BZ Di H9 FT HM aaY Vp aah
  by_cases an : n - Gb < m
  · obtain ⟨q1, q2⟩ := GU (by omega)
    have xM := Lib.hid q1; have ES := Lib.hid q2;clear GU GX q1 q2
    go_wp2_with fail
    go_region
    all_goals
      go_wp2_with fail
      refine yd ?_; intro kd h5; have q5 : ah kd (w.heap.size + 1 + 1) (.int .u64 0) (.int .u64 g) := (by rw [h5]; (repeat first | with_reducible refine ah.drew ?_ | with_reducible refine ah.put ?_ | focus ((with_reducible refine ah.set ?_ _ ?_); rotate_left; omega) | focus ((with_reducible apply fg.of); with_reducible assumption))); obtain ⟨⟨BE, BQ⟩, B5, Ch⟩ := id q5; have q6 : ah kd (w.heap.size + 1 + 1 + 1) (.int .u64 je) (.int .u64 jf) := (by rw [h5]; (repeat first | with_reducible refine ah.drew ?_ | with_reducible refine ah.put ?_ | focus ((with_reducible apply fg.of); with_reducible assumption) | with_reducible refine fg.set ?_ _ _)); obtain ⟨⟨BF, BR⟩, B6, Ci⟩ := id q6; have n9 : Below w.heap.size w kd := (by rw [h5]; (repeat first | with_reducible exact Below.refl _ _ | with_reducible refine cT ?_ _ | focus ((with_reducible refine eG ?_ _ _ _ ?_); rotate_left; omega) | with_reducible refine Below.drew ?_ | with_reducible refine b0 ?_ eU | with_reducible refine b0 ?_ cV | with_reducible refine b0 ?_ bW | with_reducible refine b0 ?_ bC)); clear h5;exact bodyPost_ret (v := .tuple #[.agg #[.int .u64 0, .int .u64 g], .agg #[.int .u64 je, .int .u64 jf]]) (by simp only [results, Tryz.results298]; go_simp) rfl ⟨_, _, _, _, rfl, qo.conv xM.out, aq.conv ES.out, n9⟩
  · obtain ⟨q1, q2⟩ := GX (by omega)
    have xM := Lib.hid q1; have ES := Lib.hid q2;have WL : cJ 0 (g + 1) (g + 1) := by unfold cJ; omega
    have u1 : Hid (∀ w, Calls aj 303 #[.agg #[.int .u64 je, .int .u64 jf], .agg #[.int .u64 h2, .int .u64 l2]] w (aT (n - Gb - m) w)) := fun w => Qz _ _ _ _ _ _ w aq b8 (by omega);have hq : decide (n - Gb < m) = false := bR (by omega);clear GU GX q1 q2 an
    go_wp2_with fail
    refine (u1.out _).mono ?_;rintro e iq ⟨IY, IZ, rfl, aE, gW⟩;have Rg : ah iq (w.heap.size) (.int .u64 h1) (.int .u64 l1) := (by (repeat first | with_reducible assumption | with_reducible refine ah.call ?_ gW)); obtain ⟨⟨afT, aga⟩, agD, agR⟩ := id Rg; have Rh : ah iq (w.heap.size + 1) (.int .u64 h2) (.int .u64 l2) := (by (repeat first | with_reducible assumption | with_reducible refine ah.call ?_ gW)); obtain ⟨⟨afU, agb⟩, agE, agS⟩ := id Rh; have Ri : ah iq (w.heap.size + 1 + 1) (.int .u64 0) (.int .u64 0) := (by (repeat first | with_reducible assumption | with_reducible refine ah.call ?_ gW)); obtain ⟨⟨afV, agc⟩, agF, agT⟩ := id Ri; have Rj : ah iq (w.heap.size + 1 + 1 + 1) (.int .u64 je) (.int .u64 jf) := (by (repeat first | with_reducible assumption | with_reducible refine ah.call ?_ gW)); obtain ⟨⟨afW, agd⟩, agG, agU⟩ := id Rj; have YN := Below.size gW; (try simp at YN); have aie : ¬ iq.heap.size = w.heap.size := (by omega); have aif : ¬ iq.heap.size = w.heap.size + 1 := (by omega); have aih : ¬ iq.heap.size = w.heap.size + 1 + 1 := (by omega); have aii : ¬ iq.heap.size = w.heap.size + 1 + 1 + 1 := (by omega); have ago : ¬ w.heap.size = iq.heap.size := (by omega); have agp : ¬ w.heap.size + 1 = iq.heap.size := (by omega); have agq : ¬ w.heap.size + 1 + 1 = iq.heap.size := (by omega); have agr : ¬ w.heap.size + 1 + 1 + 1 = iq.heap.size := (by omega); have ahP : w.heap.size < iq.heap.size := (by omega); have ahQ : w.heap.size + 1 < iq.heap.size := (by omega); have ahR : w.heap.size + 1 + 1 < iq.heap.size := (by omega); have ahS : w.heap.size + 1 + 1 + 1 < iq.heap.size := (by omega);clear AN Kz KX Ls LH AO KA KY Lt LI AP KB KZ Lu LJ Jg T9 UT VU Wn Ot Lk NU Ou Ll NV aaZ Vq aai aa0 Vr aaj
    go_wp2_with fail
    go_region
    all_goals
      go_wp2_with fail
      refine yd ?_; intro kd h5; have q5 : ah kd (w.heap.size + 1 + 1) (.int .u64 0) (.int .u64 (g + 1)) := (by rw [h5]; (repeat first | with_reducible refine ah.drew ?_ | with_reducible refine ah.put ?_ | focus ((with_reducible refine ah.set ?_ _ ?_); rotate_left; omega) | focus ((with_reducible apply fg.of); with_reducible assumption) | with_reducible refine fg.set ?_ _ _)); obtain ⟨⟨BE, BQ⟩, B5, Ch⟩ := id q5; have q6 : ah kd (w.heap.size + 1 + 1 + 1) (.int .u64 IY) (.int .u64 IZ) := (by rw [h5]; (repeat first | with_reducible refine ah.drew ?_ | with_reducible refine ah.put ?_ | focus ((with_reducible apply fg.of); with_reducible assumption) | with_reducible refine fg.set ?_ _ _)); obtain ⟨⟨BF, BR⟩, B6, Ci⟩ := id q6; have n9 : Below w.heap.size w kd := (by rw [h5]; (repeat first | with_reducible exact Below.refl _ _ | with_reducible refine cT ?_ _ | focus ((with_reducible refine eG ?_ _ _ _ ?_); rotate_left; omega) | with_reducible refine Below.drew ?_ | with_reducible refine b0 ?_ gW | with_reducible refine b0 ?_ eU | with_reducible refine b0 ?_ cV | with_reducible refine b0 ?_ bW | with_reducible refine b0 ?_ bC)); clear h5;exact bodyPost_ret (v := .tuple #[.agg #[.int .u64 0, .int .u64 (g + 1)], .agg #[.int .u64 IY, .int .u64 IZ]]) (by simp only [results, Tryz.results298]; go_simp) rfl ⟨_, _, _, _, rfl, WL.conv xM.out, aE.conv ES.out, n9⟩
theorem U0 (h1 l1 n h2 l2 m : Int) (w : World) (H1 : cJ h1 l1 n) (b8 : cJ h2 l2 m) (aF : n ≤ 170141183460469231731687303715884105728) (m0 : 0 < m) :
    Calls aj 298 #[.agg #[.int .u64 h1, .int .u64 l1], .agg #[.int .u64 h2, .int .u64 l2]] w (E5 (n / m) (n % m) w) := by
  by_cases k : h2 = 0
  · subst k
    obtain ⟨a, b, e⟩ := id b8;rw [Int.zero_mul, Int.zero_add] at e;subst e;exact U2 h1 l1 n m w H1 b8 m0
  · exact U1 h1 l1 n h2 l2 m w H1 b8 aF k
end Go.Proofs.YtpochbhajmbfdaaGreat
namespace Go.Proofs.YtpochbhajmbfdaaGreat
open Go.RowKit
def RA (w : World) (Q R : Int) (a b c d : Value) (vz IH : Value) (fm : World) : Prop :=
 ∃ (g7 g8 : Nat) (z1 z6 je jf : Int), vz = .pointer (some ⟨g7, 0, none⟩) ∧ IH = .pointer (some ⟨g8, 0, none⟩) ∧ w.heap.size + 4 ≤ g7 ∧ w.heap.size + 4 ≤ g8 ∧ cJ z1 z6 Q ∧ cJ je jf R ∧
  ah fm g7 (.int .u64 z1) (.int .u64 z6) ∧ ah fm g8 (.int .u64 je) (.int .u64 jf) ∧ ah fm w.heap.size a b ∧ ah fm (w.heap.size + 1) c d ∧ ah fm (w.heap.size + 1 + 1) (.int .i64 0) (.int .u64 0) ∧ ah fm (w.heap.size + 1 + 1 + 1) (.int .i64 0) (.int .u64 0) ∧ Below w.heap.size w fm
theorem ZH {W : World} {b bK : Nat} {u v kx aZ : Value} (h : ah W b u v) (k : ah W bK kx aZ) : (W.cell? ⟨b, 0, none⟩ = some u ∧ W.cell? ⟨b, 1, none⟩ = some v) ∧ (W.cell? ⟨bK, 0, none⟩ = some kx ∧ W.cell? ⟨bK, 1, none⟩ = some aZ) := ⟨h.1, k.1⟩
theorem C8 {W : World} {b bK Fs : Nat} {u v kx aZ QO QQ : Value} (h : ah W b u v) (k : ah W bK kx aZ) (l : ah W Fs QO QQ) : (W.cell? ⟨b, 0, none⟩ = some u ∧ W.cell? ⟨b, 1, none⟩ = some v) ∧ (W.cell? ⟨bK, 0, none⟩ = some kx ∧ W.cell? ⟨bK, 1, none⟩ = some aZ) ∧ (W.cell? ⟨Fs, 0, none⟩ = some QO ∧ W.cell? ⟨Fs, 1, none⟩ = some QQ) := ⟨h.1, k.1, l.1⟩
def Rz (w : World) (x y : Int) (fm : World) : Prop := ∃ c1 c2 aI aN : Int, bt c1 c2 x ∧ bt aI aN y ∧ ah fm (w.heap.size + 1 + 1) (.int .i64 c1) (.int .u64 c2) ∧ ah fm (w.heap.size + 1 + 1 + 1) (.int .i64 aI) (.int .u64 aN) ∧ Below w.heap.size w fm
theorem afw {P : Program} {c : Code} {Q : Exit → Act → World → Prop} {a : Act} {W : World} (h : ∀ W', W' = W → c.wp P Q a W') : c.wp P Q a W := h W rfl
theorem Z3 {n m : Int} (hm : 0 < m) (h : -170141183460469231731687303715884105728 ≤ n) : -170141183460469231731687303715884105728 * m ≤ n := by
 have := pH (show (1 : Int) ≤ m by omega) (show (0 : Int) ≤ 170141183460469231731687303715884105728 by omega);omega
theorem U6 {n m N M : Int} (hm : 0 < m) (kj : ((n.natAbs : Nat) : Int) = N) (iW : ((m.natAbs : Nat) : Int) = M) (k : 0 ≤ n) : N / M = n / m ∧ N % M = n % m := by
 obtain rfl : M = m := by omega
 obtain rfl : N = n := by omega
 exact ⟨rfl, rfl⟩
theorem U4 {n m N M : Int} (hm : 0 < m) (kj : ((n.natAbs : Nat) : Int) = N) (iW : ((m.natAbs : Nat) : Int) = M) (k : n < 0) (z : N % M = 0) : -(N / M) = n / m ∧ 0 = n % m := by
 obtain rfl : M = m := by omega
 obtain rfl : n = -N := by omega
 have h1 := ss N M;rw [z, Int.add_zero] at h1;have h2 : -N = M * (-(N / M)) := by rw [Int.mul_neg, h1]
 rw [h2]
 constructor
 ·rw [Int.mul_ediv_cancel_left _ (by omega)]
 ·rw [Int.mul_emod_right]
theorem U5 {n m N M : Int} (hm : 0 < m) (kj : ((n.natAbs : Nat) : Int) = N) (iW : ((m.natAbs : Nat) : Int) = M) (k : n < 0) (z : N % M ≠ 0) : -(N / M) - 1 = n / m ∧ -(N % M) + m = n % m := by
 obtain rfl : M = m := by omega
 obtain rfl : n = -N := by omega
 have h1 := ss N M;have hV := oN N (show M ≠ 0 by omega);have cP := nH N hm;have h2 : -N = (M - N % M) + M * (-(N / M) - 1) := by rw [Int.mul_sub, Int.mul_neg, Int.mul_one]; omega
 have q : (-N) / M = -(N / M) - 1 := by
  rw [h2, Int.add_mul_ediv_left _ _ (by omega), Int.ediv_eq_zero_of_lt (by omega) (by omega)];omega
 have r : (-N) % M = M - N % M := by
  rw [h2, Int.add_mul_emod_self_left, Int.emod_eq_of_lt (by omega) (by omega)]
 rw [q, r];omega
def Se (n m : Int) (w : World) (e : Ending) (w' : World) : Prop := ∃ a b c d : Int, e = .returned (.tuple #[.agg #[.int .i64 a, .int .u64 b], .agg #[.int .i64 c, .int .u64 d], .bool true]) ∧ bt a b (n / m) ∧ bt c d (n % m) ∧ Below w.heap.size w w'
theorem Jk (h1 l1 n h2 l2 m : Int) (w : World) (H1 : bt h1 l1 n) (b8 : bt h2 l2 m) (hm : 0 < m) :
  Calls aj 289 #[.agg #[.int .i64 h1, .int .u64 l1], .agg #[.int .i64 h2, .int .u64 l2]] w (Se n m w) := by
 have ak : 0 < fJ m 0 := by unfold fJ; split <;> (try split) <;> omega
 have hs : Hid (∀ w, Calls aj 247 #[.agg #[.int .i64 h2, .int .u64 l2]] w (gL (.int .i64 (fJ m 0)) w)) := fun w => Bh _ _ _ w b8;generalize fJ m 0 = s at *;have aF : ((n.natAbs : Nat) : Int) ≤ 170141183460469231731687303715884105728 := by have := H1; unfold bt at this; omega
 have yX : 0 < ((m.natAbs : Nat) : Int) := by omega
 go_enter Tryz.func289, Tryz.ntmps289
 go_wp2_with fail
 refine (hs.out _).mono ?_;rintro e xE ⟨rfl, l7⟩;have Jb : ah xE (w.heap.size) (.int .i64 h1) (.int .u64 l1) := (by (repeat first | focus ((with_reducible refine ah.new ?_); simp; done) | with_reducible refine ah.alloc ?_ _ | with_reducible refine ah.call ?_ l7)); obtain ⟨⟨TZ, UJ⟩, VK, Wd⟩ := id Jb; have Jc : ah xE (w.heap.size + 1) (.int .i64 h2) (.int .u64 l2) := (by (repeat first | focus ((with_reducible refine ah.new ?_); simp; done) | with_reducible refine ah.alloc ?_ _ | with_reducible refine ah.call ?_ l7)); obtain ⟨⟨T0, UK⟩, VL, We⟩ := id Jc; have Jd : ah xE (w.heap.size + 1 + 1) (.int .i64 0) (.int .u64 0) := (by (repeat first | focus ((with_reducible refine ah.new ?_); simp; done) | with_reducible refine ah.alloc ?_ _ | with_reducible refine ah.call ?_ l7)); obtain ⟨⟨T1, UL⟩, VM, Wf⟩ := id Jd; have Je : ah xE (w.heap.size + 1 + 1 + 1) (.int .i64 0) (.int .u64 0) := (by (repeat first | focus ((with_reducible refine ah.new ?_); simp; done) | with_reducible refine ah.call ?_ l7)); obtain ⟨⟨T2, UM⟩, VN, Wg⟩ := id Je;have tF := Below.size l7;simp at tF;generalize kj : ((n.natAbs : Nat) : Int) = N at *;generalize iW : ((m.natAbs : Nat) : Int) = M at *;have mU := Lib.hid kj; have nT := Lib.hid iW;have MZ : Hid (∀ w, Calls aj 279 #[.agg #[.int .i64 h1, .int .u64 l1]] w (aT N w)) := fun w => by rw [← mU.out]; exact Ao h1 l1 n w H1
 have tG : Hid (∀ w, Calls aj 279 #[.agg #[.int .i64 h2, .int .u64 l2]] w (aT M w)) := fun w => by rw [← nT.out]; exact Ao h2 l2 m w b8
 clear kj iW
 go_upto_region 3 with fail
 go_cut [7, 8] (fun vz IH fm => RA w (N / M) (N % M) (.int .i64 h1) (.int .u64 l1) (.int .i64 h2) (.int .u64 l2) vz IH fm)
 case first =>
  go_region_held3 (fun w' => (w'.cell? ⟨w.heap.size, 0, none⟩ = some (.int .i64 h1) ∧ w'.cell? ⟨w.heap.size, 1, none⟩ = some (.int .u64 l1)) ∧ (w'.cell? ⟨w.heap.size + 1, 0, none⟩ = some (.int .i64 h2) ∧ w'.cell? ⟨w.heap.size + 1, 1, none⟩ = some (.int .u64 l2)))
   ((refine ZH ?_ ?_ <;> ((repeat first | with_reducible assumption | with_reducible refine ah.alloc ?_ _ | with_reducible refine ah.drew ?_ | focus ((with_reducible refine ah.set ?_ _ ?_); rotate_left; omega) | with_reducible refine ah.call ?_ cV | with_reducible refine ah.call ?_ bW | with_reducible refine ah.call ?_ bC); done)))
   (first
    | (go_at_call 279; ((with_reducible refine (MZ.out _).mono ?_); rintro e aO ⟨An, aez, rfl, oh, bC⟩; have Ho := Below.size bC; (try simp at Ho)))
    | (go_at_call 279; ((with_reducible refine (tG.out _).mono ?_); rintro e w2 ⟨Eg, aeA, rfl, y7, bW⟩; have zk := Below.size bW; (try simp at zk)))
    | (go_at_call 298; ((with_reducible refine (U0 _ _ _ _ _ _ _ oh y7 aF yX).mono ?_); rintro e w3 ⟨z1, z6, je, jf, rfl, al, aq, cV⟩; have YI := Below.size cV; (try simp at YI); (try ((refine k5 (p := ah w3 (xE.heap.size) (.int .u64 0) (.int .u64 0)) ?_ ?_); (repeat first | focus ((with_reducible refine ah.new ?_); simp; done) | with_reducible refine ah.alloc ?_ _ | with_reducible refine ah.drew ?_ | with_reducible refine ah.call ?_ cV | with_reducible refine ah.call ?_ bW | with_reducible refine ah.call ?_ bC | with_reducible refine ah.call ?_ l7); intro rc; obtain ⟨⟨T6, UQ⟩, VR, Wk⟩ := id rc; have ZO := ah.lt rc; have aaV := ih (ah.lt rc); have aaq := ij (ah.lt rc))); (try ((refine k5 (p := ah w3 (xE.heap.size + 1) (.int .u64 0) (.int .u64 0)) ?_ ?_); (repeat first | focus ((with_reducible refine ah.new ?_); simp; done) | with_reducible refine ah.alloc ?_ _ | with_reducible refine ah.drew ?_ | with_reducible refine ah.call ?_ cV | with_reducible refine ah.call ?_ bW | with_reducible refine ah.call ?_ bC | with_reducible refine ah.call ?_ l7); intro re; obtain ⟨⟨T7, UR⟩, VS, Wl⟩ := id re; have ZP := ah.lt re; have aaW := ih (ah.lt re); have aar := ij (ah.lt re))); (try ((refine k5 (p := ah w3 (aO.heap.size) (.int .u64 0) (.int .u64 0)) ?_ ?_); (repeat first | focus ((with_reducible refine ah.new ?_); simp; done) | with_reducible refine ah.alloc ?_ _ | with_reducible refine ah.drew ?_ | with_reducible refine ah.call ?_ cV | with_reducible refine ah.call ?_ bW | with_reducible refine ah.call ?_ bC | with_reducible refine ah.call ?_ l7); intro rf; obtain ⟨⟨T8, US⟩, VT, Wm⟩ := id rf; have ZQ := ah.lt rf; have aaX := ih (ah.lt rf); have aas := ij (ah.lt rf))); (try ((refine k5 (p := ah w3 (aO.heap.size + 1) (.int .u64 0) (.int .u64 0)) ?_ ?_); (repeat first | focus ((with_reducible refine ah.new ?_); simp; done) | with_reducible refine ah.alloc ?_ _ | with_reducible refine ah.drew ?_ | with_reducible refine ah.call ?_ cV | with_reducible refine ah.call ?_ bW | with_reducible refine ah.call ?_ bC | with_reducible refine ah.call ?_ l7); intro AK; obtain ⟨⟨afQ, af7⟩, agA, agO⟩ := id AK; have ahH := ah.lt AK; have ah6 := ih (ah.lt AK); have ahX := ij (ah.lt AK))); (try ((refine k5 (p := ah w3 (w2.heap.size) (.int .u64 0) (.int .u64 0)) ?_ ?_); (repeat first | focus ((with_reducible refine ah.new ?_); simp; done) | with_reducible refine ah.alloc ?_ _ | with_reducible refine ah.drew ?_ | with_reducible refine ah.call ?_ cV | with_reducible refine ah.call ?_ bW | with_reducible refine ah.call ?_ bC | with_reducible refine ah.call ?_ l7); intro AL; obtain ⟨⟨afR, af8⟩, agB, agP⟩ := id AL; have ahI := ah.lt AL; have ah7 := ih (ah.lt AL); have ahY := ij (ah.lt AL))); (try ((refine k5 (p := ah w3 (w2.heap.size + 1) (.int .u64 0) (.int .u64 0)) ?_ ?_); (repeat first | focus ((with_reducible refine ah.new ?_); simp; done) | with_reducible refine ah.alloc ?_ _ | with_reducible refine ah.drew ?_ | with_reducible refine ah.call ?_ cV | with_reducible refine ah.call ?_ bW | with_reducible refine ah.call ?_ bC | with_reducible refine ah.call ?_ l7); intro AM; obtain ⟨⟨afS, af9⟩, agC, agQ⟩ := id AM; have ahJ := ah.lt AM; have ah8 := ih (ah.lt AM); have ahZ := ij (ah.lt AM))))))
  all_goals
   go_wp2_with fail
   go_meet
   refine ⟨_, _, z1, z6, je, jf, rfl, rfl, by omega, by omega, al, aq, ?_, ?_, ?_, ?_, ?_, ?_, ?_⟩
   ·(repeat first | focus ((with_reducible refine ah.new ?_); simp; done) | with_reducible refine ah.alloc ?_ _ | with_reducible refine ah.put ?_ | focus ((with_reducible refine ah.set ?_ _ ?_); rotate_left; omega) | focus ((with_reducible apply fg.of); with_reducible assumption))
   ·(repeat first | focus ((with_reducible refine ah.new ?_); simp; done) | with_reducible refine ah.alloc ?_ _ | with_reducible refine ah.put ?_ | focus ((with_reducible apply fg.of); with_reducible assumption) | with_reducible refine fg.set ?_ _ _)
   ·(repeat first | with_reducible assumption | with_reducible refine ah.alloc ?_ _ | with_reducible refine ah.drew ?_ | focus ((with_reducible refine ah.set ?_ _ ?_); rotate_left; omega) | with_reducible refine ah.call ?_ cV | with_reducible refine ah.call ?_ bW | with_reducible refine ah.call ?_ bC)
   ·(repeat first | with_reducible assumption | with_reducible refine ah.alloc ?_ _ | with_reducible refine ah.drew ?_ | focus ((with_reducible refine ah.set ?_ _ ?_); rotate_left; omega) | with_reducible refine ah.call ?_ cV | with_reducible refine ah.call ?_ bW | with_reducible refine ah.call ?_ bC)
   ·(repeat first | with_reducible assumption | with_reducible refine ah.alloc ?_ _ | with_reducible refine ah.drew ?_ | focus ((with_reducible refine ah.set ?_ _ ?_); rotate_left; omega) | with_reducible refine ah.call ?_ cV | with_reducible refine ah.call ?_ bW | with_reducible refine ah.call ?_ bC)
   ·(repeat first | with_reducible assumption | with_reducible refine ah.alloc ?_ _ | with_reducible refine ah.drew ?_ | focus ((with_reducible refine ah.set ?_ _ ?_); rotate_left; omega) | with_reducible refine ah.call ?_ cV | with_reducible refine ah.call ?_ bW | with_reducible refine ah.call ?_ bC)
   ·(repeat first | with_reducible exact Below.refl _ _ | with_reducible refine cT ?_ _ | focus ((with_reducible refine eG ?_ _ _ _ ?_); rotate_left; omega) | with_reducible refine Below.drew ?_ | with_reducible refine b0 ?_ cV | with_reducible refine b0 ?_ bW | with_reducible refine b0 ?_ bC | with_reducible refine b0 ?_ l7)
 case rest =>
  obtain ⟨g7, g8, z1, z6, je, jf, rfl, rfl, XJ, XK, al, aq, DT, DU, nB, nC, Iu, Iv, ab⟩ := hcut;have aa7 : ¬ g7 = w.heap.size := by omega
  have aa8 : ¬ g7 = w.heap.size + 1 := by omega
  have aa9 : ¬ g7 = w.heap.size + 1 + 1 := by omega
  have aba : ¬ g7 = w.heap.size + 1 + 1 + 1 := by omega
  have abb : ¬ g8 = w.heap.size := by omega
  have abc : ¬ g8 = w.heap.size + 1 := by omega
  have abd : ¬ g8 = w.heap.size + 1 + 1 := by omega
  have abe : ¬ g8 = w.heap.size + 1 + 1 + 1 := by omega
  have cY : 0 ≤ N / M := pL (by have := mU.out; omega) (by omega);have q1 : N / M ≤ N := Int.ediv_le_self _ (by have := mU.out; omega);have hV : 0 ≤ N % M := oN _ (by omega);have cP : N % M < M := nH _ yX;have aat : M ≤ 170141183460469231731687303715884105727 := by have := b8; have := nT.out; unfold bt at *; omega
  have hP : 0 ≤ n → N ≤ 170141183460469231731687303715884105727 := by have := H1; have := mU.out; unfold bt at *; omega
  have iI : N ≤ 170141183460469231731687303715884105728 := aF;have c1 := U6 hm mU.out nT.out; have c2 := U4 hm mU.out nT.out; have ke := U5 hm mU.out nT.out;have aP := Lib.hid c1; have cc := Lib.hid c2; have e5 := Lib.hid ke;have y1 := H1.neg;generalize N / M = Q at *;generalize N % M = R at *;clear c1 c2 ke MZ tG hs ak l7 tF mU nT;have DW := nB.1; have It := nC.1; have ado := Iu; have adp := Iv; have adi := DT.1; have adl := DU.1;obtain ⟨⟨c7, dq⟩, kz, mR⟩ := id Iu;obtain ⟨⟨lv, q3⟩, afA, afB⟩ := id Iv;obtain ⟨iP, z2⟩ := DW;obtain ⟨z3, z4⟩ := It;obtain ⟨z5, afD⟩ := adi;obtain ⟨afE, afF⟩ := adl
  by_cases k : h1 < 0
  ·have k' : n < 0 := y1.1 k;have f1 : Hid (fits (-Q) = true) := by unfold Hid fits; rw [cB]; omega
   have f2 : Hid (fits (-R) = true) := by unfold Hid fits; rw [cB]; omega
   have NC : decide (h1 < 0) = true := bB k;clear y1 hP
   go_wp2_with fail
   refine (IM _ _ _ _ al).mono ?_;rintro e aO ⟨a1, b1, rfl, mc, bC⟩;rw [if_pos f1.out] at mc;have fW : ah aO (w.heap.size) (.int .i64 h1) (.int .u64 l1) := (by (repeat first | with_reducible assumption | with_reducible refine ah.call ?_ bC)); obtain ⟨⟨lD, lE⟩, lG, lH⟩ := id fW; have jk : ah aO (w.heap.size + 1) (.int .i64 h2) (.int .u64 l2) := (by (repeat first | with_reducible assumption | with_reducible refine ah.call ?_ bC)); obtain ⟨⟨o6, pb⟩, pf, pi⟩ := id jk; have oT : ah aO (w.heap.size + 1 + 1) (.int .i64 0) (.int .u64 0) := (by (repeat first | with_reducible assumption | with_reducible refine ah.call ?_ bC)); obtain ⟨⟨wh, wq⟩, wz, wE⟩ := id oT; have q7 : ah aO (w.heap.size + 1 + 1 + 1) (.int .i64 0) (.int .u64 0) := (by (repeat first | with_reducible assumption | with_reducible refine ah.call ?_ bC)); obtain ⟨⟨yg, yo⟩, yz, yD⟩ := id q7; have AH : ah aO (g8) (.int .u64 je) (.int .u64 jf) := (by (repeat first | with_reducible assumption | with_reducible refine ah.call ?_ bC)); obtain ⟨⟨Ky, KW⟩, Lr, LG⟩ := id AH
   go_wp2_with fail
   refine (IM _ _ _ _ aq).mono ?_;rintro e w2 ⟨a2, b2, rfl, ko, bW⟩;rw [if_pos f2.out] at ko;have iQ : ah w2 (w.heap.size) (.int .i64 h1) (.int .u64 l1) := (by (repeat first | with_reducible assumption | focus ((with_reducible refine ah.set ?_ _ ?_); rotate_left; omega) | with_reducible refine ah.call ?_ bW)); obtain ⟨⟨o7, pc⟩, pg, pj⟩ := id iQ; have lx : ah w2 (w.heap.size + 1) (.int .i64 h2) (.int .u64 l2) := (by (repeat first | with_reducible assumption | focus ((with_reducible refine ah.set ?_ _ ?_); rotate_left; omega) | with_reducible refine ah.call ?_ bW)); obtain ⟨⟨sZ, s8⟩, tf, tk⟩ := id lx; have ly : ah w2 (w.heap.size + 1 + 1) (.int .i64 a1) (.int .u64 b1) := (by (repeat first | with_reducible refine ah.put ?_ | focus ((with_reducible apply fg.of); with_reducible assumption) | with_reducible refine ah.call ?_ bW)); obtain ⟨⟨s0, s9⟩, tg, tl⟩ := id ly; have q8 : ah w2 (w.heap.size + 1 + 1 + 1) (.int .i64 0) (.int .u64 0) := (by (repeat first | with_reducible assumption | focus ((with_reducible refine ah.set ?_ _ ?_); rotate_left; omega) | with_reducible refine ah.call ?_ bW)); obtain ⟨⟨yh, yp⟩, yA, yE⟩ := id q8
   by_cases Ef : R = 0
   ·obtain ⟨aI, aN⟩ := cc.out k' Ef;have iR := Lib.hid aI; have p0 := Lib.hid aN;have Fa : 0 ≤ a2 := by have := ko.neg; omega
    have Yk : bt a2 b2 0 := ko.conv (by omega)
    clear aI aN Ef
    go_wp2_with fail
    go_region
    all_goals
     go_wp2_with fail
     refine yd ?_; intro kd h5; have q5 : ah kd (w.heap.size + 1 + 1) (.int .i64 a1) (.int .u64 b1) := (by rw [h5]; (repeat first | with_reducible refine ah.drew ?_ | with_reducible refine ah.put ?_ | focus ((with_reducible refine ah.set ?_ _ ?_); rotate_left; omega) | focus ((with_reducible apply fg.of); with_reducible assumption) | with_reducible refine fg.set ?_ _ _)); obtain ⟨⟨BE, BQ⟩, B5, Ch⟩ := id q5; have q6 : ah kd (w.heap.size + 1 + 1 + 1) (.int .i64 a2) (.int .u64 b2) := (by rw [h5]; (repeat first | with_reducible refine ah.drew ?_ | with_reducible refine ah.put ?_ | focus ((with_reducible apply fg.of); with_reducible assumption) | with_reducible refine fg.set ?_ _ _)); obtain ⟨⟨BF, BR⟩, B6, Ci⟩ := id q6; have n9 : Below w.heap.size w kd := (by rw [h5]; (repeat first | with_reducible assumption | focus ((with_reducible refine eG ?_ _ _ _ ?_); rotate_left; omega) | with_reducible refine Below.drew ?_ | with_reducible refine b0 ?_ bW | with_reducible refine b0 ?_ bC)); clear h5;exact bodyPost_ret (v := .tuple #[.agg #[.int .i64 a1, .int .u64 b1], .agg #[.int .i64 a2, .int .u64 b2], .bool true]) (by simp only [results, Tryz.results289]; go_simp) rfl ⟨_, _, _, _, rfl, mc.conv iR.out, Yk.conv p0.out, n9⟩
   ·obtain ⟨aI, aN⟩ := e5.out k' Ef;have iR := Lib.hid aI; have p0 := Lib.hid aN;have Fa : a2 < 0 := by have := ko.neg; omega
    have kc : Hid (fits (-Q - 1) = true) := by
     have au := H1.fits;unfold Hid fits at *;rw [cB] at *;have := Int.le_ediv_of_mul_le hm (show -170141183460469231731687303715884105728 * m ≤ n from Z3 hm au.1);omega
    have lW : Hid (fits (-R + m) = true) := by
     have au := b8.fits;unfold Hid fits at *;rw [cB] at *;omega
    clear aI aN Ef;have X3 : Hid (∀ w, Calls aj 224 #[.int .i64 1] w (oY 1 w)) := fun w => rj 1 w (by omega) (by omega)
    have tx : Hid (∀ o1 o2 w, bt o1 o2 1 → Calls aj 245 #[.agg #[.int .i64 a1, .int .u64 b1], .agg #[.int .i64 o1, .int .u64 o2]] w (oY (-Q - 1) w)) := fun o1 o2 w ax => by
     have := zJ a1 b1 o1 o2 _ _ w mc ax;rw [I8 kc.out] at this;exact this
    have og : Hid (∀ w, Calls aj 299 #[.agg #[.int .i64 a2, .int .u64 b2], .agg #[.int .i64 h2, .int .u64 l2]] w (oY (-R + m) w)) := fun w => by
     have := Pw a2 b2 h2 l2 _ _ w ko b8;rw [I8 lW.out] at this;exact this
    go_upto_region 7 with fail
    go_cut [] (fun fm => Rz w (-Q - 1) (-R + m) fm)
    case first =>
     refine afw ?_;intro W eT;have Ma : Below w.heap.size w W := by rw [eT]; (repeat first | with_reducible assumption | focus ((with_reducible refine eG ?_ _ _ _ ?_); rotate_left; omega) | with_reducible refine b0 ?_ bW | with_reducible refine b0 ?_ bC)
     have E9 : ah W (w.heap.size + 1 + 1) (.int .i64 a1) (.int .u64 b1) := by rw [eT]; (repeat first | with_reducible assumption | focus ((with_reducible refine ah.set ?_ _ ?_); rotate_left; omega))
     have ho : ah W (w.heap.size + 1 + 1 + 1) (.int .i64 a2) (.int .u64 b2) := by rw [eT]; (repeat first | with_reducible refine ah.put ?_ | focus ((with_reducible apply fg.of); with_reducible assumption))
     have Bi : ah W (w.heap.size + 1) (.int .i64 h2) (.int .u64 l2) := by rw [eT]; (repeat first | with_reducible assumption | focus ((with_reducible refine ah.set ?_ _ ?_); rotate_left; omega))
     clear Jb TZ UJ VK Wd Jc T0 UK VL We Jd T1 UL VM Wf Je T2 UM VN Wg fW lD lE lG lH jk o6 pb pf pi oT wh wq wz wE q7 yg yo yz yD AH Ky KW Lr LG iQ o7 pc pg pj lx sZ s8 tf tk ly s0 s9 tg tl q8 yh yp yA yE;clear eT c7 dq kz mR lv q3 afA afB iP z2 z3 z4 z5 afD afE afF aa7 aa8 aa9 aba abb abc abd abe bW bC DT DU nB nC Iu Iv ado adp cY q1 hV cP aat iI XJ XK al aq f1 f2 NC k k' Fa ab aF yX hm aP cc e5 iR p0 kc lW;obtain ⟨⟨TU, UG⟩, VF, Wa⟩ := id E9;obtain ⟨⟨TV, UH⟩, VG, Wb⟩ := id ho;obtain ⟨⟨TW, UI⟩, VH, Wc⟩ := id Bi;have JM := ah.drew E9; have JN := ah.drew ho; have JO := ah.drew Bi;have L9 := Below.drew Ma;clear VF Wa VG Wb VH Wc TU UG TV UH TW UI E9 ho Bi Ma;refine afx (S := fun w' => (w'.cell? ⟨w.heap.size + 1 + 1, 0, none⟩ = some (.int .i64 a1) ∧ w'.cell? ⟨w.heap.size + 1 + 1, 1, none⟩ = some (.int .u64 b1)) ∧ (w'.cell? ⟨w.heap.size + 1 + 1 + 1, 0, none⟩ = some (.int .i64 a2) ∧ w'.cell? ⟨w.heap.size + 1 + 1 + 1, 1, none⟩ = some (.int .u64 b2)) ∧ (w'.cell? ⟨w.heap.size + 1, 0, none⟩ = some (.int .i64 h2) ∧ w'.cell? ⟨w.heap.size + 1, 1, none⟩ = some (.int .u64 l2))) (T := fun j => j == 6 || j == 7) (by kernel_rfl) ?_;generalize W.drew = V at *;have Gt := C8 JM JN JO;refine I7 2 (i := 0) (v := .agg #[.int .i64 a1, .int .u64 b1]) rfl (by kernel_rfl) (by kernel_rfl) (by kernel_rfl) (fun _ _ _ h => h) (Or.inl ⟨by rfl, ?_⟩) Gt ?_
     ·intro w yK;obtain ⟨⟨p1, p2⟩, ⟨p3, p4⟩, qI, O6⟩ := id yK
      go_simp
     simp only [Act.put, List.setIfInBounds_toArray];refine I7 5 (i := 3) (v := .agg #[.int .i64 a2, .int .u64 b2]) rfl (by kernel_rfl) (by kernel_rfl) (by kernel_rfl) (fun _ _ _ h => h) (Or.inl ⟨by rfl, ?_⟩) Gt ?_
     ·intro w yK;obtain ⟨⟨p1, p2⟩, ⟨p3, p4⟩, qI, O6⟩ := id yK
      go_simp
     simp only [Act.put];refine I7 5 (i := 4) (v := .agg #[.int .i64 h2, .int .u64 l2]) rfl (by kernel_rfl) (by kernel_rfl) (by kernel_rfl) (fun _ _ _ h => h) (Or.inl ⟨by rfl, ?_⟩) Gt ?_
     ·intro w yK;obtain ⟨⟨p1, p2⟩, ⟨p3, p4⟩, qI, O6⟩ := id yK
      go_simp
     simp only [Act.put];refine AA (i := 1) (by kernel_rfl) rfl (fun K dT => ?_)
     go_simp
     refine (X3.out _).mono ?_;rintro e w3 ⟨o1, o2, rfl, ax, cV⟩;have JP := ah.call JM cV; have JQ := ah.call JN cV; have JR := ah.call JO cV; have Xa := b0 L9 cV;obtain ⟨⟨s1, s2⟩, ⟨bO, bT⟩, vy, pQ⟩ := C8 JP JQ JR
     go_wp2_with fail
     refine dT.out _ _ (.inr ⟨⟨s1, s2⟩, ⟨bO, bT⟩, vy, pQ⟩) ?_;clear dT K s1 s2 bO bT vy pQ;refine AA (i := 2) (by kernel_rfl) rfl (fun K dT => ?_)
     go_simp
     refine (tx.out _ _ _ ax).mono ?_;rintro e ff ⟨c1, c2, rfl, ak, eU⟩;have JS := ah.call JP eU; have JT := ah.call JQ eU; have JU := ah.call JR eU; have Mb := b0 Xa eU;obtain ⟨⟨s1, s2⟩, ⟨bO, bT⟩, vy, pQ⟩ := C8 JS JT JU
     go_wp2_with fail
     refine dT.out _ _ (.inr ⟨⟨s1, s2⟩, ⟨bO, bT⟩, vy, pQ⟩) ?_;clear dT K s1 s2 bO bT vy pQ;refine AA (i := 5) (by kernel_rfl) rfl (fun K dT => ?_)
     go_simp
     refine (og.out _).mono ?_;rintro e iq ⟨aI, aN, rfl, he, gW⟩;have e0 := ah.call JS gW; have rq := ah.call JT gW; have ux := ah.call JU gW; have Xb := b0 Mb gW;obtain ⟨⟨s1, s2⟩, ⟨bO, bT⟩, vy, pQ⟩ := C8 e0 rq ux;have f0 := e0.2; have f1 := rq.2;obtain ⟨agv, agw⟩ := f0; obtain ⟨agx, agy⟩ := f1
     go_wp2_with fail
     refine dT.out _ _ (.inr ⟨⟨s1, s2⟩, ⟨bO, bT⟩, vy, pQ⟩) ?_;clear dT K;refine AA (i := 6) (by kernel_rfl) rfl (fun K dT => ?_)
     go_simp
     refine dT.out _ _ (.inl rfl) ?_;clear dT K;refine AA (i := 7) (by kernel_rfl) rfl (fun K dT => ?_)
     go_simp
     refine dT.out _ _ (.inl rfl) ?_;clear dT K;refine afv (by kernel_rfl) ?_ _
     go_wp2_with fail
     go_meet
     exact ⟨c1, c2, aI, aN, ak, he, ah.set (ah.set (ah.put (.of e0)) _ (by omega)) _ (by omega), ah.put (fg.set (fg.set (.of rq) _ _) _ _), eG (eG (eG (eG Xb _ _ _ (by omega)) _ _ _ (by omega)) _ _ _ (by omega)) _ _ _ (by omega)⟩
    case rest =>
     obtain ⟨c1, c2, aI, aN, ak, he, Fv, be, cV⟩ := hcut;obtain ⟨⟨v1, v2⟩, v3, v4⟩ := id Fv;obtain ⟨⟨v5, v6⟩, aiI, aiJ⟩ := id be
     go_wp2_with fail
     go_region
     all_goals
      go_wp2_with fail
      refine yd ?_; intro kd h5; have q5 : ah kd (w.heap.size + 1 + 1) (.int .i64 c1) (.int .u64 c2) := (by rw [h5]; (repeat first | with_reducible refine ah.drew ?_ | with_reducible refine ah.put ?_ | focus ((with_reducible refine ah.set ?_ _ ?_); rotate_left; omega) | focus ((with_reducible apply fg.of); with_reducible assumption))); obtain ⟨⟨BE, BQ⟩, B5, Ch⟩ := id q5; have q6 : ah kd (w.heap.size + 1 + 1 + 1) (.int .i64 aI) (.int .u64 aN) := (by rw [h5]; (repeat first | with_reducible refine ah.drew ?_ | with_reducible refine ah.put ?_ | focus ((with_reducible apply fg.of); with_reducible assumption) | with_reducible refine fg.set ?_ _ _)); obtain ⟨⟨BF, BR⟩, B6, Ci⟩ := id q6; have n9 : Below w.heap.size w kd := (by rw [h5]; (repeat first | with_reducible assumption | focus ((with_reducible refine eG ?_ _ _ _ ?_); rotate_left; omega) | with_reducible refine Below.drew ?_)); clear h5;exact bodyPost_ret (v := .tuple #[.agg #[.int .i64 c1, .int .u64 c2], .agg #[.int .i64 aI, .int .u64 aN], .bool true]) (by simp only [results, Tryz.results289]; go_simp) rfl ⟨_, _, _, _, rfl, ak.conv iR.out, he.conv p0.out, n9⟩
  ·have k' : 0 ≤ h1 := by omega
   obtain ⟨aI, aN⟩ := aP.out (by have := y1.1; omega);have iR := Lib.hid aI; have p0 := Lib.hid aN;have ah3 := hP (by have := y1.1; omega);have f1 : Hid (fits Q = true) := by unfold Hid fits; rw [cB]; omega
   have f2 : Hid (fits R = true) := by unfold Hid fits; rw [cB]; omega
   have NC : decide (h1 < 0) = false := bR k;clear y1 k aI aN
   go_wp2_with fail
   refine (IP _ _ _ _ al).mono ?_;rintro e aO ⟨a1, b1, rfl, mc, bC⟩;rw [if_pos f1.out] at mc;have fW : ah aO (w.heap.size) (.int .i64 h1) (.int .u64 l1) := (by (repeat first | with_reducible assumption | with_reducible refine ah.call ?_ bC)); obtain ⟨⟨lD, lE⟩, lG, lH⟩ := id fW; have jk : ah aO (w.heap.size + 1) (.int .i64 h2) (.int .u64 l2) := (by (repeat first | with_reducible assumption | with_reducible refine ah.call ?_ bC)); obtain ⟨⟨o6, pb⟩, pf, pi⟩ := id jk; have oT : ah aO (w.heap.size + 1 + 1) (.int .i64 0) (.int .u64 0) := (by (repeat first | with_reducible assumption | with_reducible refine ah.call ?_ bC)); obtain ⟨⟨wh, wq⟩, wz, wE⟩ := id oT; have q7 : ah aO (w.heap.size + 1 + 1 + 1) (.int .i64 0) (.int .u64 0) := (by (repeat first | with_reducible assumption | with_reducible refine ah.call ?_ bC)); obtain ⟨⟨yg, yo⟩, yz, yD⟩ := id q7; have AH : ah aO (g8) (.int .u64 je) (.int .u64 jf) := (by (repeat first | with_reducible assumption | with_reducible refine ah.call ?_ bC)); obtain ⟨⟨Ky, KW⟩, Lr, LG⟩ := id AH
   go_wp2_with fail
   refine (IP _ _ _ _ aq).mono ?_;rintro e w2 ⟨a2, b2, rfl, ko, bW⟩;rw [if_pos f2.out] at ko;have iQ : ah w2 (w.heap.size) (.int .i64 h1) (.int .u64 l1) := (by (repeat first | with_reducible assumption | focus ((with_reducible refine ah.set ?_ _ ?_); rotate_left; omega) | with_reducible refine ah.call ?_ bW)); obtain ⟨⟨o7, pc⟩, pg, pj⟩ := id iQ; have lx : ah w2 (w.heap.size + 1) (.int .i64 h2) (.int .u64 l2) := (by (repeat first | with_reducible assumption | focus ((with_reducible refine ah.set ?_ _ ?_); rotate_left; omega) | with_reducible refine ah.call ?_ bW)); obtain ⟨⟨sZ, s8⟩, tf, tk⟩ := id lx; have ly : ah w2 (w.heap.size + 1 + 1) (.int .i64 a1) (.int .u64 b1) := (by (repeat first | with_reducible refine ah.put ?_ | focus ((with_reducible apply fg.of); with_reducible assumption) | with_reducible refine ah.call ?_ bW)); obtain ⟨⟨s0, s9⟩, tg, tl⟩ := id ly; have q8 : ah w2 (w.heap.size + 1 + 1 + 1) (.int .i64 0) (.int .u64 0) := (by (repeat first | with_reducible assumption | focus ((with_reducible refine ah.set ?_ _ ?_); rotate_left; omega) | with_reducible refine ah.call ?_ bW)); obtain ⟨⟨yh, yp⟩, yA, yE⟩ := id q8;have Fa : 0 ≤ a2 := by have := ko.neg; omega
   go_wp2_with fail
   go_region
   all_goals
    go_wp2_with fail
    refine yd ?_; intro kd h5; have q5 : ah kd (w.heap.size + 1 + 1) (.int .i64 a1) (.int .u64 b1) := (by rw [h5]; (repeat first | with_reducible refine ah.drew ?_ | with_reducible refine ah.put ?_ | focus ((with_reducible refine ah.set ?_ _ ?_); rotate_left; omega) | focus ((with_reducible apply fg.of); with_reducible assumption) | with_reducible refine fg.set ?_ _ _)); obtain ⟨⟨BE, BQ⟩, B5, Ch⟩ := id q5; have q6 : ah kd (w.heap.size + 1 + 1 + 1) (.int .i64 a2) (.int .u64 b2) := (by rw [h5]; (repeat first | with_reducible refine ah.drew ?_ | with_reducible refine ah.put ?_ | focus ((with_reducible apply fg.of); with_reducible assumption) | with_reducible refine fg.set ?_ _ _)); obtain ⟨⟨BF, BR⟩, B6, Ci⟩ := id q6; have n9 : Below w.heap.size w kd := (by rw [h5]; (repeat first | with_reducible assumption | focus ((with_reducible refine eG ?_ _ _ _ ?_); rotate_left; omega) | with_reducible refine Below.drew ?_ | with_reducible refine b0 ?_ bW | with_reducible refine b0 ?_ bC)); clear h5;exact bodyPost_ret (v := .tuple #[.agg #[.int .i64 a1, .int .u64 b1], .agg #[.int .i64 a2, .int .u64 b2], .bool true]) (by simp only [results, Tryz.results289]; go_simp) rfl ⟨_, _, _, _, rfl, mc.conv iR.out, ko.conv p0.out, n9⟩
def dm (w : World) (b : Nat) (u v x y : Value) : Prop := (w.cell? ⟨b, 0, none⟩ = some u ∧ w.cell? ⟨b, 1, none⟩ = some v ∧ w.cell? ⟨b, 2, none⟩ = some x ∧ w.cell? ⟨b, 3, none⟩ = some y) ∧ (w.frozen? ⟨b, 0, none⟩ = false ∧ w.frozen? ⟨b, 1, none⟩ = false ∧ w.frozen? ⟨b, 2, none⟩ = false ∧ w.frozen? ⟨b, 3, none⟩ = false)
section
variable {w W aO : World} {b g : Nat} {u v x y q : Value}
theorem dm.lt (h : dm w b u v x y) : b < w.heap.size := World.block_lt_of_cell? w _ h.1.1
theorem dm.call (h : dm W b u v x y) (ab : Below W.heap.size W aO) : dm aO b u v x y := by
 have an := h.lt;obtain ⟨⟨h1, h2, ap, aL⟩, bA, b9, hr, iZ⟩ := h;exact ⟨⟨(ab.cell (p := ⟨b, 0, none⟩) an).trans h1, (ab.cell (p := ⟨b, 1, none⟩) an).trans h2, (ab.cell (p := ⟨b, 2, none⟩) an).trans ap, (ab.cell (p := ⟨b, 3, none⟩) an).trans aL⟩, (ab.frozen (p := ⟨b, 0, none⟩) an).trans bA, (ab.frozen (p := ⟨b, 1, none⟩) an).trans b9, (ab.frozen (p := ⟨b, 2, none⟩) an).trans hr, (ab.frozen (p := ⟨b, 3, none⟩) an).trans iZ⟩
theorem dm.alloc (h : dm W b u v x y) (o : Obj) : dm (W.alloc o) b u v x y := h.call ((Below.refl _ _).alloc (dL _) o)
theorem dm.drew (h : dm W b u v x y) : dm W.drew b u v x y := h.call ((Below.refl _ _).drew)
theorem dm.new {t : TypeId} (e : b = W.heap.size) : dm (W.alloc (.cells #[u, v, x, y] t)) b u v x y := by
 subst e;unfold dm
 go_simp
theorem dm.set (h : dm W b u v x y) (o : Nat) (ne : g ≠ b) : dm (W.setCell ⟨g, o, none⟩ q) b u v x y := by
 obtain ⟨⟨h1, h2, ap, aL⟩, bA, b9, hr, iZ⟩ := h;have mj : ∀ i, (⟨g, o, none⟩ : Addr) ≠ ⟨b, i, none⟩ := fun i e => ne (congrArg Addr.block e);refine ⟨⟨?_, ?_, ?_, ?_⟩, ?_, ?_, ?_, ?_⟩
 ·rw [World.cell?_setCell_other _ _ _ _ (mj 0)]; exact h1
 ·rw [World.cell?_setCell_other _ _ _ _ (mj 1)]; exact h2
 ·rw [World.cell?_setCell_other _ _ _ _ (mj 2)]; exact ap
 ·rw [World.cell?_setCell_other _ _ _ _ (mj 3)]; exact aL
 ·go_simp
 ·go_simp
 ·go_simp
 ·go_simp
end
section
variable {W : World} {b : Nat} {u v x y kx aZ : Value}
theorem dm.ais (h : dm W b u v x y) : dm ((W.setCell ⟨b, 0, none⟩ kx).setCell ⟨b, 1, none⟩ aZ) b kx aZ x y := by
 obtain ⟨⟨h1, h2, ap, aL⟩, bA, b9, hr, iZ⟩ := h;unfold dm
 go_simp
theorem dm.ait (h : dm W b u v x y) : dm ((W.setCell ⟨b, 2, none⟩ kx).setCell ⟨b, 3, none⟩ aZ) b u v kx aZ := by
 obtain ⟨⟨h1, h2, ap, aL⟩, bA, b9, hr, iZ⟩ := h;unfold dm
 go_simp
end
theorem YU (d : Int) : decide (0 < fJ d 0) = decide (0 < d) := by
 unfold fJ;rw [oK];simp only [cB]
 repeat' split
 all_goals omega
theorem E6 (h l aC cx d : Int) (w : World) (H : bt aC cx d) : Calls aj 269 #[.agg #[.int .i64 h, .int .u64 l, .int .i64 aC, .int .u64 cx]] w (gL (.bool (decide (0 < d))) w) := by
 have mT := Lib.hid (YU d)
 go_enter Tryz.func269, Tryz.ntmps269
 go_wp2_with (go_at_call 247; ((with_reducible refine (Bh _ _ _ _ H).mono ?_); rintro e aO ⟨rfl, ab⟩))
 go_ret
 exact ⟨PZ mT.out, by (repeat first | with_reducible exact Below.refl _ _ | with_reducible refine cT ?_ _ | with_reducible refine b0 ?_ ab)⟩
end Go.Proofs.YtpochbhajmbfdaaGreat
namespace Go.Proofs.YtpochbhajmbfdaaGreat
open Go.RowKit
attribute [local go_sem ↓] Go.wp_at_zero Go.wp_at_succ
theorem RI (h l n aC cx d : Int) (w : World) (H : bt h l n) (e6 : bt aC cx d) (hd : 0 < d) : Calls aj 272 #[.agg #[.int .i64 h, .int .u64 l, .int .i64 aC, .int .u64 cx]] w (oY (n / d) w) := by
 go_enter Tryz.func272, Tryz.ntmps272
 go_wp2_with (go_at_call 289; ((with_reducible refine (Jk _ _ _ _ _ _ _ H e6 hd).mono ?_); rintro e aO ⟨nB, nC, sx, sy, rfl, al, aq, ab⟩; have fW : ah aO (w.heap.size + 1) (.int .i64 0) (.int .u64 0) := (by (repeat first | focus ((with_reducible refine ah.new ?_); simp; done) | with_reducible refine ah.call ?_ ab)); obtain ⟨⟨lD, lE⟩, lG, lH⟩ := id fW; have nu := Below.size ab; (try simp at nu); have xe : ¬ aO.heap.size = w.heap.size := (by omega); have zO : ¬ aO.heap.size = w.heap.size + 1 := (by omega); have ags : ¬ w.heap.size = aO.heap.size := (by omega); have agt : ¬ w.heap.size + 1 = aO.heap.size := (by omega); have ahT : w.heap.size < aO.heap.size := (by omega); have ahU : w.heap.size + 1 < aO.heap.size := (by omega)))
 refine bodyPost_ret (v := .agg #[.int .i64 nB, .int .u64 nC]) (by simp only [results, Tryz.results272]; go_simp) rfl ⟨_, _, rfl, al, ?_⟩;(repeat first | with_reducible exact Below.refl _ _ | with_reducible refine cT ?_ _ | focus ((with_reducible refine eG ?_ _ _ _ ?_); rotate_left; omega) | with_reducible refine b0 ?_ ab)
theorem ah.both {w : World} {b : Nat} {u v : Value} (h : ah w b u v) : w.cell? ⟨b, 0, none⟩ = some u ∧ w.cell? ⟨b, 1, none⟩ = some v := h.1
def ny (n d : Int) : Int := if n % d < d - n % d then n / d else n / d + 1
theorem aa2 {n d : Int} (aF : fits n = true) (hd : 0 < d) (Xq : fits d = true) : fits (d - n % d) = true ∧ (d - n % d ≤ n % d → fits (n / d + 1) = true) := by
 unfold fits at *;rw [cB] at aF Xq;have aG := oN n (show d ≠ 0 by omega);have h1 := nH n hd;have h2 := ss n d;rw [cB, cB];refine ⟨by omega, fun hle => ?_⟩;have Cv : 2 ≤ d := by omega
 have q1 : n / d * 2 ≤ 170141183460469231731687303715884105727 ∧ -170141183460469231731687303715884105728 ≤ n / d := by
  refine ⟨?_, ?_⟩
  ·rcases pK (n / d) 0 with q | q
   ·omega
   ·have : n / d * 2 ≤ n / d * d := pH Cv q;rw [jE (n / d) d] at this;omega
  ·rcases pK (n / d) 0 with q | q
   ·have : d * (n / d + 1) ≤ 1 * (n / d + 1) := Int.mul_le_mul_of_nonpos_right (by omega) (by omega);rw [Int.mul_add] at this;omega
   ·omega
 omega
theorem Ow (h l n aC cx d : Int) (w : World) (H : bt h l n) (e6 : bt aC cx d) (hd : 0 < d) : Calls aj 270 #[.agg #[.int .i64 h, .int .u64 l], .agg #[.int .i64 aC, .int .u64 cx]] w (oY (ny n d) w) := by
 have au := aa2 H.fits hd e6.fits;have kc := Lib.hid au.1;have lW := Lib.hid au.2;clear au
 go_enter Tryz.func270, Tryz.ntmps270
 go_wp2_with fail
 refine (Jk _ _ _ _ _ _ _ H e6 hd).mono ?_;rintro e aO ⟨nB, nC, sx, sy, rfl, al, aq, bC⟩;have fW : ah aO (w.heap.size + 1) (.int .i64 aC) (.int .u64 cx) := (by (repeat first | focus ((with_reducible refine ah.new ?_); simp; done) | with_reducible refine ah.alloc ?_ _ | with_reducible refine ah.call ?_ bC)); obtain ⟨⟨lD, lE⟩, lG, lH⟩ := id fW; have jk : ah aO (w.heap.size + 1 + 1) (.int .i64 0) (.int .u64 0) := (by (repeat first | focus ((with_reducible refine ah.new ?_); simp; done) | with_reducible refine ah.call ?_ bC)); obtain ⟨⟨o6, pb⟩, pf, pi⟩ := id jk;have mf := Below.size bC; (try simp at mf); have tL : ¬ aO.heap.size = w.heap.size := (by omega); have vf : ¬ aO.heap.size = w.heap.size + 1 := (by omega); have zL : ¬ aO.heap.size = w.heap.size + 1 + 1 := (by omega); have tc : ¬ w.heap.size = aO.heap.size := (by omega); have uG : ¬ w.heap.size + 1 = aO.heap.size := (by omega); have yt : ¬ w.heap.size + 1 + 1 = aO.heap.size := (by omega); have tI : w.heap.size < aO.heap.size := (by omega); have vc : w.heap.size + 1 < aO.heap.size := (by omega); have zE : w.heap.size + 1 + 1 < aO.heap.size := (by omega)
 go_wp2_with fail
 refine (JH _ _ _ _ _ _ _ e6 aq).mono ?_;rintro e w2 ⟨aiC, aiD, rfl, hs, bW⟩;rw [if_pos kc.out] at hs;have iQ : ah w2 (w.heap.size + 1 + 1) (.int .i64 0) (.int .u64 0) := (by (repeat first | with_reducible assumption | with_reducible refine ah.alloc ?_ _ | with_reducible refine ah.call ?_ bW)); obtain ⟨⟨o7, pc⟩, pg, pj⟩ := id iQ; have lx : ah w2 (aO.heap.size) (.int .i64 nB) (.int .u64 nC) := (by (repeat first | focus ((with_reducible refine ah.new ?_); simp; done) | with_reducible refine ah.alloc ?_ _ | with_reducible refine ah.call ?_ bW)); obtain ⟨⟨sZ, s8⟩, tf, tk⟩ := id lx; have ly : ah w2 (aO.heap.size + 1) (.int .i64 sx) (.int .u64 sy) := (by (repeat first | focus ((with_reducible refine ah.new ?_); simp; done) | with_reducible refine ah.call ?_ bW)); obtain ⟨⟨s0, s9⟩, tg, tl⟩ := id ly;have nv := Below.size bW; (try simp at nv);have zx := ah.lt iQ; have zy := ah.lt lx; have HF := ah.lt ly;have m3 := ij zx; have m4 := ij zy; have m5 := ij HF; have sd := ih zx; have se := ih zy; have H4 := ih HF
 go_wp2_with fail
 refine (Ji _ _ _ _ _ _ _ aq hs).mono ?_;rintro e w3 ⟨rfl, cV⟩;have lz : ah w3 (w.heap.size + 1 + 1) (.int .i64 0) (.int .u64 0) := (by (repeat first | with_reducible assumption | with_reducible refine ah.alloc ?_ _ | with_reducible refine ah.call ?_ cV)); obtain ⟨⟨wj, wu⟩, wA, wF⟩ := id lz; have rb : ah w3 (aO.heap.size) (.int .i64 nB) (.int .u64 nC) := (by (repeat first | with_reducible assumption | with_reducible refine ah.alloc ?_ _ | with_reducible refine ah.call ?_ cV)); obtain ⟨⟨BI, BS⟩, B9, Cj⟩ := id rb;have HG := ah.lt lz; have HH := ah.lt rb;have m6 := ij HG; have m7 := ij HH; have H5 := ih HG; have ah4 := ih HH;have aic : ¬ (aO.heap.size = w.heap.size + 1 + 1) := by omega
 have aid : ¬ (w.heap.size + 1 + 1 = aO.heap.size) := by omega
 by_cases bi : n % d < d - n % d
 ·have Hr := M1 bi;rw [Hr];have hv : Hid (ny n d = n / d) := by unfold Hid ny; rw [if_pos bi]
  clear Hr bi
  go_wp2_with fail
  rw [hv.out];refine bodyPost_ret (v := .agg #[.int .i64 nB, .int .u64 nC]) (by simp only [results, Tryz.results270]; go_simp) rfl ⟨_, _, rfl, al, ?_⟩;(repeat first | with_reducible exact Below.refl _ _ | with_reducible refine cT ?_ _ | focus ((with_reducible refine eG ?_ _ _ _ ?_); rotate_left; omega) | with_reducible refine b0 ?_ cV | with_reducible refine b0 ?_ bW | with_reducible refine b0 ?_ bC)
 ·have Hr : 0 ≤ fJ (n % d) (d - n % d) := YS.2 (by omega);have hv : Hid (ny n d = n / d + 1) := by unfold Hid ny; rw [if_neg bi]
  have EN := Lib.hid (lW.out (by omega));clear bi;generalize fJ (n % d) (d - n % d) = c at *
  go_wp2_with fail
  go_region_held3 (fun w' => w'.cell? ⟨aO.heap.size, 0, none⟩ = some (.int .i64 nB) ∧ w'.cell? ⟨aO.heap.size, 1, none⟩ = some (.int .u64 nC)) (((refine ah.both ?_); ((repeat first | with_reducible assumption | with_reducible refine ah.alloc ?_ _ | with_reducible refine ah.drew ?_ | focus ((with_reducible refine ah.set ?_ _ ?_); rotate_left; omega) | with_reducible refine ah.call ?_ gW | with_reducible refine ah.call ?_ eU); done)))
   (first
    | (go_at_call 224; ((with_reducible refine (rj 1 _ (by omega) (by omega)).mono ?_); rintro e ff ⟨abv, hQ, rfl, ax, eU⟩; have YJ := Below.size eU; (try simp at YJ)))
    | (go_at_call 290; ((with_reducible refine (Rc _ _ _ _ _ _ _ al ax).mono ?_); rintro e iq ⟨sI, sJ, rfl, hu, gW⟩; rw [if_pos EN.out] at hu; rw [EN.out]; have YK := Below.size gW; (try simp at YK); (try ((refine k5 (p := ah iq (w3.heap.size) (.int .i64 0) (.int .u64 0)) ?_ ?_); (repeat first | focus ((with_reducible refine ah.new ?_); simp; done) | with_reducible refine ah.alloc ?_ _ | with_reducible refine ah.drew ?_ | with_reducible refine ah.call ?_ gW | with_reducible refine ah.call ?_ eU | with_reducible refine ah.call ?_ cV | with_reducible refine ah.call ?_ bW | with_reducible refine ah.call ?_ bC); intro AQ; obtain ⟨⟨afX, age⟩, agH, agV⟩ := id AQ; have ahK := ah.lt AQ; have ah9 := ih (ah.lt AQ); have ah0 := ij (ah.lt AQ))); (try ((refine k5 (p := ah iq (ff.heap.size) (.int .i64 0) (.int .u64 0)) ?_ ?_); (repeat first | focus ((with_reducible refine ah.new ?_); simp; done) | with_reducible refine ah.alloc ?_ _ | with_reducible refine ah.drew ?_ | with_reducible refine ah.call ?_ gW | with_reducible refine ah.call ?_ eU | with_reducible refine ah.call ?_ cV | with_reducible refine ah.call ?_ bW | with_reducible refine ah.call ?_ bC); intro AR; obtain ⟨⟨afY, agf⟩, agI, agW⟩ := id AR; have ahL := ah.lt AR; have aia := ih (ah.lt AR); have ah1 := ij (ah.lt AR))); (try ((refine k5 (p := ah iq (w.heap.size + 1 + 1) (.int .i64 0) (.int .u64 0)) ?_ ?_); (repeat first | with_reducible assumption | with_reducible refine ah.alloc ?_ _ | with_reducible refine ah.drew ?_ | with_reducible refine ah.call ?_ gW | with_reducible refine ah.call ?_ eU); intro AS; obtain ⟨⟨afZ, agh⟩, agJ, agX⟩ := id AS; have ahM := ah.lt AS; have aib := ih (ah.lt AS); have ah2 := ij (ah.lt AS))))))
  all_goals
   go_wp2_with fail
   rw [hv.out];refine bodyPost_ret (v := .agg #[.int .i64 sI, .int .u64 sJ]) (by simp only [results, Tryz.results270]; go_simp) rfl ⟨_, _, rfl, hu, ?_⟩;(repeat first | with_reducible exact Below.refl _ _ | with_reducible refine cT ?_ _ | focus ((with_reducible refine eG ?_ _ _ _ ?_); rotate_left; omega) | with_reducible refine Below.drew ?_ | with_reducible refine b0 ?_ gW | with_reducible refine b0 ?_ eU | with_reducible refine b0 ?_ cV | with_reducible refine b0 ?_ bW | with_reducible refine b0 ?_ bC)
end Go.Proofs.YtpochbhajmbfdaaGreat
namespace Go.Proofs.YtpochbhajmbfdaaGreat
open Go.RowKit
attribute [local go_sem ↓] Go.wp_at_zero Go.wp_at_succ
def Sf (n d : Int) (w : World) (e : Ending) (w' : World) : Prop := ∃ a b c f, e = .returned (.agg #[.int .i64 a, .int .u64 b, .int .i64 c, .int .u64 f]) ∧ bt a b n ∧ bt c f d ∧ Below w.heap.size w w'
def E4 (is : Bool) (n d : Int) (w : World) (e : Ending) (w' : World) : Prop := ∃ a b c f, e = .returned (.tuple #[.agg #[.int .i64 a, .int .u64 b, .int .i64 c, .int .u64 f], .bool is]) ∧ bt a b n ∧ bt c f d ∧ Below w.heap.size w w'
theorem VE (k : Int) (w : World) (aG : -9223372036854775808 ≤ k) (h1 : k < 9223372036854775808) : Calls aj 220 #[.int .i64 k] w (Sf k 1 w) := by
 have fL := Lib.hid (fun w => rj k w aG h1);clear aG h1
 go_enter Tryz.func220, Tryz.ntmps220
 go_wp2_with fail
 refine (fL.out _).mono ?_;rintro e aO ⟨a, b, rfl, aK, bC⟩
 go_wp2_with fail
 refine (rj 1 _ (by omega) (by omega)).mono ?_;rintro e w2 ⟨c, f, rfl, ak, bW⟩;have br : dm w2 w.heap.size (.int .i64 0) (.int .u64 0) (.int .i64 0) (.int .u64 0) := by (repeat first | focus ((with_reducible refine dm.new ?_); simp; done) | with_reducible refine dm.call ?_ bW | with_reducible refine dm.call ?_ bC)
 obtain ⟨⟨jD, p1, p2, p3⟩, cY, q1, q2, b5⟩ := id br
 go_wp2_with fail
 refine bodyPost_ret (v := .agg #[.int .i64 a, .int .u64 b, .int .i64 c, .int .u64 f]) (by simp only [results, Tryz.results220]; go_simp) rfl ⟨_, _, _, _, rfl, aK, ak, ?_⟩;(repeat first | with_reducible exact Below.refl _ _ | with_reducible refine cT ?_ _ | focus ((with_reducible refine eG ?_ _ _ _ ?_); rotate_left; omega) | with_reducible refine b0 ?_ bW | with_reducible refine b0 ?_ bC)
theorem R6 (h l n aC cx d : Int) (w : World) (H : bt h l n) (e6 : bt aC cx d) (hd : 0 < d) : Calls aj 223 #[.agg #[.int .i64 h, .int .u64 l], .agg #[.int .i64 aC, .int .u64 cx]] w (E4 true n d w) := by
 have fL : Hid (∀ w, Calls aj 247 #[.agg #[.int .i64 aC, .int .u64 cx]] w (gL (.int .i64 1) w)) := fun w => by have := Bh aC cx d w e6; rw [YT hd] at this; exact this
 go_enter Tryz.func223, Tryz.ntmps223
 go_wp2_with fail
 refine (fL.out _).mono ?_;rintro e aO ⟨rfl, bC⟩;have fW : ah aO (w.heap.size) (.int .i64 h) (.int .u64 l) := (by (repeat first | focus ((with_reducible refine ah.new ?_); simp; done) | with_reducible refine ah.alloc ?_ _ | with_reducible refine ah.call ?_ bC)); obtain ⟨⟨lD, lE⟩, lG, lH⟩ := id fW; have jk : ah aO (w.heap.size + 1) (.int .i64 aC) (.int .u64 cx) := (by (repeat first | focus ((with_reducible refine ah.new ?_); simp; done) | with_reducible refine ah.alloc ?_ _ | with_reducible refine ah.call ?_ bC)); obtain ⟨⟨o6, pb⟩, pf, pi⟩ := id jk;have br : dm aO (w.heap.size + 1 + 1) (.int .i64 0) (.int .u64 0) (.int .i64 0) (.int .u64 0) := by (repeat first | focus ((with_reducible refine dm.new ?_); simp; done) | with_reducible refine dm.call ?_ bC)
 obtain ⟨⟨jD, p1, p2, p3⟩, cY, q1, q2, b5⟩ := id br
 go_wp2_with fail
 refine bodyPost_ret (v := .tuple #[.agg #[.int .i64 h, .int .u64 l, .int .i64 aC, .int .u64 cx], .bool true]) (by simp only [results, Tryz.results223]; go_simp) rfl ⟨_, _, _, _, rfl, H, e6, ?_⟩;(repeat first | with_reducible exact Below.refl _ _ | with_reducible refine cT ?_ _ | focus ((with_reducible refine eG ?_ _ _ _ ?_); rotate_left; omega) | with_reducible refine b0 ?_ bC)
def vQ (n d : Int) (w : World) (e : Ending) (w' : World) : Prop := E4 (fits (-n) && fits (-d)) (if (fits (-n) && fits (-d)) = true then -n else 0) (if (fits (-n) && fits (-d)) = true then -d else 0) w e w'
theorem adC {n d : Int} {w w' : World} {a b c f : Int} (f1 : fits (-n) = true) (f2 : fits (-d) = true) (h1 : bt a b (-n)) (h2 : bt c f (-d)) (ab : Below w.heap.size w w') : vQ n d w (.returned (.tuple #[.agg #[.int .i64 a, .int .u64 b, .int .i64 c, .int .u64 f], .bool true])) w' := by
 unfold vQ; rw [f1, f2]; exact ⟨a, b, c, f, rfl, h1, h2, ab⟩
theorem P2 {n d : Int} {w w' : World} (h : (fits (-n) && fits (-d)) = false) (ab : Below w.heap.size w w') : vQ n d w (.returned (.tuple #[.agg #[.int .i64 0, .int .u64 0, .int .i64 0, .int .u64 0], .bool false])) w' := by
 unfold vQ; rw [h]; exact ⟨0, 0, 0, 0, rfl, oq, oq, ab⟩
theorem R5 (aK dK n aC cx d : Int) (w : World) (H : bt aK dK n) (e6 : bt aC cx d) (hd : d < 0) :
  Calls aj 223 #[.agg #[.int .i64 aK, .int .u64 dK], .agg #[.int .i64 aC, .int .u64 cx]] w (vQ n d w) := by
 have fL : Hid (∀ w, Calls aj 247 #[.agg #[.int .i64 aC, .int .u64 cx]] w (gL (.int .i64 (-1)) w)) := fun w => by have := Bh aC cx d w e6; rw [M1 hd] at this; exact this
 have yX := oq
 go_enter Tryz.func223, Tryz.ntmps223
 go_wp2_with fail
 refine (fL.out _).mono ?_;rintro e aO ⟨rfl, bC⟩;have fW : ah aO (w.heap.size) (.int .i64 aK) (.int .u64 dK) := (by (repeat first | focus ((with_reducible refine ah.new ?_); simp; done) | with_reducible refine ah.alloc ?_ _ | with_reducible refine ah.call ?_ bC)); obtain ⟨⟨lD, lE⟩, lG, lH⟩ := id fW; have jk : ah aO (w.heap.size + 1) (.int .i64 aC) (.int .u64 cx) := (by (repeat first | focus ((with_reducible refine ah.new ?_); simp; done) | with_reducible refine ah.alloc ?_ _ | with_reducible refine ah.call ?_ bC)); obtain ⟨⟨o6, pb⟩, pf, pi⟩ := id jk; have mf := Below.size bC; (try simp at mf); have tL : ¬ aO.heap.size = w.heap.size := (by omega); have vf : ¬ aO.heap.size = w.heap.size + 1 := (by omega); have zL : ¬ aO.heap.size = w.heap.size + 1 + 1 := (by omega); have tc : ¬ w.heap.size = aO.heap.size := (by omega); have uG : ¬ w.heap.size + 1 = aO.heap.size := (by omega); have yt : ¬ w.heap.size + 1 + 1 = aO.heap.size := (by omega); have tI : w.heap.size < aO.heap.size := (by omega); have vc : w.heap.size + 1 < aO.heap.size := (by omega); have zE : w.heap.size + 1 + 1 < aO.heap.size := (by omega)
 go_wp2_with fail
 refine (Js _ _ _ _ H).mono ?_;rintro e w2 ⟨Om, On, rfl, aF, bW⟩;have iQ : ah w2 (w.heap.size + 1) (.int .i64 aC) (.int .u64 cx) := (by (repeat first | with_reducible assumption | with_reducible refine ah.call ?_ bW)); obtain ⟨⟨o7, pc⟩, pg, pj⟩ := id iQ; have nv := Below.size bW; (try simp at nv); have xd : ¬ w2.heap.size = w.heap.size := (by omega); have zM : ¬ w2.heap.size = w.heap.size + 1 := (by omega); have Dt : ¬ w2.heap.size = w.heap.size + 1 + 1 := (by omega); have wv : ¬ w.heap.size = w2.heap.size := (by omega); have yu : ¬ w.heap.size + 1 = w2.heap.size := (by omega); have BX : ¬ w.heap.size + 1 + 1 = w2.heap.size := (by omega); have w7 : w.heap.size < w2.heap.size := (by omega); have zF : w.heap.size + 1 < w2.heap.size := (by omega); have Dh : w.heap.size + 1 + 1 < w2.heap.size := (by omega)
 go_wp2_with fail
 refine (Js _ _ _ _ e6).mono ?_;rintro e w3 ⟨UU, UW, rfl, uN, cV⟩;have lz : ah w3 (w2.heap.size) (.int .i64 Om) (.int .u64 On) := (by (repeat first | focus ((with_reducible refine ah.new ?_); simp; done) | with_reducible refine ah.call ?_ cV)); obtain ⟨⟨wj, wu⟩, wA, wF⟩ := id lz; have r3 := Below.size cV; (try simp at r3); have zN : ¬ w3.heap.size = w.heap.size := (by omega); have Du : ¬ w3.heap.size = w.heap.size + 1 := (by omega); have H9 : ¬ w3.heap.size = w.heap.size + 1 + 1 := (by omega); have yv : ¬ w.heap.size = w3.heap.size := (by omega); have BZ : ¬ w.heap.size + 1 = w3.heap.size := (by omega); have FT : ¬ w.heap.size + 1 + 1 = w3.heap.size := (by omega); have zG : w.heap.size < w3.heap.size := (by omega); have Di : w.heap.size + 1 < w3.heap.size := (by omega); have HM : w.heap.size + 1 + 1 < w3.heap.size := (by omega);have br : dm w3 (w.heap.size + 1 + 1) (.int .i64 0) (.int .u64 0) (.int .i64 0) (.int .u64 0) := by (repeat first | focus ((with_reducible refine dm.new ?_); simp; done) | with_reducible refine dm.alloc ?_ _ | with_reducible refine dm.call ?_ cV | with_reducible refine dm.call ?_ bW | with_reducible refine dm.call ?_ bC)
 obtain ⟨⟨jD, p1, p2, p3⟩, cY, q1, q2, b5⟩ := id br;have l2 := ah.lt lz; have zx := ij (ah.lt lz); have zy := ih (ah.lt lz);have HF := br.lt; have HG := ij br.lt; have HH := ih br.lt
 by_cases f1 : fits (-n) = true
 ·by_cases f2 : fits (-d) = true
  ·rw [if_pos f1] at aF;rw [if_pos f2] at uN;have oV := Lib.hid f1;have xL := Lib.hid f2;rw [f1, f2];clear f1 f2
   go_wp2_with fail
   refine bodyPost_ret (v := .tuple #[.agg #[.int .i64 Om, .int .u64 On, .int .i64 UU, .int .u64 UW], .bool true]) (by simp only [results, Tryz.results223]; go_simp) rfl (adC oV.out xL.out aF uN ?_);(repeat first | with_reducible exact Below.refl _ _ | with_reducible refine cT ?_ _ | focus ((with_reducible refine eG ?_ _ _ _ ?_); rotate_left; omega) | with_reducible refine b0 ?_ cV | with_reducible refine b0 ?_ bW | with_reducible refine b0 ?_ bC)
  ·have FX : fits (-d) = false := by simpa using f2
   have G : Hid ((fits (-n) && fits (-d)) = false) := by unfold Hid; rw [FX, Bool.and_false]
   rw [f1, FX];clear f1 f2 FX aF uN
   go_wp2_with fail
   refine bodyPost_ret (v := .tuple #[.agg #[.int .i64 0, .int .u64 0, .int .i64 0, .int .u64 0], .bool false]) (by simp only [results, Tryz.results223]; go_simp) rfl (P2 G.out ?_);(repeat first | with_reducible exact Below.refl _ _ | with_reducible refine cT ?_ _ | focus ((with_reducible refine eG ?_ _ _ _ ?_); rotate_left; omega) | with_reducible refine b0 ?_ cV | with_reducible refine b0 ?_ bW | with_reducible refine b0 ?_ bC)
 ·have rM : fits (-n) = false := by simpa using f1
  have G : Hid ((fits (-n) && fits (-d)) = false) := by unfold Hid; rw [rM, Bool.false_and]
  rw [rM];clear f1 rM aF uN
  go_wp2_with fail
  refine bodyPost_ret (v := .tuple #[.agg #[.int .i64 0, .int .u64 0, .int .i64 0, .int .u64 0], .bool false]) (by simp only [results, Tryz.results223]; go_simp) rfl (P2 G.out ?_);(repeat first | with_reducible exact Below.refl _ _ | with_reducible refine cT ?_ _ | focus ((with_reducible refine eG ?_ _ _ _ ?_); rotate_left; omega) | with_reducible refine b0 ?_ cV | with_reducible refine b0 ?_ bW | with_reducible refine b0 ?_ bC)
end Go.Proofs.YtpochbhajmbfdaaGreat
namespace Go.Proofs.YtpochbhajmbfdaaGreat
open Go.RowKit
attribute [local go_sem ↓] Go.wp_at_zero Go.wp_at_succ
theorem dm.cs {w : World} {b : Nat} {u v x y : Value} (h : dm w b u v x y) : w.cell? ⟨b, 0, none⟩ = some u ∧ w.cell? ⟨b, 1, none⟩ = some v ∧ w.cell? ⟨b, 2, none⟩ = some x ∧ w.cell? ⟨b, 3, none⟩ = some y := h.1
def Bf (n : Int) (w : World) (e : Ending) (w' : World) : Prop := ∃ H L, e = .returned (.tuple #[.agg #[.int .i64 H, .int .u64 L], .bool true]) ∧ bt H L n ∧ Below w.heap.size w w'
def kX (n d : Int) (k : Nat) : Int := if k = 0 then ny n d else ny (n / d) (2 ^ k)
theorem ac7 {k : Nat} (h : k ≤ 100) : fits ((2 : Int) ^ k) = true := by
 have h1 := Nat.pow_le_pow_right (show 0 < 2 by decide) h;rw [show (2 : Nat) ^ 100 = 1267650600228229401496703205376 by decide] at h1;have h2 := (Py k).1;have e : ((2 : Int) ^ k) = ((2 ^ k : Nat) : Int) := by simp
 unfold fits;rw [e, cB];generalize (2 : Nat) ^ k = P at *;omega
theorem Ss (aK dK n aC cx d k : Int) (w : World) (H : bt aK dK n) (e6 : bt aC cx d) (js : ¬ (0 < d) ∨ (k < 0 ∨ 100 < k)) : Calls aj 240 #[.agg #[.int .i64 aK, .int .u64 dK, .int .i64 aC, .int .u64 cx], .int .i64 k] w (gL (.tuple #[.agg #[.int .i64 0, .int .u64 0], .bool false]) w) := by
 have fL := Lib.hid (fun w => E6 aK dK aC cx d w e6)
 have et : decide (0 < d) = false ∨ (decide (0 < d) = true ∧ k < 0) ∨ (decide (0 < d) = true ∧ 0 ≤ k ∧ 100 < k) := by
  by_cases e : 0 < d
  ·right;rcases js with q | q | q
   ·exact absurd e q
   ·exact .inl ⟨bB e, q⟩
   ·exact .inr ⟨bB e, by omega, q⟩
  ·exact .inl (bR e)
 clear js;rcases et with e | ⟨e, q⟩ | ⟨e, q, cy⟩
 ·have aP : Hid (∀ w, Calls aj 269 #[.agg #[.int .i64 aK, .int .u64 dK, .int .i64 aC, .int .u64 cx]] w (gL (.bool false) w)) := fun w => by have := fL.out w; rw [e] at this; exact this
  clear e fL
  go_enter Tryz.func240, Tryz.ntmps240
  go_wp2_with (go_at_call 269; ((with_reducible refine (aP.out _).mono ?_); rintro e aO ⟨rfl, bC⟩; have fW : ah aO (w.heap.size + 1) (.int .i64 0) (.int .u64 0) := (by (repeat first | focus ((with_reducible refine ah.new ?_); simp; done) | with_reducible refine ah.call ?_ bC)); obtain ⟨⟨lD, lE⟩, lG, lH⟩ := id fW))
  refine bodyPost_ret (v := .tuple #[.agg #[.int .i64 0, .int .u64 0], .bool false]) (by simp only [results, Tryz.results240]; go_simp) rfl ⟨rfl, ?_⟩;(repeat first | with_reducible exact Below.refl _ _ | with_reducible refine cT ?_ _ | focus ((with_reducible refine eG ?_ _ _ _ ?_); rotate_left; omega) | with_reducible refine b0 ?_ bC)
 ·have aP : Hid (∀ w, Calls aj 269 #[.agg #[.int .i64 aK, .int .u64 dK, .int .i64 aC, .int .u64 cx]] w (gL (.bool true) w)) := fun w => by have := fL.out w; rw [e] at this; exact this
  have U7 : decide (k < 0) = true := bB q;clear e fL
  go_enter Tryz.func240, Tryz.ntmps240
  go_wp2_with (go_at_call 269; ((with_reducible refine (aP.out _).mono ?_); rintro e aO ⟨rfl, bC⟩; have fW : ah aO (w.heap.size + 1) (.int .i64 0) (.int .u64 0) := (by (repeat first | focus ((with_reducible refine ah.new ?_); simp; done) | with_reducible refine ah.call ?_ bC)); obtain ⟨⟨lD, lE⟩, lG, lH⟩ := id fW))
  refine bodyPost_ret (v := .tuple #[.agg #[.int .i64 0, .int .u64 0], .bool false]) (by simp only [results, Tryz.results240]; go_simp) rfl ⟨rfl, ?_⟩;(repeat first | with_reducible exact Below.refl _ _ | with_reducible refine cT ?_ _ | focus ((with_reducible refine eG ?_ _ _ _ ?_); rotate_left; omega) | with_reducible refine b0 ?_ bC)
 ·have aP : Hid (∀ w, Calls aj 269 #[.agg #[.int .i64 aK, .int .u64 dK, .int .i64 aC, .int .u64 cx]] w (gL (.bool true) w)) := fun w => by have := fL.out w; rw [e] at this; exact this
  have U7 : decide (k < 0) = false := bR (by omega);clear e fL
  go_enter Tryz.func240, Tryz.ntmps240
  go_wp2_with (go_at_call 269; ((with_reducible refine (aP.out _).mono ?_); rintro e aO ⟨rfl, bC⟩; have fW : ah aO (w.heap.size + 1) (.int .i64 0) (.int .u64 0) := (by (repeat first | focus ((with_reducible refine ah.new ?_); simp; done) | with_reducible refine ah.call ?_ bC)); obtain ⟨⟨lD, lE⟩, lG, lH⟩ := id fW))
  refine bodyPost_ret (v := .tuple #[.agg #[.int .i64 0, .int .u64 0], .bool false]) (by simp only [results, Tryz.results240]; go_simp) rfl ⟨rfl, ?_⟩;(repeat first | with_reducible exact Below.refl _ _ | with_reducible refine cT ?_ _ | focus ((with_reducible refine eG ?_ _ _ _ ?_); rotate_left; omega) | with_reducible refine b0 ?_ bC)
theorem Su (aK dK n aC cx d : Int) (w : World) (H : bt aK dK n) (e6 : bt aC cx d) (hd : 0 < d) : Calls aj 240 #[.agg #[.int .i64 aK, .int .u64 dK, .int .i64 aC, .int .u64 cx], .int .i64 0] w (Bf (ny n d) w) := by
 have aP : Hid (∀ w, Calls aj 269 #[.agg #[.int .i64 aK, .int .u64 dK, .int .i64 aC, .int .u64 cx]] w (gL (.bool true) w)) := fun w => by have := E6 aK dK aC cx d w e6; rw [bB hd] at this; exact this
 have cc := Lib.hid (fun w => Ow aK dK n aC cx d w H e6 hd)
 go_enter Tryz.func240, Tryz.ntmps240
 go_wp2_with (first
  | (go_at_call 269; ((with_reducible refine (aP.out _).mono ?_); rintro e aO ⟨rfl, bC⟩; have my : dm aO w.heap.size (.int .i64 aK) (.int .u64 dK) (.int .i64 aC) (.int .u64 cx) := (by (repeat first | focus ((with_reducible refine dm.new ?_); simp; done) | with_reducible refine dm.alloc ?_ _ | with_reducible refine dm.call ?_ bC)); obtain ⟨⟨jD, p1, p2, p3⟩, cY, q1, q2, b5⟩ := id my))
  | (go_at_call 270; ((with_reducible refine (cc.out _).mono ?_); rintro e w2 ⟨sx, sy, rfl, aq, bW⟩; have iQ : ah w2 (w.heap.size + 1) (.int .i64 0) (.int .u64 0) := (by (repeat first | focus ((with_reducible refine ah.new ?_); simp; done) | with_reducible refine ah.call ?_ bW | with_reducible refine ah.call ?_ bC)); obtain ⟨⟨o7, pc⟩, pg, pj⟩ := id iQ)))
 refine bodyPost_ret (v := .tuple #[.agg #[.int .i64 sx, .int .u64 sy], .bool true]) (by simp only [results, Tryz.results240]; go_simp) rfl ⟨_, _, rfl, aq, ?_⟩;(repeat first | with_reducible exact Below.refl _ _ | with_reducible refine cT ?_ _ | focus ((with_reducible refine eG ?_ _ _ _ ?_); rotate_left; omega) | with_reducible refine b0 ?_ bW | with_reducible refine b0 ?_ bC)
theorem St (aK dK n aC cx d : Int) (k : Nat) (w : World) (H : bt aK dK n) (e6 : bt aC cx d) (hd : 0 < d) (jy : 0 < k) (bA : k ≤ 100) : Calls aj 240 #[.agg #[.int .i64 aK, .int .u64 dK, .int .i64 aC, .int .u64 cx], .int .i64 k] w (Bf (ny (n / d) (2 ^ k)) w) := by
 have aP : Hid (∀ w, Calls aj 269 #[.agg #[.int .i64 aK, .int .u64 dK, .int .i64 aC, .int .u64 cx]] w (gL (.bool true) w)) := fun w => by have := E6 aK dK aC cx d w e6; rw [bB hd] at this; exact this
 have cc : Hid (∀ a b w, bt a b 1 → Calls aj 271 #[.agg #[.int .i64 a, .int .u64 b], .int .i64 k] w (Bf (2 ^ k) w)) := fun a b w h => (Sn a b 1 k w h (by omega) (by omega)).mono fun e w' ⟨p, q, he, hi, ab⟩ => by
  rw [Int.one_mul, kw] at he hi;rw [ac7 bA] at he hi;exact ⟨p, q, he, hi, ab⟩
 have e5 := Lib.hid (fun w => RI aK dK n aC cx d w H e6 hd);have mS : Hid (∀ a b a' bK w, bt a b (n / d) → bt a' bK (2 ^ k) → Calls aj 270 #[.agg #[.int .i64 a, .int .u64 b], .agg #[.int .i64 a', .int .u64 bK]] w (oY (ny (n / d) (2 ^ k)) w)) := fun a b a' bK w h aC => Ow a b _ a' bK _ w h aC (Py k).1;generalize h4 : ny (n / d) (2 ^ k) = E at mS ⊢;clear h4;have ahF : ((k : Int) == 0) = false := by simp; omega
 go_enter Tryz.func240, Tryz.ntmps240
 go_wp2_with fail
 refine (aP.out _).mono ?_;rintro e aO ⟨rfl, bC⟩;have hP := Lib.hid bC.size
 go_wp2_with fail
 refine (rj 1 _ (by omega) (by omega)).mono ?_;rintro e w2 ⟨abv, hQ, rfl, ax, bW⟩
 go_wp2_with fail
 refine (cc.out _ _ _ ax).mono ?_;rintro e w3 ⟨sI, sJ, rfl, hu, cV⟩;have my : dm w3 w.heap.size (.int .i64 aK) (.int .u64 dK) (.int .i64 aC) (.int .u64 cx) := (by (repeat first | focus ((with_reducible refine dm.new ?_); simp; done) | with_reducible refine dm.alloc ?_ _ | with_reducible refine dm.call ?_ cV | with_reducible refine dm.call ?_ bW | with_reducible refine dm.call ?_ bC));have bn : ah w3 (w.heap.size + 1) (.int .i64 0) (.int .u64 0) := (by (repeat first | focus ((with_reducible refine ah.new ?_); simp; done) | with_reducible refine ah.call ?_ cV | with_reducible refine ah.call ?_ bW | with_reducible refine ah.call ?_ bC));have afN : Below w.heap.size w w3 := (by (repeat first | with_reducible exact Below.refl _ _ | with_reducible refine cT ?_ _ | with_reducible refine b0 ?_ cV | with_reducible refine b0 ?_ bW | with_reducible refine b0 ?_ bC));clear bC bW cV hP;have l1 := my.lt; have l2 := bn.lt;have aI : ¬ (w.heap.size = w3.heap.size) := by omega
 have aN : ¬ (w.heap.size + 1 = w3.heap.size) := by omega
 have cC : ¬ (w3.heap.size = w.heap.size) := by omega
 have eH : ¬ (w3.heap.size = w.heap.size + 1) := by omega
 have k6 : ¬ (w.heap.size + 1 = w.heap.size) := by omega
 obtain ⟨⟨jD, p1, p2, p3⟩, cY, q1, q2, b5⟩ := id my
 go_wp2_with fail
 have afJ : ah (w3.alloc (.cells #[.int .i64 sI, .int .u64 sJ] 159)).drew w3.heap.size (.int .i64 sI) (.int .u64 sJ) := (by (repeat first | focus ((with_reducible refine ah.new ?_); simp; done) | with_reducible refine ah.drew ?_));have mz := (my.alloc (.cells #[.int .i64 sI, .int .u64 sJ] 159)).drew;have eY := (bn.alloc (.cells #[.int .i64 sI, .int .u64 sJ] 159)).drew
 go_region_held3 (fun w' => (w'.cell? ⟨w.heap.size, 0, none⟩ = some (.int .i64 aK) ∧ w'.cell? ⟨w.heap.size, 1, none⟩ = some (.int .u64 dK) ∧ w'.cell? ⟨w.heap.size, 2, none⟩ = some (.int .i64 aC) ∧ w'.cell? ⟨w.heap.size, 3, none⟩ = some (.int .u64 cx)) ∧ (w'.cell? ⟨w3.heap.size, 0, none⟩ = some (.int .i64 sI) ∧ w'.cell? ⟨w3.heap.size, 1, none⟩ = some (.int .u64 sJ)))
  ((refine And.intro (dm.cs ?_) (ah.both ?_) <;> ((repeat first | with_reducible assumption | focus ((with_reducible refine ah.set ?_ _ ?_); rotate_left; omega) | focus ((with_reducible refine dm.set ?_ _ ?_); rotate_left; omega) | with_reducible refine ah.call ?_ gW | with_reducible refine dm.call ?_ gW | with_reducible refine ah.call ?_ eU | with_reducible refine dm.call ?_ eU); done)))
  (first
   | (go_at_call 272; ((with_reducible refine (e5.out _).mono ?_); rintro e ff ⟨agK, agL, rfl, au, eU⟩))
   | (go_at_call 270; ((with_reducible refine (mS.out _ _ _ _ _ au hu).mono ?_); rintro e iq ⟨sx, sy, rfl, aq, gW⟩; have Sc := (eY.call eU).call gW; obtain ⟨⟨t0, t1⟩, t2, t3⟩ := id Sc)))
 all_goals
  go_wp2_with fail
  refine bodyPost_ret (v := .tuple #[.agg #[.int .i64 sx, .int .u64 sy], .bool true]) (by simp only [results, Tryz.results240]; go_simp) rfl ⟨_, _, rfl, aq, ?_⟩;(repeat first | with_reducible assumption | with_reducible refine cT ?_ _ | focus ((with_reducible refine eG ?_ _ _ _ ?_); rotate_left; omega) | with_reducible refine Below.drew ?_ | with_reducible refine b0 ?_ gW | with_reducible refine b0 ?_ eU)
theorem JG (aK dK n aC cx d : Int) (k : Nat) (w : World) (H : bt aK dK n) (e6 : bt aC cx d) (hd : 0 < d) (bA : k ≤ 100) : Calls aj 240 #[.agg #[.int .i64 aK, .int .u64 dK, .int .i64 aC, .int .u64 cx], .int .i64 k] w (Bf (kX n d k) w) := by
 unfold kX;rcases k with _ | k
 ·rw [if_pos rfl]; exact Su aK dK n aC cx d w H e6 hd
 ·rw [if_neg (by omega)]; exact St aK dK n aC cx d (k + 1) w H e6 hd (by omega) bA
end Go.Proofs.YtpochbhajmbfdaaGreat
namespace Go.Proofs.YtpochbhajmbfdaaGreat
open Go.RowKit
attribute [local go_sem ↓] Go.wp_at_zero Go.wp_at_succ
end Go.Proofs.YtpochbhajmbfdaaGreat
namespace Go.Proofs.YtpochbhajmbfdaaGreat
open Go.RowKit
attribute [local go_sem ↓] Go.wp_at_zero Go.wp_at_succ
end Go.Proofs.YtpochbhajmbfdaaGreat
namespace Go.Proofs.YtpochbhajmbfdaaGreat
open Go.RowKit
attribute [local go_sem ↓] Go.wp_at_zero Go.wp_at_succ
section
variable {w W aO : World} {g iU : Nat} {a b c d s t : Int}
end
end Go.Proofs.YtpochbhajmbfdaaGreat
namespace Go.Proofs.YtpochbhajmbfdaaGreat
open Go.RowKit
def km (n : Int) : Int := n / 18446744073709551616
def kq (n : Int) : Int := n % 18446744073709551616
abbrev Np (n : Int) : bG := .agg [.c (.int .i64 (km n)), .c (.int .u64 (kq n))]
abbrev q0 (n : Int) : ai := .w (Np n)
theorem ot {n : Int} (h : fits n = true) : bt (km n) (kq n) n := by
 unfold fits at h;rw [cB] at h;unfold bt km kq;omega
theorem u6 {H L n : Int} (h : bt H L n) : H = km n ∧ L = kq n := by
 obtain ⟨a, b, rfl⟩ := h;unfold km kq;omega
theorem yU : km 0 = 0 := by decide
theorem zD : kq 0 = 0 := by decide
theorem acP {n : Int} (aG : -9223372036854775808 ≤ n) (h1 : n < 9223372036854775808) : aX aj 224 [aW n] (q0 n) :=
 mK [.int .i64 n] (.agg #[.int .i64 (km n), .int .u64 (kq n)]) rfl rfl rfl rfl rfl fun W => (rj n W aG h1).mono fun e w' ⟨H, L, he, hw, ab⟩ => by
  obtain ⟨rfl, rfl⟩ := u6 hw; exact ⟨he, ab⟩
abbrev wf (z : Int) : ai := .cZ [Np (if fits z then z else 0), .one (.c (.bool (fits z)))]
theorem aea {z : Int} {w w' : World} {e : Ending} (h : lZ z w e w') : e = .returned (.tuple #[.agg #[.int .i64 (km (if fits z then z else 0)), .int .u64 (kq (if fits z then z else 0))], .bool (fits z)]) ∧ Below w.heap.size w w' := by
 obtain ⟨H, L, he, hw, ab⟩ := h;obtain ⟨rfl, rfl⟩ := u6 hw;exact ⟨he, ab⟩
theorem acQ {n m : Int} (f : fits n = true) (g : fits m = true) : aX aj 221 [q0 n, q0 m] (wf (n - m)) :=
 mK [.agg #[.int .i64 (km n), .int .u64 (kq n)], .agg #[.int .i64 (km m), .int .u64 (kq m)]] _ rfl rfl rfl rfl rfl fun W => (JH _ _ _ _ _ _ W (ot f) (ot g)).mono fun e w' h => aea h
abbrev Ca (n d : Int) : bG := .agg [.c (.int .i64 (km n)), .c (.int .u64 (kq n)), .c (.int .i64 (km d)), .c (.int .u64 (kq d))]
abbrev fv (n d : Int) : ai := .w (Ca n d)
abbrev fx (n d : Int) : Value := .agg #[.int .i64 (km n), .int .u64 (kq n), .int .i64 (km d), .int .u64 (kq d)]
abbrev fm (n : Int) : Value := .agg #[.int .i64 (km n), .int .u64 (kq n)]
theorem adB {n d : Int} {a b c f : Int} {w w' : World} {e : Ending} (he : e = .returned (.agg #[.int .i64 a, .int .u64 b, .int .i64 c, .int .u64 f])) (h1 : bt a b n) (h2 : bt c f d) (ab : Below w.heap.size w w') : e = .returned (fx n d) ∧ Below w.heap.size w w' := by
 obtain ⟨rfl, rfl⟩ := u6 h1;obtain ⟨rfl, rfl⟩ := u6 h2;exact ⟨he, ab⟩
theorem P1 {s : Bool} {n d : Int} {w w' : World} {e : Ending} (h : E4 s n d w e w') : e = .returned (.tuple #[fx n d, .bool s]) ∧ Below w.heap.size w w' := by
 obtain ⟨a, b, c, f, he, h1, h2, ab⟩ := h;obtain ⟨rfl, rfl⟩ := u6 h1;obtain ⟨rfl, rfl⟩ := u6 h2;exact ⟨he, ab⟩
theorem ad9 {n : Int} {w w' : World} {e : Ending} (h : oY n w e w') : e = .returned (fm n) ∧ Below w.heap.size w w' := by
 obtain ⟨a, b, he, h1, ab⟩ := h;obtain ⟨rfl, rfl⟩ := u6 h1;exact ⟨he, ab⟩
theorem O9 {k : Int} (aG : -9223372036854775808 ≤ k) (h1 : k < 9223372036854775808) : aX aj 220 [aW k] (fv k 1) :=
 mK [.int .i64 k] (fx k 1) rfl rfl rfl rfl rfl fun W => (VE k W aG h1).mono fun e w' ⟨a, b, c, f, he, h1, h2, ab⟩ => adB he h1 h2 ab
theorem ab2 {n d : Int} (f : fits n = true) (g : fits d = true) (hd : 0 < d) : aX aj 223 [q0 n, q0 d] (.cZ [Ca n d, .one (.c (.bool true))]) :=
 mK [fm n, fm d] (.tuple #[fx n d, .bool true]) rfl rfl rfl rfl rfl fun W => (R6 _ _ n _ _ d W (ot f) (ot g) hd).mono fun e w' h => P1 h
theorem ab1 {n d : Int} (f : fits n = true) (g : fits d = true) (hd : d < 0) {s : Bool} {x y : Int} (hs : (fits (-n) && fits (-d)) = s) (aa : x = if s then -n else 0) (ag : y = if s then -d else 0) : aX aj 223 [q0 n, q0 d] (.cZ [Ca x y, .one (.c (.bool s))]) :=
 mK [fm n, fm d] (.tuple #[fx x y, .bool s]) rfl rfl rfl rfl rfl fun W => (R5 _ _ n _ _ d W (ot f) (ot g) hd).mono fun e w' h => by unfold vQ at h; rw [hs] at h; rw [aa, ag]; exact P1 h
theorem Ov {n d : Int} (hd : 0 < d) : ny n d = (n + n + d) / (d * 2) := by
 have h1 := ss n d;have h2 := oN n (show d ≠ 0 by omega);have ap := nH n hd;unfold ny;generalize n / d = q at *;generalize n % d = r at *;have e : n + n + d = (r + r + d) + q * (d * 2) := by rw [← h1, jE q (d * 2), lp, Int.mul_left_comm d 2 q]; omega
 rw [e, Int.add_mul_ediv_right _ _ (by omega)]
 split
 ·rw [Int.ediv_eq_zero_of_lt (by omega) (by omega)]; omega
 ·have : (r + r + d) / (d * 2) = 1 := by
   rw [show r + r + d = (r + r - d) + 1 * (d * 2) by omega, Int.add_mul_ediv_right _ _ (by omega), Int.ediv_eq_zero_of_lt (by omega) (by omega)];omega
  rw [this]; omega
theorem aeH {n d : Int} (k : Nat) (hd : 0 < d) : (n + n + d * 2 ^ k) / (d * 2 ^ (k + 1)) = kX n d k := by
 unfold kX;rcases k with _ | k
 ·rw [if_pos rfl, Ov hd];simp
 ·rw [if_neg (by omega), Ov (jG (by decide))];have hp : (0 : Int) < 2 ^ k := jG (by decide);rw [Int.pow_succ 2 (k + 1), Int.pow_succ 2 k];generalize (2 : Int) ^ k = Q at *
  have aI : (n + n + d * (Q * 2)) / (d * (Q * 2 * 2)) = (n + d * Q) / (d * (Q * 2)) := by
   rw [show n + n + d * (Q * 2) = 2 * (n + d * Q) by rw [jE Q 2, Int.mul_left_comm]; omega, show d * (Q * 2 * 2) = 2 * (d * (Q * 2)) by rw [jE (Q * 2) 2, Int.mul_left_comm], Int.mul_ediv_mul_of_pos _ _ (by decide)]
  have aN : (n / d + n / d + Q * 2) / (Q * 2 * 2) = (n / d + Q) / (Q * 2) := by
   rw [show n / d + n / d + Q * 2 = 2 * (n / d + Q) by omega, jE (Q * 2) 2, Int.mul_ediv_mul_of_pos _ _ (by decide)]
  rw [aI, aN, ← xr (by omega), jE d Q, Int.add_mul_ediv_right _ _ (by omega)]
end Go.Proofs.YtpochbhajmbfdaaGreat
