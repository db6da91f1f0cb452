/-
  My own texts, without what this claim does not need. My own text.
-/
import Derived.Test.YtbcecodakfejaaaGreatProg
import Derived.ProofKit
import Derived.OpenShut
import Derived.Deep.DeepHandedRow
import Derived.Lib.LaidTab
import Derived.Lib.SmallJoins
import Derived.Test.YtbcecodakfejaaaGreatSChainsK7
set_option maxRecDepth 100000
set_option maxHeartbeats 64000000
set_option linter.unusedVariables false
set_option linter.unusedSimpArgs false
set_option linter.unusedSectionVars false
open Go.Proofs.Tryz renaming prog → ag
namespace Go.Proofs.YtbcecodakfejaaaGreat
open Go.RowKit
abbrev BK (n d : Int) : bx := .agg [.c (.int .i64 (b5 n)), .c (.int .u64 (dB n)), .c (.int .i64 (b5 d)), .c (.int .u64 (dB d))]
abbrev fv (n d : Int) : ah := .w (BK n d)
abbrev fx (n d : Int) : Value := .agg #[.int .i64 (b5 n), .int .u64 (dB n), .int .i64 (b5 d), .int .u64 (dB d)]
abbrev uf (n : Int) : Value := .agg #[.int .i64 (b5 n), .int .u64 (dB n)]
theorem N2 (d : Int) : (d < 0 → cj d 0 = -1) ∧ (d = 0 → cj d 0 = 0) ∧ (0 < d → cj d 0 = 1) := by unfold cj; refine ⟨fun h => ?_, fun h => ?_, fun h => ?_⟩ <;> split <;> (try split) <;> omega
section
set_option maxRecDepth 100000
set_option maxHeartbeats 4000000
theorem Qj {k : Int} (az : -9223372036854775808 ≤ k) (h1 : k < 9223372036854775808) : aH ag 148 [aE k] (fv k 1) := by
 have aW := tP az h1;have bH := tP (n := 1) (by decide) (by decide);clear az h1;refine bl (f := 148) Tryz.func148 rfl rfl rfl rfl ?_;(refine cc ?_)
 ((refine bd rfl (cL rfl rfl rfl aL) ?_))
 exact ah.aS.refl _
theorem ac0 {n d : Int} (f : fits n = true) (g : fits d = true) (hd : 0 < d) : aH ag 151 [fZ n, fZ d] (.cn [BK n d, .one (.c (.bool true))]) := by
 have aW := DI g;rw [(N2 d).2.2 hd] at aW;clear f g hd;refine bl (f := 151) Tryz.func151 rfl rfl rfl rfl ?_;(refine cc ?_)
 ((refine bd rfl (cL rfl rfl rfl (a8 rfl aL)) ?_))
 exact ah.aS.refl _
theorem acZ {n d : Int} (f : fits n = true) (g : fits d = true) (hd : d < 0) {s : Bool} {x y : Int} (hs : (fits (-n) && fits (-d)) = s) (aa : x = if s then -n else 0) (ai : y = if s then -d else 0) : aH ag 151 [fZ n, fZ d] (.cn [BK x y, .one (.c (.bool s))]) := by
 have aW := DI g;rw [(N2 d).1 hd] at aW;have bH := QH f;have eF := QH g;subst hs;clear f g hd;cases h1 : fits (-n) with
 | true =>
  rw [h1] at aa ai;cases h2 : fits (-d) with
  | true =>
   rw [h2] at aa ai;rw [vJ h1] at bH;rw [vJ h2] at eF;obtain rfl : x = -n := aa;obtain rfl : y = -d := ai;clear h1 h2;refine bl (f := 151) Tryz.func151 rfl rfl rfl rfl ?_;(refine cc ?_)
   ((refine bd rfl (cL rfl rfl rfl (a8 rfl aL)) ?_))
   exact ah.aS.refl _
  | false =>
   rw [h2] at aa ai;rw [vJ h1] at bH;rw [SH h2] at eF;obtain rfl : x = 0 := aa;obtain rfl : y = 0 := ai;clear h1 h2;refine bl (f := 151) Tryz.func151 rfl rfl rfl rfl ?_;(refine cc ?_)
   ((refine bd rfl (cL rfl rfl rfl (a8 rfl aL)) ?_))
   exact ah.aS.refl _
 | false =>
  rw [h1] at aa ai;rw [SH h1] at bH;obtain rfl : x = 0 := aa;obtain rfl : y = 0 := ai;obtain ⟨z, b, e⟩ : ∃ z b, wf (-d) = .cn [my z, .one (.c (.bool b))] := ⟨_, _, rfl⟩;rw [e] at eF;clear h1 e;refine bl (f := 151) Tryz.func151 rfl rfl rfl rfl ?_;(refine cc ?_)
  ((refine bd rfl (cL rfl rfl rfl (a8 rfl aL)) ?_))
  exact ah.aS.refl _
theorem Qi {n d : Int} (g : fits d = true) : aH ag 185 [fv n d] (bk (decide (0 < d))) := by
 have aW := DI g;rw [← ZQ d];generalize cj d 0 = c at *;clear g;refine bl (f := 185) Tryz.func185 rfl rfl rfl rfl ?_;(refine cc ?_)
 ((refine bd rfl (a8 rfl aL) ?_))
 exact ah.aS.refl _
theorem acV {n d : Int} (f : fits n = true) (g : fits d = true) (hd : 0 < d) : aH ag 188 [fv n d] (fZ (n / d)) := by
 have aW := Qg f g hd;clear f g hd;refine bl (f := 188) Tryz.func188 rfl rfl rfl rfl ?_;(refine cc ?_)
 ((refine bd rfl (cL rfl rfl rfl aL) ?_))
 exact ah.aS.refl _
theorem FU {n d : Int} (f : fits n = true) (hd : 0 < d) : fits (n / d) = true := by
 have nU := jD.1 f;refine jD.2 ?_
 by_cases ax : 0 ≤ n
 ·have := nC ax (show 0 ≤ d by omega);have := Int.ediv_le_self d ax;omega
 ·have eQ : n * d ≤ n * 1 := Int.mul_le_mul_of_nonpos_left (show n ≤ 0 by omega) (show 1 ≤ d by omega);have := (og (a := n) (b := n) hd).2 (by omega);have := Int.ediv_lt_of_lt_mul (a := n) (b := 0) hd (by omega);omega
theorem Mz {n d : Int} (ax : fits n = true) (hd : 0 < d) (yQ : fits d = true) : fits (nu n d) = true := by
 unfold nu
 split
 ·exact FU ax hd
 ·exact (Pz ax hd yQ).2 (by omega)
theorem Xd {n d : Int} {k : Nat} (ax : fits n = true) (hd : 0 < d) (yQ : fits d = true) (af : k ≤ 100) : fits (lF n d k) = true := by
 unfold lF
 split
 ·exact Mz ax hd yQ
 ·exact Mz (FU ax hd) (gp (by decide)) (QR af)
theorem adH {n d : Int} {k : Nat} (f : fits n = true) (g : fits d = true) (hd : 0 < d) (af : k ≤ 100) : aH ag 161 [fv n d, aE k] (.cn [my (lF n d k), .one (.c (.bool true))]) := by
 have aW := Qi (n := n) g;rw [bZ hd] at aW;unfold lF
 by_cases az : k = 0
 ·subst az;have bH := Qx f g hd;rw [if_pos rfl];clear f g hd;refine bl (f := 161) Tryz.func161 rfl rfl rfl rfl ?_;(refine cc ?_)
  ((refine bd rfl (cL rfl rfl rfl (a8 rfl aL)) ?_))
  exact ah.aS.refl _
 ·rw [if_neg az];have hp := QR af;have bH := tP (n := 1) (by decide) (by decide);have eF := ad9 (n := 1) (k := (k : Int)) (by decide) (by omega) (by omega);rw [Int.one_mul, kH, vJ hp] at eF;have la := acV f g hd;have nI := Qx (FU f hd) hp (gp (by decide));have h1 : ¬ (k : Int) = 0 := by omega
  have h2 : ¬ (k : Int) < 0 := by omega
  have ao : ¬ (k : Int) > 100 := by omega
  clear f g hd hp;refine bl (f := 161) Tryz.func161 rfl rfl rfl rfl ?_;(refine cc ?_)
  ((refine bd rfl (cL rfl rfl rfl (a8 rfl aL)) ?_))
  exact ah.aS.refl _
theorem adI {n d k : Int} (f : fits n = true) (g : fits d = true) (h8 : ¬ (0 < d) ∨ (k < 0 ∨ 100 < k)) : aH ag 161 [fv n d, aE k] (.cn [.agg [.c (.int .i64 0), .c (.int .u64 0)], .one (.c (.bool false))]) := by
 have aW := Qi (n := n) g
 by_cases hd : 0 < d
 ·rw [bZ hd] at aW;have h1 : k < 0 ∨ (¬ k < 0 ∧ k > 100) := by omega
  clear f g h8 hd;rcases h1 with h1 | ⟨h1, h2⟩
  ·refine bl (f := 161) Tryz.func161 rfl rfl rfl rfl ?_;(repeat first | refine eA ?_ | refine fi ?_ | (with_reducible apply cg (c := true)); rfl; rfl; (exact bZ (by omega)))
   ((refine bd rfl (cL rfl rfl rfl (a8 rfl aL)) ?_))
   exact ah.aS.refl _
  ·refine bl (f := 161) Tryz.func161 rfl rfl rfl rfl ?_;(repeat first | refine eA ?_ | refine fi ?_ | (with_reducible apply cg (c := false)); rfl; rfl; (exact cp (by omega)))
   ((refine bd rfl (cL rfl rfl rfl (a8 rfl aL)) ?_))
   exact ah.aS.refl _
 ·rw [cp hd] at aW;clear f g h8 hd;refine bl (f := 161) Tryz.func161 rfl rfl rfl rfl ?_;(refine cc ?_)
  ((refine bd rfl (cL rfl rfl rfl (a8 rfl aL)) ?_))
  exact ah.aS.refl _
end
abbrev ae7 (n d : Int) : bx := .agg [.c (.bool (decide (n < 0))), .p (mj n), .c (.bool (decide (d < 0))), .p (mj d)]
abbrev vw (n d : Int) : ah := .w (ae7 n d)
theorem Py {n d : Int} (hd : 0 < d) : nu n d = (n + n + d) / (d * 2) := by
 have h1 := o6 n d;have h2 := nB n (show d ≠ 0 by omega);have ao := mK n hd;unfold nu;generalize n / d = q at *;generalize n % d = r at *;have e : n + n + d = (r + r + d) + q * (d * 2) := by rw [← h1, iq q (d * 2), ki, Int.mul_left_comm d 2 q]; omega
 rw [e, Int.add_mul_ediv_right _ _ (by omega)]
 split
 ·rw [Int.ediv_eq_zero_of_lt (by omega) (by omega)]; omega
 ·have : (r + r + d) / (d * 2) = 1 := by
   rw [show r + r + d = (r + r - d) + 1 * (d * 2) by omega, Int.add_mul_ediv_right _ _ (by omega), Int.ediv_eq_zero_of_lt (by omega) (by omega)];omega
  rw [this]; omega
theorem ago {n d : Int} (k : Nat) (hd : 0 < d) : (n + n + d * 2 ^ k) / (d * 2 ^ (k + 1)) = lF n d k := by
 unfold lF;rcases k with _ | k
 ·rw [if_pos rfl, Py hd];simp
 ·rw [if_neg (by omega), Py (gp (by decide))];have hp : (0 : Int) < 2 ^ k := gp (by decide);rw [oe 2 (k + 1), oe 2 k];generalize (2 : Int) ^ k = Q at *
  have aF : (n + n + d * (Q * 2)) / (d * (Q * 2 * 2)) = (n + d * Q) / (d * (Q * 2)) := by
   rw [show n + n + d * (Q * 2) = 2 * (n + d * Q) by rw [iq Q 2, Int.mul_left_comm]; omega, show d * (Q * 2 * 2) = 2 * (d * (Q * 2)) by rw [iq (Q * 2) 2, Int.mul_left_comm], Int.mul_ediv_mul_of_pos _ _ (by decide)]
  have aP : (n / d + n / d + Q * 2) / (Q * 2 * 2) = (n / d + Q) / (Q * 2) := by
   rw [show n / d + n / d + Q * 2 = 2 * (n / d + Q) by omega, iq (Q * 2) 2, Int.mul_ediv_mul_of_pos _ _ (by decide)]
  rw [aF, aP, ← xo (by omega), iq d Q, Int.add_mul_ediv_right _ _ (by omega)]
def fQ (k : Int) (r : Nat) : Prop := r ≤ 28 ∧ ((k < 0 ∧ r = 0) ∨ (28 < k ∧ r = 28) ∨ (r : Int) = k)
theorem Oh (k : Int) : ∃ r, fQ k r := by
 by_cases h : k < 0
 ·exact ⟨0, by omega, .inl ⟨h, rfl⟩⟩
 ·by_cases aK : 28 < k
  ·exact ⟨28, by omega, .inr (.inl ⟨aK, rfl⟩)⟩
  ·exact ⟨k.toNat, by omega, .inr (.inr (by omega))⟩
theorem Oi {r : Nat} (h : r ≤ 28) : fQ r r := ⟨h, .inr (.inr rfl)⟩
theorem vB {a b : Int} {w w' : World} (e : a = b) (h : Below w.heap.size w w') : kQ (.int .i64 b) w (.returned (.int .i64 a)) w' := ⟨by rw [e], h⟩
theorem xv {a b : Bool} {w w' : World} (e : a = b) (h : Below w.heap.size w w') : kQ (.bool b) w (.returned (.bool a)) w' := ⟨by rw [e], h⟩
theorem zI (k : Int) (r : Nat) (w : World) (h : fQ k r) : Calls ag 75 #[.int .i64 k] w (kQ (.int .i64 r) w) := by
 have mg := Lib.hid h;clear h
 go_enter Tryz.func75, Tryz.ntmps75
 go_wp2
 all_goals
  go_ret
  refine vB ?_ (Below.refl _ _);have h1 := mg.out;unfold fQ at h1;omega
theorem SL (n : Int) (h : -9223372036854775808 ≤ n ∧ n ≤ 9223372036854775807) : wrap64 n = n := by unfold wrap64; omega
theorem DK {r : Nat} (h : r ≤ 28) : (1 : Int) ≤ 2 ^ r ∧ (2 : Int) ^ r ≤ 268435456 := by
 have h1 := vv (show 0 < 2 by decide) h;have h2 := Nat.pow_pos (show 0 < 2 by decide) (n := r);have e : ((2 : Int) ^ r) = ((2 ^ r : Nat) : Int) := by simp
 rw [show (2 : Nat) ^ 28 = 268435456 by decide] at h1;rw [e];omega
def bB (v : Int) (r : Nat) : Int := (2 * v + 2 ^ r) / (2 * 2 ^ r)
theorem Xy (v : Int) : bB v 0 = v := by unfold bB; omega
theorem Xx (v : Int) (r : Nat) : bB v (r + 1) = v / 2 ^ (r + 1) + v / 2 ^ r % 2 := by
 unfold bB;have hp : (0 : Int) < 2 ^ r := gp (by decide);rw [oe];generalize (2 : Int) ^ r = P at *
 have aF : (2 * v + P * 2) / (2 * (P * 2)) = (v + P) / (P * 2) := by
  rw [show 2 * v + P * 2 = 2 * (v + P) by omega, Int.mul_ediv_mul_of_pos _ _ (by decide)]
 rw [aF, ← xo (by omega), ← xo (by omega), show v + P = v + 1 * P by omega, Int.add_mul_ediv_right _ _ (by omega)];omega
theorem Vi (x : Int) : bits BinOp.and IntKind.i64 x 1 = x % 2 := by
 unfold bits
 have h : (BitVec.ofInt 64 x &&& BitVec.ofInt 64 1).toNat = (x % 2).toNat := by
  rw [BitVec.toNat_and, BitVec.toNat_ofInt, BitVec.toNat_ofInt, show ((1 : Int) % ((2 ^ 64 : Nat) : Int)).toNat = 1 by decide, Nat.and_one_is_mod];omega
 show IntKind.i64.wrap ((BitVec.ofInt 64 x &&& BitVec.ofInt 64 1).toNat : Int) = x % 2;rw [h];have h2 : ((x % 2).toNat : Int) = x % 2 := by omega
 rw [h2];rcases (show x % 2 = 0 ∨ x % 2 = 1 by omega) with e | e <;> rw [e] <;> decide
theorem agp {v : Int} (r : Nat) (v0 : -9223372036854775808 ≤ v) (v1 : v < 9223372036854775808) : wrap64 (v / 2 ^ (r + 1) + v / 2 ^ r % 2) = bB v (r + 1) := by
 rw [Xx];refine SL _ ?_;have hp : (0 : Int) < 2 ^ r := gp (by decide);rw [oe, ← xo (by omega)]
 have h1 : -9223372036854775808 ≤ v / 2 ^ r := by
  rw [og hp];have := od (show (1 : Int) ≤ 2 ^ r by omega) (show (0 : Int) ≤ 9223372036854775808 by omega);omega
 have h2 : v / 2 ^ r ≤ 9223372036854775807 := by
  by_cases h : 0 ≤ v
  ·have := Int.ediv_le_self (2 ^ r) h;omega
  ·have := Int.ediv_neg_of_neg_of_pos (show v < 0 by omega) hp;omega
 generalize v / 2 ^ r = q at *;omega
theorem Xp (v k : Int) (w : World) (h : fQ k 0) : Calls ag 41 #[.int .i64 v, .int .i64 k] w (kQ (.int .i64 v) w) := by
 have mg := Lib.hid (fun w => zI k 0 w h);clear h
 go_enter Tryz.func41, Tryz.ntmps41
 go_wp2_with (go_at_call 75; ((with_reducible refine (mg.out _).mono ?_); rintro e w1 ⟨rfl, ab⟩))
 go_ret
 exact vB rfl (by (repeat first | with_reducible assumption))
theorem Xo (v k : Int) (r : Nat) (w : World) (h : fQ k (r + 1)) (v0 : -9223372036854775808 ≤ v) (v1 : v < 9223372036854775808) : Calls ag 41 #[.int .i64 v, .int .i64 k] w (kQ (.int .i64 (bB v (r + 1))) w) := by
 have mg := Lib.hid (fun w => zI k (r + 1) w h);have vP := Lib.hid (agp r v0 v1);have ap : r < 28 := by unfold fQ at h; omega
 clear h v0 v1
 go_enter Tryz.func41, Tryz.ntmps41
 go_wp2_with (go_at_call 75; ((with_reducible refine (mg.out _).mono ?_); rintro e w1 ⟨rfl, ab⟩))
 go_region
 go_wp2
 go_ret
 exact vB (by rw [Vi]; exact vP.out) (by (repeat first | with_reducible assumption | with_reducible refine Below.drew ?_))
theorem Xn (v k : Int) (r : Nat) (w : World) (h : fQ k r) (v0 : -9223372036854775808 ≤ v) (v1 : v < 9223372036854775808) : Calls ag 41 #[.int .i64 v, .int .i64 k] w (kQ (.int .i64 (bB v r)) w) := by
 rcases r with _ | r
 ·rw [Xy]; exact Xp v k w h
 ·exact Xo v k r w h v0 v1
theorem ahi {r : Nat} (h : r ≤ 28) : wrap64 (2 ^ r) = 2 ^ r := SL _ (by have := DK h; omega)
theorem agb (k : Int) (r : Nat) (w : World) (h : fQ k r) : Calls ag 39 #[.int .i64 k] w (kQ (.int .i64 (2 ^ r)) w) := by
 have mg := Lib.hid (fun w => zI k r w h);have ap : r ≤ 28 := h.1;clear h
 go_enter Tryz.func39, Tryz.ntmps39
 go_wp2_with (go_at_call 75; ((with_reducible refine (mg.out _).mono ?_); rintro e w1 ⟨rfl, ab⟩))
 go_ret
 exact vB (ahi ap) (by (repeat first | with_reducible assumption))
def TL (m : Int) (w : World) (e : Ending) (w' : World) : Prop := ∃ b, e = .returned (.func (Fn.func 114) #[] #[.pointer (some ⟨b, 0, none⟩)]) ∧ w'.cell? ⟨b, 0, none⟩ = some (.int .i64 m) ∧ Below w.heap.size w w'
theorem PJ (k : Int) (r : Nat) (w : World) (h : fQ k r) : Calls ag 74 #[.int .i64 k] w (TL (134217728 / 2 ^ r) w) := by
 have mg := Lib.hid (fun w => zI k r w h);have ap : r ≤ 28 := h.1;clear h
 go_enter Tryz.func74, Tryz.ntmps74
 go_wp2_with (go_at_call 75; ((with_reducible refine (mg.out _).mono ?_); rintro e w1 ⟨rfl, ab⟩))
 go_ret
 exact ⟨_, rfl, by go_simp, by (repeat first | with_reducible assumption | with_reducible refine dP ?_ _)⟩
def wi (m n : Int) : Bool := decide (-m ≤ n) && decide (n ≤ m)
theorem Dh (b : Nat) (m n : Int) (w : World) (al : w.cell? ⟨b, 0, none⟩ = some (.int .i64 m)) (m0 : 0 ≤ m) (m1 : m ≤ 134217728) : Calls ag 114 #[.int .i64 n, .pointer (some ⟨b, 0, none⟩)] w (kQ (.bool (wi m n)) w) := by
 go_enter Tryz.func114, Tryz.ntmps114
 go_wp2
 ·go_ret
  exact xv (by unfold wi; rw [bZ (show -m ≤ n by assumption)]; rfl) (Below.refl _ _)
 ·go_ret
  exact xv (by unfold wi; rw [cp (show ¬ (-m ≤ n) by omega)]; rfl) (Below.refl _ _)
def dd (r : Nat) (x y : Int) : Bool := wi (134217728 / 2 ^ r) x && wi (134217728 / 2 ^ r) y
theorem FQ (r : Nat) : (0 : Int) ≤ 134217728 / 2 ^ r ∧ (134217728 : Int) / 2 ^ r ≤ 134217728 := by
 have hp : (0 : Int) < 2 ^ r := gp (by decide);exact ⟨nC (by decide) (by omega), Int.ediv_le_self _ (by decide)⟩
theorem Jv (r : Nat) (n : Int) : wi (134217728 / 2 ^ r) n = decide (-134217728 ≤ 2 ^ r * n ∧ 2 ^ r * n ≤ 134217728) := by
 have hp : (0 : Int) < 2 ^ r := gp (by decide);unfold wi;rw [nx, c5, b4, b4, b4, iq];generalize (2 : Int) ^ r = P at *;have h1 := og (a := n) (b := 134217728) hp;have h2 := og (a := -n) (b := 134217728) hp;rw [Int.neg_mul] at h2
 constructor
 ·intro ⟨q1, q2⟩;exact ⟨by have := h2.1 (by omega); omega, h1.1 q2⟩
 ·intro ⟨q1, q2⟩;exact ⟨by have := h2.2 (by omega); omega, h1.2 q2⟩
theorem CK (r : Nat) (x y : Int) : dd r x y = true ↔ (-134217728 ≤ 2 ^ r * x ∧ 2 ^ r * x ≤ 134217728) ∧ (-134217728 ≤ 2 ^ r * y ∧ 2 ^ r * y ≤ 134217728) := by
 unfold dd;rw [Jv, Jv, c5, b4, b4]
theorem Ts (x y k : Int) (r : Nat) (w : World) (h : fQ k r) : Calls ag 38 #[.agg #[.int .i64 x, .int .i64 y], .int .i64 k] w (kQ (.bool (dd r x y)) w) := by
 have mg := Lib.hid (fun w => PJ k r w h);obtain ⟨m0, m1⟩ := FQ r;have JK := Lib.hid (show dd r x y = (wi (134217728 / 2 ^ r) x && wi (134217728 / 2 ^ r) y) from rfl);clear h;generalize (134217728 : Int) / 2 ^ r = M at *;have xR := Lib.hid m0;have xS := Lib.hid m1;clear m0 m1
 go_enter Tryz.func38, Tryz.ntmps38
 go_wp2_with (first
  | (go_at_call 74; ((with_reducible refine (mg.out _).mono ?_); rintro e w1 ⟨b, rfl, al, ab⟩; have SQ : cO w1 (w.heap.size) (.int .i64 x) (.int .i64 y) := (by (repeat first | focus ((with_reducible refine cO.new ?_); simp; done) | with_reducible refine cO.call ?_ ab)); obtain ⟨⟨ahW, ah8⟩, aik, aio⟩ := id SQ))
  | (go_at_call 114; ((with_reducible refine (Dh b M x _ al xR.out xS.out).mono ?_); rintro e w2 ⟨rfl, dk⟩; have fT := (dk.cell (p := ⟨b, 0, none⟩) (World.block_lt_of_cell? _ _ al)).trans al; clear al; have SR : cO w2 (w.heap.size) (.int .i64 x) (.int .i64 y) := (by (repeat first | with_reducible assumption | with_reducible refine cO.call ?_ dk)); obtain ⟨⟨ahX, ah9⟩, ail, aip⟩ := id SR))
  | (go_at_call 114; ((with_reducible refine (Dh b M y _ fT xR.out xS.out).mono ?_); rintro e w3 ⟨rfl, Gy⟩)))
 ·go_ret
  exact xv (by rw [JK.out]; simp_all) (by (repeat first | with_reducible exact Below.refl _ _ | with_reducible refine dP ?_ _ | with_reducible refine e1 ?_ Gy | with_reducible refine e1 ?_ dk | with_reducible refine e1 ?_ ab))
 ·go_ret
  exact xv (by rw [JK.out]; simp_all) (by (repeat first | with_reducible exact Below.refl _ _ | with_reducible refine dP ?_ _ | with_reducible refine e1 ?_ dk | with_reducible refine e1 ?_ ab))
theorem Xm (k : Int) (w : World) : Calls ag 153 #[.int .i64 k] w (kQ (.bool (decide (0 ≤ k) && decide (k ≤ 28))) w) := by
 go_enter Tryz.func153, Tryz.ntmps153
 go_wp2
 ·go_ret
  exact xv (by rw [bZ (show 0 ≤ k by assumption)]; rfl) (Below.refl _ _)
 ·go_ret
  exact xv (by rw [cp (show ¬ (0 ≤ k) by omega)]; rfl) (Below.refl _ _)
theorem EB (n m : Int) (w : World) : Calls ag 201 #[.int .i64 n, .int .i64 m] w (kQ (.int .i64 (cj n m)) w) := by
 go_enter Tryz.func201, Tryz.ntmps201
 go_wp2
 all_goals
  go_ret
  refine vB ?_ (Below.refl _ _);unfold cj
  repeat' split
  all_goals omega
def l0 (x y x' y' : Int) : Int := if x = x' then cj y y' else cj x x'
theorem Xl (x y x' y' : Int) (w : World) : Calls ag 182 #[.agg #[.int .i64 x, .int .i64 y], .agg #[.int .i64 x', .int .i64 y']] w (kQ (.int .i64 (l0 x y x' y')) w) := by
 have aW := Lib.hid (fun w => EB x x' w);have bH := Lib.hid (fun w => EB y y' w);have ov : Hid (x = x' → cj y y' = l0 x y x' y') := fun h => by unfold l0; rw [if_pos h]
 have lf : Hid (¬ (x = x') → cj x x' = l0 x y x' y') := fun h => by unfold l0; rw [if_neg h]
 go_enter Tryz.func182, Tryz.ntmps182
 go_wp2_with (first
  | (go_at_call 201; ((with_reducible refine (aW.out _).mono ?_); rintro e w1 ⟨rfl, ab⟩))
  | (go_at_call 201; ((with_reducible refine (bH.out _).mono ?_); rintro e w1 ⟨rfl, ab⟩)))
 ·go_ret
  exact vB (lf.out (by simpa using ‹(x != x') = true›)) (by (repeat first | with_reducible exact Below.refl _ _ | with_reducible refine dP ?_ _ | with_reducible refine e1 ?_ ab))
 ·go_ret
  exact vB (ov.out (by simpa using ‹(x != x') = false›)) (by (repeat first | with_reducible exact Below.refl _ _ | with_reducible refine dP ?_ _ | with_reducible refine e1 ?_ ab))
end Go.Proofs.YtbcecodakfejaaaGreat
namespace Go.Proofs.YtbcecodakfejaaaGreat
open Go.RowKit
attribute [local go_sem ↓] Go.wp_at_zero Go.wp_at_succ
end Go.Proofs.YtbcecodakfejaaaGreat
namespace Go.Proofs.YtbcecodakfejaaaGreat
open Go.RowKit
attribute [local go_sem ↓] Go.wp_at_zero Go.wp_at_succ
def J6 (s : Bool) (z : Int) (w : World) (e : Ending) (w' : World) : Prop := ∃ H L, e = .returned (.tuple #[.agg #[.int .i64 H, .int .u64 L], .bool s]) ∧ cH H L z ∧ Below w.heap.size w w'
def A3 (v : Int) (b : Bool) (w : World) (e : Ending) (w' : World) : Prop := e = .returned (.tuple #[.int .i64 v, .bool b]) ∧ Below w.heap.size w w'
def TV (w : World) (s : Bool) (z : Int) (u v : Value) (W : World) : Prop := ∃ g oD ks, u = .pointer (some ⟨g, 0, none⟩) ∧ v = .bool s ∧ cH oD ks z ∧ cO W g (.int .i64 oD) (.int .u64 ks) ∧ Below w.heap.size w W
theorem Jb (aJ qT aK cE k : Int) (r : Nat) (s : Bool) (z v : Int) (b : Bool) (w : World) (h : fQ k r)
  (JJ : ∀ w, Calls ag 161 #[.agg #[.int .i64 aJ, .int .u64 qT, .int .i64 aK, .int .u64 cE], .int .i64 r] w (J6 s z w))
  (hv : (s = false ∧ v = 0 ∧ b = false) ∨ (s = true ∧ small z = false ∧ v = 0 ∧ b = false) ∨ (s = true ∧ small z = true ∧ wi (134217728 / 2 ^ r) z = false ∧ v = 0 ∧ b = false) ∨ (s = true ∧ small z = true ∧ wi (134217728 / 2 ^ r) z = true ∧ v = z ∧ b = true)) :
  Calls ag 143 #[.agg #[.int .i64 aJ, .int .u64 qT, .int .i64 aK, .int .u64 cE], .int .i64 k] w (A3 v b w) := by
 have JI := Lib.hid (fun w => zI k r w h);have EF := Lib.hid (fun w => PJ k r w h);have vP := Lib.hid JJ;obtain ⟨m0, m1⟩ := FQ r;clear h JJ;generalize (134217728 : Int) / 2 ^ r = M at *;have xR := Lib.hid m0;have xS := Lib.hid m1;have pi := Lib.hid hv;clear m0 m1 hv
 go_enter Tryz.func143, Tryz.ntmps143
 go_upto_region 1 with fail
 have fo : ht (w.alloc (.cells #[.int .i64 aJ, .int .u64 qT, .int .i64 aK, .int .u64 cE] 148)) w.heap.size (.int .i64 aJ) (.int .u64 qT) (.int .i64 aK) (.int .u64 cE) := (by (repeat first | focus ((with_reducible refine ht.new ?_); simp; done)));have Fl : Below w.heap.size w (w.alloc (.cells #[.int .i64 aJ, .int .u64 qT, .int .i64 aK, .int .u64 cE] 148)) := (by (repeat first | with_reducible exact Below.refl _ _ | with_reducible refine dP ?_ _))
 go_cut [6, 7] (fun u v uf => TV w s z u v uf)
 case first =>
  clear pi EF
  go_region_held3 (fun w' => w'.cell? ⟨w.heap.size, 0, none⟩ = some (.int .i64 aJ) ∧ w'.cell? ⟨w.heap.size, 1, none⟩ = some (.int .u64 qT) ∧ w'.cell? ⟨w.heap.size, 2, none⟩ = some (.int .i64 aK) ∧ w'.cell? ⟨w.heap.size, 3, none⟩ = some (.int .u64 cE))
   (((refine ht.cs ?_); ((repeat first | with_reducible assumption | with_reducible refine ht.alloc ?_ _ | with_reducible refine ht.drew ?_ | focus ((with_reducible refine ht.set ?_ _ ?_); rotate_left; omega) | with_reducible refine ht.call ?_ dk | with_reducible refine ht.call ?_ dj); done)))
   (first
    | (go_at_call 75; ((with_reducible refine (JI.out _).mono ?_); rintro e w1 ⟨rfl, dj⟩; have ZI := Below.size dj; (try simp at ZI)))
    | (go_at_call 161; ((with_reducible refine (vP.out _).mono ?_); rintro e w2 ⟨ag3, ag4, rfl, hu, dk⟩; have Hr := Below.size dk; (try simp at Hr); (try ((refine LO (p := cO w2 (w.heap.size + 1) (.int .i64 0) (.int .u64 0)) ?_ ?_); (repeat first | focus ((with_reducible refine cO.new ?_); simp; done) | with_reducible refine cO.alloc ?_ _ | with_reducible refine cO.drew ?_ | with_reducible refine cO.call ?_ dk | with_reducible refine cO.call ?_ dj); intro AH; obtain ⟨⟨ahY, aia⟩, aim, aiq⟩ := id AH; have ajh := cO.lt AH; have ajn := Nat.ne_of_gt (cO.lt AH); have ajl := Nat.ne_of_lt (cO.lt AH))); (try ((refine LO (p := cO w2 (w1.heap.size) (.int .i64 0) (.int .u64 0)) ?_ ?_); (repeat first | focus ((with_reducible refine cO.new ?_); simp; done) | with_reducible refine cO.alloc ?_ _ | with_reducible refine cO.drew ?_ | with_reducible refine cO.call ?_ dk | with_reducible refine cO.call ?_ dj); intro AJ; obtain ⟨⟨ahZ, aib⟩, ain, air⟩ := id AJ; have aji := cO.lt AJ; have ajo := Nat.ne_of_gt (cO.lt AJ); have ajm := Nat.ne_of_lt (cO.lt AJ))))))
  all_goals
   go_wp2_with fail
   go_meet
   refine ⟨_, ag3, ag4, rfl, rfl, hu, ?_, ?_⟩
   ·(repeat first | focus ((with_reducible refine cO.new ?_); simp; done) | with_reducible refine cO.put ?_ | focus ((with_reducible apply ur.of); with_reducible assumption))
   ·(repeat first | with_reducible assumption | with_reducible refine dP ?_ _ | focus ((with_reducible refine hx ?_ _ _ _ ?_); rotate_left; omega) | with_reducible refine Below.drew ?_ | with_reducible refine e1 ?_ dk | with_reducible refine e1 ?_ dj)
 case rest =>
  obtain ⟨g, oD, ks, rfl, rfl, aq, qF, iQ⟩ := hcut;clear fo Fl vP JI;obtain ⟨⟨AA, cA⟩, cR, j0⟩ := id qF;rcases pi.out with ⟨rfl, rfl, rfl⟩ | ⟨rfl, q, rfl, rfl⟩ | ⟨rfl, q, cd, rfl, rfl⟩ | ⟨rfl, q, cd, rfl, rfl⟩
  ·clear pi
   go_wp2
   go_ret2
   exact ⟨rfl, by (repeat first | with_reducible assumption)⟩
  ·have xO : Hid (∀ w, Calls ag 162 #[.agg #[.int .i64 oD, .int .u64 ks]] w (A3 0 false w)) := fun w => (EZ oD ks z w aq).mono fun e w' k => by unfold vU at k; rw [q] at k; exact k
   clear pi q
   go_wp2_with (first
    | (go_at_call 162; ((with_reducible refine (xO.out _).mono ?_); rintro e ue ⟨rfl, uT⟩)))
   go_ret2
   exact ⟨rfl, by (repeat first | with_reducible assumption | with_reducible refine e1 ?_ uT)⟩
  ·have xO : Hid (∀ w, Calls ag 162 #[.agg #[.int .i64 oD, .int .u64 ks]] w (A3 z true w)) := fun w => (EZ oD ks z w aq).mono fun e w' k => by unfold vU at k; rw [q] at k; exact k
   have uo : Hid (∀ b w, w.cell? ⟨b, 0, none⟩ = some (.int .i64 M) → Calls ag 114 #[.int .i64 z, .pointer (some ⟨b, 0, none⟩)] w (kQ (.bool false) w)) := fun b w al => by have := Dh b M z w al xR.out xS.out; rw [cd] at this; exact this
   clear pi q cd
   go_wp2_with (first
    | (go_at_call 162; ((with_reducible refine (xO.out _).mono ?_); rintro e ue ⟨rfl, uT⟩))
    | (go_at_call 74; ((with_reducible refine (EF.out _).mono ?_); rintro e Et ⟨b, rfl, al, Gz⟩))
    | (go_at_call 114; ((with_reducible refine (uo.out _ _ al).mono ?_); rintro e Jr ⟨rfl, GA⟩)))
   go_ret2
   exact ⟨rfl, by (repeat first | with_reducible assumption | with_reducible refine e1 ?_ GA | with_reducible refine e1 ?_ Gz | with_reducible refine e1 ?_ uT)⟩
  ·have xO : Hid (∀ w, Calls ag 162 #[.agg #[.int .i64 oD, .int .u64 ks]] w (A3 v true w)) := fun w => (EZ oD ks v w aq).mono fun e w' k => by unfold vU at k; rw [q] at k; exact k
   have uo : Hid (∀ b w, w.cell? ⟨b, 0, none⟩ = some (.int .i64 M) → Calls ag 114 #[.int .i64 v, .pointer (some ⟨b, 0, none⟩)] w (kQ (.bool true) w)) := fun b w al => by have := Dh b M v w al xR.out xS.out; rw [cd] at this; exact this
   clear pi q cd
   go_wp2_with (first
    | (go_at_call 162; ((with_reducible refine (xO.out _).mono ?_); rintro e ue ⟨rfl, uT⟩))
    | (go_at_call 74; ((with_reducible refine (EF.out _).mono ?_); rintro e Et ⟨b, rfl, al, Gz⟩))
    | (go_at_call 114; ((with_reducible refine (uo.out _ _ al).mono ?_); rintro e Jr ⟨rfl, GA⟩)))
   go_ret2
   exact ⟨rfl, by (repeat first | with_reducible assumption | with_reducible refine e1 ?_ GA | with_reducible refine e1 ?_ Gz | with_reducible refine e1 ?_ uT)⟩
theorem ahh {r : Nat} {z : Int} (h : wi (134217728 / 2 ^ r) z = true) : small z = true := by
 obtain ⟨m0, m1⟩ := FQ r;unfold wi at h;rw [c5, b4, b4] at h;unfold small;rw [b4];omega
end Go.Proofs.YtbcecodakfejaaaGreat
namespace Go.Proofs.YtbcecodakfejaaaGreat
open Go.RowKit
section
variable {U : Nat → Prop} {ad : Nat → Nat} {W : World}
theorem RG : ∀ (xs : List AC) (r vs : List Value), s7 xs = some r → bL U ad W xs vs → vs = r
 | [], r, vs, h, hv => by cases h; exact jv hv.1.symm
 | .c v :: xs, r, vs, h, hv => by
  simp only [s7] at h
  split at h
  ·rename_i aV ap;cases h
   match vs, hv with
   | [], hv => exact absurd hv.1 (by simp)
   | u :: vs, hv =>
    have az := (hv.2 0 _ u rfl rfl).1;have bI := RG xs aV vs ap ⟨by have := hv.1; simp at this; exact this, fun i x w aa hw => hv.2 (i + 1) x w (by simpa using aa) (by simpa using hw)⟩;rw [az, bI]
  ·cases h
 | .own _ _ :: _, _, _, h, _ => by cases h
 | .p _ :: _, _, _, h, _ => by cases h
theorem RL {x : bx} {u v : Value} (h : mo x = some u) (hv : fR U ad W x v) : v = u := by
 cases x with
 | one y => cases y with
  | c w => cases h; exact hv.1
  | own => cases h
  | p => cases h
 | agg xs =>
  simp only [mo] at h
  split at h
  ·rename_i r ap;cases h;obtain ⟨vs, rfl, ak⟩ := hv;rw [RG xs r vs ap ak]
  ·cases h
theorem RI : ∀ (xs : List bx) (r vs : List Value), wx xs = some r → xs.length = vs.length → (∀ (i : Nat) (x : bx) (v : Value), xs[i]? = some x → vs[i]? = some v → fR U ad W x v) → vs = r
 | [], r, vs, h, ak, _ => by cases h; exact jv ak.symm
 | x :: xs, r, vs, h, ak, hv => by
  simp only [wx] at h
  split at h
  ·rename_i v aV h1 ap;cases h
   match vs, ak, hv with
   | u :: vs, ak, hv =>
    rw [RL h1 (hv 0 x u rfl rfl), RI xs aV vs ap (by simpa using ak) fun i y w ai hw => hv (i + 1) y w (by simpa using ai) (by simpa using hw)]
  ·cases h
theorem afq {x : ah} {u v : Value} (h : qB x = some u) (hv : cX U ad W x v) : v = u := by
 cases x with
 | w y => exact RL h hv
 | cn xs =>
  simp only [qB] at h
  split at h
  ·rename_i r ap;cases h;obtain ⟨vs, rfl, ak, aa⟩ := hv;rw [RI xs r vs ap ak aa]
  ·cases h
end
theorem Lq {P : Program} {f : FuncId} {args : List ah} {r : ah} (h : aH P f args r) (jj : List Value) (bW : Value) (he : args.map qB = jj.map some) (ok : args.all Ic = true) (ap : qB r = some bW) (W : World) : Calls P f jj.toArray W fun e bf => e = .returned bW ∧ Below W.heap.size W bf :=
 (h.call (fun _ => True) W jj ⟨by have := congrArg List.length he; simpa using this, fun i x v aa hv => by
  have h1 : (args.map qB)[i]? = some (qB x) := by rw [eh, aa]; rfl
  rw [he, eh, hv] at h1;have h2 : some v = qB x := ny h1;exact DZ h2.symm (b6.1 ok x (cV aa))⟩).mono fun e bf ⟨v, oJ, hv, ab⟩ => by
  rw [afq ap hv] at oJ;exact ⟨oJ, ab⟩
theorem Qn {v k : Int} {r : Nat} (h : fQ k r) (v0 : -9223372036854775808 ≤ v) (v1 : v < 9223372036854775808) : aH ag 41 [aE v, aE k] (aE (bB v r)) :=
 hJ [.int .i64 v, .int .i64 k] (.int .i64 (bB v r)) rfl rfl rfl rfl rfl fun W => Xn v k r W h v0 v1
theorem QE {k : Int} {r : Nat} (h : fQ k r) : aH ag 39 [aE k] (aE (2 ^ r)) :=
 hJ [.int .i64 k] (.int .i64 (2 ^ r)) rfl rfl rfl rfl rfl fun W => agb k r W h
theorem adL {k : Int} : aH ag 153 [aE k] (bk (decide (0 ≤ k) && decide (k ≤ 28))) :=
 hJ [.int .i64 k] (.bool (decide (0 ≤ k) && decide (k ≤ 28))) rfl rfl rfl rfl rfl fun W => Xm k W
theorem zP {x y k : Int} {r : Nat} {b : Bool} (h : fQ k r) (ab : dd r x y = b) : aH ag 38 [aZ x y, aE k] (bk b) := by
 subst ab;exact hJ [.agg #[.int .i64 x, .int .i64 y], .int .i64 k] (.bool (dd r x y)) rfl rfl rfl rfl rfl fun W => Ts x y k r W h
theorem adK {x y x' y' : Int} : aH ag 182 [aZ x y, aZ x' y'] (aE (l0 x y x' y')) :=
 hJ [.agg #[.int .i64 x, .int .i64 y], .agg #[.int .i64 x', .int .i64 y']] (.int .i64 (l0 x y x' y')) rfl rfl rfl rfl rfl fun W => Xl x y x' y' W
theorem DE {x y k : Int} {r : Nat} (h : fQ k r) (AA : -9223372036854775808 ≤ x) (cA : x < 9223372036854775808) (mf : -9223372036854775808 ≤ y) (jk : y < 9223372036854775808) : aH ag 18 [aZ x y, aE k] (aZ (bB x r) (bB y r)) := by
 refine bl (f := 18) Tryz.func18 rfl rfl rfl rfl ?_;(repeat first | refine eA ?_ | refine lH (Qn h AA cA) ?_ | refine lH (Qn h mf jk) ?_)
 ((refine bd rfl (cL rfl rfl rfl aL) ?_))
 exact ah.aS.refl _
theorem sf {x y k : Int} {r : Nat} (h : fQ k r) (ab : dd r x y = true) : aH ag 13 [aZ x y, aE k] (aZ (2 ^ r * x) (2 ^ r * y)) := by
 obtain ⟨⟨q1, q2⟩, bR, dD⟩ := (CK r x y).1 ab;have aW := zP h ab;have bH := QE h;clear h ab;generalize (2 : Int) ^ r = P at *;refine bl (f := 13) Tryz.func13 rfl rfl rfl rfl ?_;(refine cc ?_)
 ((refine bd rfl (cL rfl rfl rfl aL) ?_))
 exact ah.aS.refl _
theorem adk {x y k : Int} {r : Nat} (h : fQ k r) (ab : dd r x y = true) : aH ag 154 [aZ x y, aE k] (.cn [.agg [.c (.int .i64 (2 * (2 ^ r * x) - 2 ^ r)), .c (.int .i64 (2 * (2 ^ r * y) - 2 ^ r))], .agg [.c (.int .i64 (2 * (2 ^ r * x) + 2 ^ r)), .c (.int .i64 (2 * (2 ^ r * y) + 2 ^ r))]]) := by
 obtain ⟨⟨q1, q2⟩, bR, dD⟩ := (CK r x y).1 ab;obtain ⟨l4, DO⟩ := DK h.1;have aW := zP h ab;have bH := QE h;have eF := sf h ab;clear h ab;generalize (2 : Int) ^ r = P at *;generalize P * x = X at *;generalize P * y = Y at *;refine bl (f := 154) Tryz.func154 rfl rfl rfl rfl ?_;(refine cc ?_)
 ((refine bd rfl (cL rfl rfl rfl (cL rfl rfl rfl aL)) ?_))
 exact ah.aS.refl _
def sD (n d : Int) (r : Nat) : Bool := decide (0 < d) && wi (134217728 / 2 ^ r) (lF n d r)
def Ea (n d : Int) (r : Nat) : Int := if sD n d r then lF n d r else 0
theorem QF {n d k : Int} {r : Nat} (h : fQ k r) (f : fits n = true) (g : fits d = true) : aH ag 143 [fv n d, aE k] (.cn [.one (.c (.int .i64 (Ea n d r))), .one (.c (.bool (sD n d r)))]) := by
 refine hJ [fx n d, .int .i64 k] (.tuple #[.int .i64 (Ea n d r), .bool (sD n d r)]) rfl rfl rfl rfl rfl fun W => ?_;unfold Ea sD
 by_cases hd : 0 < d
 ·have EY : ∀ w, Calls ag 161 #[fx n d, .int .i64 r] w (J6 true (lF n d r) w) := fun w => (Lq (adH f g hd (by have := h.1; omega)) [fx n d, .int .i64 r] (.tuple #[uf (lF n d r), .bool true]) rfl rfl rfl w).mono fun e w' k => ⟨_, _, k.1, lu (Xd f hd g (by have := h.1; omega)), k.2⟩;rw [bZ hd, l8];cases hw : wi (134217728 / 2 ^ r) (lF n d r) with
  | true => exact Jb _ _ _ _ k r true _ _ true W h EY (.inr (.inr (.inr ⟨rfl, ahh hw, hw, rfl, rfl⟩)))
  | false =>
   refine Jb _ _ _ _ k r true _ 0 false W h EY ?_;cases hs : small (lF n d r)
   ·exact .inr (.inl ⟨rfl, rfl, rfl, rfl⟩)
   ·exact .inr (.inr (.inl ⟨rfl, rfl, hw, rfl, rfl⟩))
 ·rw [cp hd, Bool.false_and];exact Jb _ _ _ _ k r false 0 0 false W h (fun w => (Lq (adI (k := r) f g (.inl hd)) [fx n d, .int .i64 r] (.tuple #[uf 0, .bool false]) rfl rfl rfl w).mono fun e w' k => ⟨_, _, k.1, w6, k.2⟩) (.inl ⟨rfl, rfl, rfl⟩)
theorem acM {n d n' d' k : Int} {r : Nat} {b : Bool} (h : fQ k r) (f : fits n = true) (g : fits d = true) (kV : fits n' = true) (jn : fits d' = true) (ab : (sD n d r && sD n' d' r) = b) :
  aH ag 122 [fv n d, fv n' d', aE k] (.cn [.agg [.c (.int .i64 (if b then lF n d r else 0)), .c (.int .i64 (if b then lF n' d' r else 0))], .one (.c (.bool b))]) := by
 have aW := QF h f g;have bH := QF h kV jn;clear h f g kV jn;unfold Ea at aW bH;cases q1 : sD n d r <;> cases q2 : sD n' d' r <;> rw [q1] at aW <;> rw [q2] at bH <;> rw [q1, q2] at ab <;> subst ab <;> clear q1 q2
 all_goals
  generalize lF n d r = X at *;generalize lF n' d' r = Y at *;refine bl (f := 122) Tryz.func122 rfl rfl rfl rfl ?_;(refine cc ?_)
  ((refine bd rfl (cL rfl rfl rfl (a8 rfl aL)) ?_))
  exact ah.aS.refl _
theorem zQ {k : Int} {r : Nat} (h : fQ k r) : aH ag 25 [aE k] (aE r) := by
 obtain ⟨az, h1⟩ := h;have af : (r : Int) ≤ 28 := by omega
 rcases h1 with ⟨h1, rfl⟩ | ⟨h1, rfl⟩ | rfl
 all_goals
  refine bl (f := 25) Tryz.func25 rfl rfl rfl rfl ?_;(refine eS ?_)
  ((refine bd rfl (a8 rfl aL) ?_))
  exact ah.aS.refl _
def Dq (n : Int) (r : Nat) : Bool := decide (-134217728 ≤ n * 2 ^ r) && decide (n * 2 ^ r ≤ 134217728)
theorem acb (n : Int) (r : Nat) : Dq n r = wi (134217728 / 2 ^ r) n := by
 rw [Jv];unfold Dq;rw [nx, c5, b4, b4, b4, iq]
theorem Qw {n : Int} {r : Nat} {b : Bool} (ax : dL 200 n) (ap : r ≤ 28) (ab : Dq n r = b) : aH ag 65 [ij n, aE r] (bk b) := by
 have aW : aH ag 108 [aE r] (ij (2 ^ r)) := QB (by omega)
 have bH : aH ag 108 [aE 27] (ij 134217728) := by
  have WH : (2 : Int) ^ 27 = 134217728 := by decide
  have := QB (k := 27) (by omega);rw [WH] at this;exact this
 have eF : aH ag 77 [ij n, ij (2 ^ r)] (ij (n * 2 ^ r)) := Iq (ax.up (by omega)) ((dL.QS r).up (by omega));have la : aH ag 109 [ij 134217728] (ij (-134217728)) := ad4 ((dL.zK (by decide)).up (show 10 ≤ 1000 by omega));have H6 : dL 1000 (n * 2 ^ r) := (ax.mul (dL.QS r)).up (by omega);have nI : aH ag 76 [ij (n * 2 ^ r), ij (-134217728)] (aE (cj (n * 2 ^ r) (-134217728))) := Ip H6 ((dL.zK (by decide)).up (show 10 ≤ 1000 by omega));have AK : aH ag 76 [ij (n * 2 ^ r), ij 134217728] (aE (cj (n * 2 ^ r) 134217728)) := Ip H6 ((dL.zK (by decide)).up (show 10 ≤ 1000 by omega));have i1 := Hu (a := n * 2 ^ r) (b := -134217728);have i2 : cj (n * 2 ^ r) 134217728 ≤ 0 ↔ n * 2 ^ r ≤ 134217728 := by unfold cj; repeat' split <;> omega
 unfold Dq at ab;generalize n * 2 ^ r = z at *;generalize cj z (-134217728) = a1 at *;generalize cj z 134217728 = a2 at *
 have cs : (0 ≤ a1 ∧ a2 ≤ 0 ∧ b = true) ∨ (0 ≤ a1 ∧ ¬ a2 ≤ 0 ∧ b = false) ∨ (¬ 0 ≤ a1 ∧ b = false) := by
  rw [← ab]
  by_cases p1 : -134217728 ≤ z <;> by_cases p2 : z ≤ 134217728 <;> simp [p1, p2] <;> omega
 clear ab ax H6 i1 i2;have y8 : (r : Int) ≤ 28 := by omega
 rcases cs with ⟨p1, p2, rfl⟩ | ⟨p1, p2, rfl⟩ | ⟨p1, rfl⟩
 ·refine bl (f := 65) Tryz.func65 rfl rfl rfl rfl ?_;(repeat first | refine eA ?_ | refine fi ?_ | (with_reducible apply cg (c := true)); rfl; rfl; (exact bZ (by omega)))
  ((refine bd rfl (a8 rfl aL) ?_))
  exact ah.aS.of_eq (by rw [bZ p2]; rfl)
 ·refine bl (f := 65) Tryz.func65 rfl rfl rfl rfl ?_;(repeat first | refine eA ?_ | refine fi ?_ | (with_reducible apply cg (c := true)); rfl; rfl; (exact bZ (by omega)))
  ((refine bd rfl (a8 rfl aL) ?_))
  exact ah.aS.of_eq (by rw [cp p2]; rfl)
 ·refine bl (f := 65) Tryz.func65 rfl rfl rfl rfl ?_;(repeat first | refine eA ?_ | refine fi ?_ | (with_reducible apply cg (c := false)); rfl; rfl; (exact cp (by omega)))
  ((refine bd rfl (a8 rfl aL) ?_))
  exact ah.aS.refl _
theorem QA {x y k : Int} {r : Nat} {b : Bool} (h : fQ k r) (AA : -9223372036854775808 ≤ x) (cA : x < 9223372036854775808) (mf : -9223372036854775808 ≤ y) (jk : y < 9223372036854775808) (ab : dd r x y = b) : aH ag 35 [aZ x y, aE k] (bk b) := by
 have aW := zQ h;have bH := ra AA cA;have eF := ra mf jk;have eJ : dL 200 x := (dL.zK (BL AA cA)).up (by omega);have ft : dL 200 y := (dL.zK (BL mf jk)).up (by omega);have la := Qw eJ h.1 rfl;have nI := Qw ft h.1 rfl;rw [acb] at la nI;unfold dd at ab;clear h eJ ft;cases q1 : wi (134217728 / 2 ^ r) x <;> cases q2 : wi (134217728 / 2 ^ r) y <;> rw [q1] at la <;> rw [q2] at nI <;> rw [q1, q2] at ab <;> subst ab <;> clear q1 q2
 all_goals
  refine bl (f := 35) Tryz.func35 rfl rfl rfl rfl ?_;(refine cc ?_)
  ((refine bd rfl (a8 rfl aL) ?_))
  exact ah.aS.refl _
end Go.Proofs.YtbcecodakfejaaaGreat
namespace Go.Proofs.YtbcecodakfejaaaGreat
abbrev du := Int × Int × Int
def lZ (x y z w : Int) : Bool := decide (x < z) || (decide (x = z) && decide (y < w))
theorem oW {x y z w : Int} : lZ x y z w = true ↔ x < z ∨ (x = z ∧ y < w) := by
 unfold lZ; simp
def tT (l : List du) (x y : Int) : List du := l.filter fun e => lZ e.1 e.2.1 x y
def DL (l : List du) (x y : Int) : List du := l.filter fun e => lZ x y e.1 e.2.1
def sj (l : List du) (x y v : Int) : List du := tT l x y ++ (x, y, v) :: DL l x y
def tc (l : List du) (x y : Int) : Int := match l.findIdx? fun e => decide (e.1 = x) && decide (e.2.1 = y) with
 | some k => k
 | none => -1
def j5 (l : List du) : Prop := l.Pairwise fun a b => lZ a.1 a.2.1 b.1 b.2.1 = true
theorem acJ {a b c d e f : Int} (h1 : lZ a b c d = true) (h2 : lZ c d e f = true) : lZ a b e f = true := by
 rw [oW] at *; omega
theorem aeF {l : List du} (h : j5 l) (x y v : Int) : j5 (sj l x y v) := by
 unfold sj tT DL j5;rw [List.pairwise_append, ir];refine ⟨h.filter _, ⟨fun e he => ?_, h.filter _⟩, fun a aJ b ab => ?_⟩
 ·exact (List.mem_filter.1 he).2
 ·have h1 := (List.mem_filter.1 aJ).2;rcases gj.1 ab with rfl | ab
  ·exact h1
  ·exact acJ h1 (List.mem_filter.1 ab).2
def hz (l : List du) (x y : Int) : Bool := l.any fun e => decide (e.1 = x) && decide (e.2.1 = y)
theorem MM (l : List du) (x y : Int) : decide (0 ≤ tc l x y) = hz l x y := by
 unfold tc hz;cases h : l.findIdx? fun e => decide (e.1 = x) && decide (e.2.1 = y) with
 | none =>
  rw [List.findIdx?_eq_none_iff] at h
  have : (l.any fun e => decide (e.1 = x) && decide (e.2.1 = y)) = false := by
   rw [List.any_eq_false]; intro e he; rw [h e he]; decide
  rw [this]; rfl
 | some k =>
  have az := zX.1 h;obtain ⟨af, h1, _⟩ := az;have : (l.any fun e => decide (e.1 = x) && decide (e.2.1 = y)) = true := List.any_eq_true.2 ⟨l[k], List.getElem_mem af, h1⟩;rw [this]; simp
theorem Xs {l : List du} {x y : Int} (h : 0 ≤ tc l x y) : ∃ k v, tc l x y = (k : Nat) ∧ k < l.length ∧ l[k]? = some (x, y, v) := by
 unfold tc at h ⊢;cases au : l.findIdx? fun e => decide (e.1 = x) && decide (e.2.1 = y) with
 | none => rw [au] at h; simp at h
 | some k =>
  obtain ⟨af, h1, _⟩ := zX.1 au;simp only [c5, b4] at h1;refine ⟨k, l[k].2.2, rfl, af, ?_⟩;rw [bJ af];congr 1;exact Prod.ext h1.1 (Prod.ext h1.2 rfl)
def oo (l : List du) (x y : Int) : Int := match l.findIdx? fun e => decide (e.1 = x) && decide (e.2.1 = y) with
 | some k => (l.getD k (0, 0, 0)).2.2
 | none => 0
theorem ahc {l : List du} {x y v : Int} {k : Nat} (h : tc l x y = k) (ak : l[k]? = some (x, y, v)) : oo l x y = v := by
 unfold tc at h;unfold oo;cases au : l.findIdx? fun e => decide (e.1 = x) && decide (e.2.1 = y) with
 | none => rw [au] at h; simp at h
 | some j =>
  rw [au] at h;have : j = k := by simp at h; omega
  subst this;simp only [fX, ak]; rfl
theorem aha {l : List du} {x y : Int} (h : hz l x y = false) : oo l x y = 0 := by
 have h2 := MM l x y;rw [h] at h2;unfold tc at h2;unfold oo;cases au : l.findIdx? fun e => decide (e.1 = x) && decide (e.2.1 = y) with
 | none => rfl
 | some j => rw [au] at h2; simp at h2
theorem aeD (l : List du) (x y : Int) : (tT l x y).length ≤ l.length := List.length_filter_le _ _
theorem St {l : List du} (h : j5 l) {x y v : Int} (hm : (x, y, v) ∈ l) : hz l x y = true ∧ oo l x y = v := by
 have aR : hz l x y = true := List.any_eq_true.2 ⟨_, hm, by simp⟩;have aq := MM l x y;rw [aR] at aq;obtain ⟨k, u, h1, h2, ao⟩ := Xs (of_decide_eq_true aq);refine ⟨aR, ?_⟩;rw [ahc h1 ao];obtain ⟨j, ae⟩ := jR hm;have rU := (bA.1 ae).1;have hT : l[k] = (x, y, u) := (bA.1 ao).2;have lh : l[j] = (x, y, v) := (bA.1 ae).2;unfold j5 at h;rw [List.pairwise_iff_getElem] at h;rcases Nat.lt_trichotomy k j with q | q | q
 ·have := h k j h2 rU q;rw [hT, lh, oW] at this;simp at this
 ·subst q;rw [hT] at lh;cases lh; rfl
 ·have := h j k rU h2 q;rw [hT, lh, oW] at this;simp at this
end Go.Proofs.YtbcecodakfejaaaGreat
namespace Go.Proofs.YtbcecodakfejaaaGreat
open Go.RowKit
def ee : List du → List AC
 | [] => []
 | e :: l => .c (.int .i64 e.1) :: .c (.int .i64 e.2.1) :: .c (.int .i64 e.2.2) :: ee l
theorem FN : ∀ (l : List du) (i : Nat) (e : du), l[i]? = some e → ((ee l).drop (i * 3)).take 3 = [.c (.int .i64 e.1), .c (.int .i64 e.2.1), .c (.int .i64 e.2.2)]
 | [], i, p, h => by simp at h
 | q :: l, 0, p, h => by simp at h; subst h; simp [ee]
 | q :: l, i + 1, p, h => by
  have e : (i + 1) * 3 = i * 3 + 1 + 1 + 1 := by omega
  rw [e];simp only [ee, List.drop_succ_cons];exact FN l i p (by simpa using h)
theorem Md {l : List du} {j : Int} {i : Nat} {x y v : Int} (ae : j = i) (h : l[i]? = some (x, y, v)) : ((ee l).drop (j.toNat * 3)).take 3 = [.c (.int .i64 x), .c (.int .i64 y), .c (.int .i64 v)] := by
 subst ae;exact FN l i (x, y, v) h
theorem yx : ∀ (l : List du), (ee l).length = l.length * 3
 | [] => rfl
 | p :: l => by simp only [ee, jQ, yx l]; omega
theorem yw : ∀ (l m : List du), ee (l ++ m) = ee l ++ ee m
 | [], _ => rfl
 | p :: l, m => by simp only [List.cons_append, ee, yw l m]
theorem L9 : ∀ (l : List du), (ee l).all AC.aY = true
 | [] => rfl
 | p :: l => by simp only [ee, jV, L9 l]; rfl
abbrev kC (x y : Int) : List AC := [.c (.int .i64 x), .c (.int .i64 y)]
abbrev jZ (k : Nat) : ah := .w (.one (.own k 0))
abbrev q9 (v : Value) (l : List (Int × Int)) : bE := ⟨40, 2, v, l.length, bD l⟩
instance ai5 : mV ag 43 40 2 16 := ⟨by kernel_rfl⟩
theorem aaa (l : List (Int × Int)) (x y : Int) : bD l ++ [.c (.int .i64 x), .c (.int .i64 y)] = bD (l ++ [(x, y)]) := by rw [qQ]; rfl
theorem Qe (v : Value) (l : List (Int × Int)) (x y : Int) : q9 v (l ++ [(x, y)]) = ⟨40, 2, v, l.length + 1, bD l ++ [.c (.int .i64 x), .c (.int .i64 y)]⟩ := by
 unfold q9; rw [← aaa, cF]; rfl
abbrev ag9 (r : Int) (l : List aj) : ah := .w (.agg [.c (.int .i64 r), .p (bX 2 l.length (bD l))])
def lE (n : Int) : Int := if n < 1 then 1 else if 1024 < n then 1024 else n
def iB (l : List aj) (x y : Int) : Int := match l.findIdx? fun e => decide (e.1 = x) && decide (e.2 = y) with
 | some k => k
 | none => -1
def TE (r : Int) (l : List aj) (x y : Int) (n : Nat) (aM : List (Nat × ah)) (bi : List (Nat × List AC)) : Prop :=
 ∃ (k : Nat) (cU : Int), k ≤ l.length ∧ n = l.length - k ∧ cU = k ∧ (∀ j e, j < k → l[j]? = some e → ¬ (e.1 = x ∧ e.2 = y)) ∧ bi = [(2, [.c (.int .i64 r), .p (bX 2 l.length (bD l))]), (3, kC x y)] ∧ aM = [(2, jZ 2), (3, jZ 3), (5, aE cU)]
theorem ac8 {r : Int} {l : List aj} (ak : l.length ≤ 100000) {x y : Int} : aH ag 19 [ag9 r l, aZ x y] (aE (iB l x y)) := by
 refine bl (f := 19) Tryz.func19 rfl rfl rfl rfl ?_;(refine eS ?_);refine qv 21 (TE r l x y) l.length _ [(2, [.c (.int .i64 r), .p (bX 2 l.length (bD l))]), (3, kC x y)] ⟨0, 0, dx _, rfl, rfl, fun j e ae => absurd ae (Nat.not_lt_zero _), rfl, rfl⟩ rfl ⟨rfl, rfl, rfl, trivial⟩ ⟨rfl, rfl, trivial⟩ rfl ?_;rintro n aM bi ⟨k, cU, af, rfl, hA, hp, rfl, rfl⟩ cT;clear cT
 by_cases q : k < l.length
 ·have cd : cU < (l.length : Int) := by omega
  have q2 : 0 ≤ cU := by omega
  obtain ⟨a, b, g1⟩ : ∃ a b, l[k]? = some (a, b) := ⟨_, _, bJ q⟩;have iK := lV hA g1;cases an : c7 a b x y with
  | true =>
   have he := mX.1 an
   have ap : iB l x y = cU := by
    have : l.findIdx? (fun e => decide (e.1 = x) && decide (e.2 = y)) = some k := by
     rw [zX];refine ⟨q, ?_, fun j ae => ?_⟩
     ·have : l[k] = (a, b) := (bA.1 g1).2;rw [this]; simp [he.1, he.2]
     ·have := hp j _ ae (bJ (Nat.lt_trans ae q));simp only [c5, b4]; exact this
    unfold iB; rw [this]; exact hA.symm
   clear hp hA;(refine eS ?_)
   ((refine bd rfl (a8 rfl aL) ?_))
   exact ah.aS.of_eq (by rw [ap]; rfl)
  | false =>
   have ng : ∀ j e, j < k + 1 → l[j]? = some e → ¬ (e.1 = x ∧ e.2 = y) := fun j e ae he => by
    by_cases h : j = k
    ·subst h;rw [g1] at he;cases he;intro aR;rw [mX.2 aR] at an;cases an
    ·exact hp j e (by omega) he
   clear hp;(refine eS ?_);exact ⟨l.length - (k + 1), _, [(2, [.c (.int .i64 r), .p (bX 2 l.length (bD l))]), (3, kC x y)], by omega, ⟨k + 1, cU + 1, by omega, rfl, by omega, ng, rfl, rfl⟩, rfl, ⟨rfl, rfl, rfl, trivial⟩, ⟨rfl, rfl, trivial⟩, rfl⟩
 ·have cd : ¬ cU < (l.length : Int) := by omega
  have ap : iB l x y = -1 := by
   have : l.findIdx? (fun e => decide (e.1 = x) && decide (e.2 = y)) = none := by
    rw [List.findIdx?_eq_none_iff];intro e he;obtain ⟨j, ae⟩ := jR he;have h1 := (bA.1 ae).1;have := hp j e (by omega) ae;cases aR : (decide (e.1 = x) && decide (e.2 = y)) with
    | false => rfl
    | true => simp only [c5, b4] at aR; exact absurd aR this
   unfold iB; rw [this]
  clear hp;(refine eS ?_)
  ((refine bd rfl (a8 rfl aL) ?_))
  exact ah.aS.of_eq (by rw [ap]; rfl)
def x2 (P : Program) (f : FuncId) (args : List ah) (r : bE) (post : ah → bE → Prop) : Prop :=
 ∀ i, da P f args b3 (bt i r) fun v aG ay => ∃ aV, aG = b3 ∧ ay = bt i aV ∧ post v aV
theorem Rq {args : List ah} (aJ : args.all ah.aY = true) : args.map (ah.aX fun j => j) = args := by
 rw [b6] at aJ
 conv => rhs; rw [← List.map_id args]
 exact o5 fun x aa => tY (aJ x aa)
theorem aeZ {P : Program} {f : FuncId} {args : List ah} {r : bE} {post : ah → bE → Prop} (aJ : args.all ah.aY = true) (hp : ∀ v aV, post v aV → v.aY = true)
  (h : da P f args b3 (bt 0 r) fun v aG ay => ∃ aV, aG = b3 ∧ ay = bt 0 aV ∧ post v aV) : x2 P f args r post := by
 intro i;have h1 := h.aX (bC := fun j => j) (bV := swp 0 i) (iu := swp 0 i) (fun _ => rfl) (mO _ _) (mO _ _);rw [Rq aJ, show Mem.aX (fun j => j) b3 = b3 from rfl, z8] at h1;refine ⟨fun U ad W vs cI cD cK => (h1.call U ad W vs cI cD cK).mono ?_⟩;rintro e bf ⟨v, cx, aG, ay, a7, cw, c0, ⟨dF, m2, fk, ⟨aV, rfl, rfl, an⟩, rfl, rfl, rfl⟩, q⟩;rw [show Mem.aX (fun j => j) b3 = b3 from rfl, z8, tY (hp _ _ an)] at q;exact ⟨v, dF, b3, bt i aV, a7, cw, c0, ⟨aV, rfl, rfl, an⟩, q⟩
theorem Ni {P : Program} {fn : Func} {l : List ResultVar} {xs : List bx} {R : aI} {s : aC} {r aV : bE} {post : ah → bE → Prop} (ap : fn.results = l.toArray) (h : l.map (iG P s) = xs.map some) (hi : R 0 = some aV) (aa : (packed xs).aY = true)
  (hp : post (packed xs) aV) : tm P fn b3 (bt 0 r) (fun v aG ay => ∃ aV, aG = b3 ∧ ay = bt 0 aV ∧ post v aV) R s := by
 refine ⟨xs, packed xs, b3, bt 0 aV, by rw [ap]; exact h, .refl _, ⟨aV, rfl, rfl, hp⟩, fun k c h => (by cases h), fun i q h => ?_, fun j ae => absurd ae (ah.dq aa j), fun k c x j h => (by cases h), fun k c h => (by cases h), fun i q h => ?_⟩
 ·obtain ⟨rfl, rfl⟩ := fI h; exact hi
 ·obtain ⟨rfl, rfl⟩ := fI h; exact ⟨aV, by unfold bt; exact cl _ _ _⟩
section
variable {P : Program} {R : aI} {s : aC} {ops : Array Oper} {dr : Option (List Nat)} {ty : Nat} {pos : String} {after : Array Edge} {guard : Option (Nat × Bool)} {K : aI → aC → Prop} {rest : List Oper}
theorem tN (s : aC) : s.over b3 = s := by
 show ({ s with mem := bP (fun _ => none) s.mem } : aC) = s;rw [Qb]
theorem NP (i : Nat) {dst : Option Nat} {f : FuncId} {g : Operand} {aM : Array TypeId} {l : List Operand} {args : List ah} {r : bE} {post : ah → bE → Prop} [E : Enters P f] (hw : want ops ⟨dst, .call ⟨.value g, l.toArray, aM⟩, ty, pos, after, guard⟩ s = some true) (hm : dY dr ⟨dst, .call ⟨.value g, l.toArray, aM⟩, ty, pos, after, guard⟩ = true)
  (aq : s.look g = some (aQ (.func (.func f) #[] #[]))) (aJ : l.map s.look = args.map some) (hp : x2 P f args r post) (hi : R i = some r) (eg : args.all ah.aY = true) (hd : kT dst s.n = true)
  (h : ∀ v aV, post v aV → cJ P ops dr K rest (bG R i aV) (s.put dst v)) : cJ P ops dr K (⟨dst, .call ⟨.value g, l.toArray, aM⟩, ty, pos, after, guard⟩ :: rest) R s := by
 refine u7 hw hm aq aJ (hp i) (fun x aa j ae => absurd ae (ah.dq (b6.1 eg x aa) j)) (fun k' ar aK => by cases aK) (fun fs aV aK => ?_) (fun k' ar x j aK aa ae => by cases aK) hd ?_
 ·obtain ⟨rfl, rfl⟩ := fI aK; exact hi
 ·rintro v aG ay ⟨aV, rfl, rfl, an⟩;refine ⟨fun k' c aK => (by cases aK), ?_⟩;rw [show bP (bt i aV) R = bG R i aV from vq R i aV, tN];exact h v aV an
theorem rZ {x : Operand} {t f h7 off : Nat} {r : bE} (i : Nat) [S : kM P t f h7] {d : Nat} (hi : R i = some r) (hw : want ops ⟨some d, .fieldAddr t x f, ty, pos, after, guard⟩ s = some true) (aa : s.look x = some (aQ (jx r.v off))) (ax : 0 < r.n) (ap : tX ops dr (some d) = true) (hd : Nat.blt d s.n = true) (h : cJ P ops dr K rest R (s.put (some d) (aQ (jx r.v (off + h7))))) : cJ P ops dr K (⟨some d, .fieldAddr t x f, ty, pos, after, guard⟩ :: rest) R s :=
 zd hw (.nV i r off t f h7 x hi ax rfl aa S.h) rfl ap hd h
end
structure Ka (W bf : World) (r aV : bE) (U : Nat → Prop) : Prop where
 grown : W.grownBy bf r.v.ownBlock
 row : ∃ xs, bf.ownsRow 0 aV.e aV.sz aV.v aV.n xs ∧ bL U id W aV.aT xs
 pA : ∀ y ∈ aV.aT, y.aY = true
 ahT : ∀ g, aV.v.ownBlock = some g → r.v.ownBlock = some g ∨ W.heap.size ≤ g
theorem bL.Jl {U : Nat → Prop} {ad a7 : Nat → Nat} {W : World} {xs : List AC} {vs : List Value} (al : ∀ y ∈ xs, y.aY = true) (h : bL U ad W xs vs) : bL U a7 W xs vs := h.wo al fun b ab _ => ⟨ab, rfl⟩
theorem j6.Jl {U : Nat → Prop} {ad : Nat → Nat} {W : World} {args : List ah} {vs : List Value} (al : args.all ah.aY = true) (h : j6 U ad W args vs) : j6 U id W args vs :=
 ⟨h.1, fun i x v aa hv => Rel.N6 (ah.dq (b6.1 al x (cV aa))) (h.2 i x v aa hv)⟩
theorem aaH {U : Nat → Prop} {W bf : World} {row : Option Nat} (aq : W.grownBy bf row) (ap : ∀ g, row = some g → ¬ U g) : ∀ b, U b → b < W.heap.size → (U b ∧ b < W.heap.size) ∧ bf.heap[b]? = W.heap[b]? := fun b ab ak =>
 ⟨⟨ab, ak⟩, aq.block b ak fun e => ap b e.symm ab⟩
theorem ae0 {P : Program} {f : FuncId} {args : List ah} {r : bE} {post : ah → bE → Prop} (eg : args.all ah.aY = true) (bF : 0 < r.sz) (nh : ∀ bW aV, post bW aV → 0 < aV.sz)
  (h : ∀ (U : Nat → Prop) (W : World) (vs : List Value) (xs : List Value), W.ownsRow 0 r.e r.sz r.v r.n xs → bL U id W r.aT xs → (∀ y ∈ r.aT, y.aY = true) → (∀ g, r.v.ownBlock = some g → ¬ U g) → j6 U id W args vs →
   Calls P f vs.toArray W fun e bf => ∃ v bW aV, e = .returned v ∧ post bW aV ∧ Ka W bf r aV U ∧ cX U id W bW v ∧ bW.aY = true) : x2 P f args r post := by
 intro i;refine ⟨fun U ad W vs cI cD cK => ?_⟩;obtain ⟨oH, cC, Y4⟩ := cI.rows i r (by unfold bt; exact cl _ _ _);obtain ⟨xs, aA, ak⟩ := oH.row bF;have u2 := fun g aq => Y4 g (.inl aq);refine (h U W vs xs aA (ak.Jl cC) cC (fun g aq => (u2 g aq).1) (cK.Jl eg)).mono ?_;rintro e bf ⟨v, bW, aV, rfl, hp, ⟨iT, ⟨aT, hj, fb⟩, rP, ll⟩, pS, n1⟩;have OI := aaH iT fun g aq => (u2 g aq).1
 have gF : ∀ b, ej ad b3 (bt i r) b ↔ r.v.ownBlock = some b := fun b => by
  constructor
  ·rintro (⟨k, cs, af, _⟩ | ⟨j, q, ae, aq⟩)
   ·cases af
   ·obtain ⟨rfl, rfl⟩ := fI ae; exact bE.oV aq bF
  ·intro aq; exact .inr ⟨i, r, by unfold bt; exact cl _ _ _, .inl aq⟩
 refine ⟨v, bW, b3, bt i aV, ad, fun b => U b ∧ b < W.heap.size, rfl, ⟨aV, rfl, rfl, hp⟩, ⟨fun k cs af => (by cases af), fun k cs x j af => (by cases af), fun k k' cs ar af => (by cases af), fun j q ae => ?_, fun j k q cd ae af kz => ?_⟩, ?_, fun j ae => absurd ae (ah.dq n1 j), fun k cs af => (by cases af), fun j q ae => ?_, fun b ab => .inl ab.1, ?_, ⟨iT.os, iT.tape, iT.output, iT.size, fun b ab => iT.block b ab.1 fun e => ab.2 ((gF b).2 e.symm)⟩⟩
 ·obtain ⟨rfl, rfl⟩ := fI ae;refine ⟨.inl ⟨nh _ _ hp, aT, hj, fb.wo rP OI⟩, rP, fun g aq => ⟨fun hu => ?_, fun k cs af => (by cases af)⟩⟩;rcases ll g (bE.oV aq (nh _ _ hp)) with q | q
  ·exact (u2 g q).1 hu.1
  ·omega
 ·obtain ⟨rfl, _⟩ := fI ae;obtain ⟨rfl, _⟩ := fI af;exact absurd rfl kz
 ·exact pS.map OI fun j ae => absurd ae (ah.dq n1 j)
 ·obtain ⟨rfl, rfl⟩ := fI ae;exact ⟨aV, by unfold bt; exact cl _ _ _⟩
 ·rintro b (⟨k, cs, af, _⟩ | ⟨j, q, ae, aq⟩)
  ·cases af
  ·obtain ⟨rfl, rfl⟩ := fI ae;rcases ll b (bE.oV aq (nh _ _ hp)) with z | z
   ·exact .inl ((gF b).2 z)
   ·exact .inr z
theorem I1 (i : Nat) {P : Program} {R : aI} {s : aC} {c : Code} {Q : Exit → aI → aC → Prop} {r : bE} (hi : R i = some r) (h : ∀ A k, r.v = .slice A r.n k → r.n ≤ k → k ≤ maxLen → (0 < r.n → ∃ g, A = some ⟨g, 0, none⟩) → r.aT.length = r.n * r.sz → fl P c Q R s) (bF : 0 < r.sz := by first | decide | exact jw _) : fl P c Q R s := by
 rintro ok bw bK a w ⟨A, ad, aw⟩;obtain ⟨xs, aA, ak⟩ := (aw.rows i r hi).cells bF;have hlen : r.aT.length = r.n * r.sz := ak.1.trans aA.1;rcases aA.2 with ⟨e, cq⟩ | ⟨g, cap, cur, e, _, _, eO, iS, _⟩
 ·exact h none 0 (by rw [e, cq]) (by omega) (dx _) (fun h => by omega) hlen ok bw bK a w ⟨A, ad, aw⟩
 ·exact h _ cap e eO iS (fun _ => ⟨g, rfl⟩) hlen ok bw bK a w ⟨A, ad, aw⟩
theorem Rel.ae6 {B : eZ} {A : Nat → Prop} {s : aC} {ad : Nat → Nat} {a : Act} {w : World} {k : Nat} {cs ds : List AC} (h : Rel B A s ad a w) (af : s.mem k = some cs) (ap : ∀ vs, bL (s.free A ad) ad w cs vs → bL (s.free A ad) ad w ds vs) : Rel B A (s.ed k ds) ad a w := by
 obtain ⟨vs, ty, g1, g2, _⟩ := h.dC k cs af;have := h.set af (ap vs g2);rwa [setRow_self w (ad k) vs.toArray ty (0, 0) g1] at this
theorem xk {n d m e : Int} (a : dL 200 n) (b : dL 200 d) (c : dL 200 m) (f : dL 200 e) : aH ag 44 [vw n d, vw m e] (aE (cj (n * e) (m * d))) := by
 have aW := Iq (n := n) (m := e) (a.up (by omega)) (f.up (by omega));have bH := Iq (n := m) (m := d) (c.up (by omega)) (b.up (by omega));have eF := Ip (n := n * e) (m := m * d) ((a.mul f).up (by omega)) ((c.mul b).up (by omega));clear a b c f;refine bl (f := 44) Tryz.func44 rfl rfl rfl rfl ?_;(refine cc ?_)
 ((refine bd rfl (a8 rfl aL) ?_))
 exact ah.aS.refl _
theorem tO {x y : Int} {b : Bool} (ab : b7 x y = b) : aH ag 27 [aZ x y] (bk b) := by
 have cs : (x ≤ 134217728 ∧ y ≤ 134217728 ∧ -134217728 ≤ x ∧ -134217728 ≤ y ∧ b = true) ∨ (x ≤ 134217728 ∧ y ≤ 134217728 ∧ -134217728 ≤ x ∧ ¬ -134217728 ≤ y ∧ b = false) ∨ (x ≤ 134217728 ∧ y ≤ 134217728 ∧ ¬ -134217728 ≤ x ∧ b = false) ∨ (x ≤ 134217728 ∧ ¬ y ≤ 134217728 ∧ b = false) ∨ (¬ x ≤ 134217728 ∧ b = false) := by
  rw [← ab]; unfold b7
  by_cases q1 : x ≤ 134217728 <;> by_cases q2 : y ≤ 134217728 <;> by_cases bR : -134217728 ≤ x <;> by_cases dD : -134217728 ≤ y <;> simp [q1, q2, bR, dD]
 clear ab;rcases cs with ⟨q1, q2, bR, dD, rfl⟩ | ⟨q1, q2, bR, dD, rfl⟩ | ⟨q1, q2, bR, rfl⟩ | ⟨q1, q2, rfl⟩ | ⟨q1, rfl⟩
 all_goals
  refine bl (f := 27) Tryz.func27 rfl rfl rfl rfl ?_;(repeat first | refine eA ?_ | (with_reducible apply cg (c := true)); rfl; rfl; (exact bZ (by omega)) | (with_reducible apply cg (c := false)); rfl; rfl; (exact cp (by omega)))
  ((refine bd rfl (a8 rfl aL) ?_))
  first | exact ah.aS.refl _ | exact ah.aS.of_eq (by rw [bZ dD]; rfl) | exact ah.aS.of_eq (by rw [cp dD]; rfl)
def uP (n : Int) : Bool := decide (-134217728 ≤ n) && decide (n ≤ 134217728)
theorem Ql {n : Int} {b : Bool} (ab : uP n = b) : aH ag 144 [aE n] (bk b) := by
 have cs : (-134217728 ≤ n ∧ n ≤ 134217728 ∧ b = true) ∨ (-134217728 ≤ n ∧ ¬ n ≤ 134217728 ∧ b = false) ∨ (¬ -134217728 ≤ n ∧ b = false) := by
  rw [← ab]; unfold uP
  by_cases h1 : -134217728 ≤ n <;> by_cases h2 : n ≤ 134217728 <;> simp [h1, h2]
 clear ab;rcases cs with ⟨h1, h2, rfl⟩ | ⟨h1, h2, rfl⟩ | ⟨h1, rfl⟩
 all_goals
  refine bl (f := 144) Tryz.func144 rfl rfl rfl rfl ?_;(repeat first | refine eA ?_ | (with_reducible apply cg (c := true)); rfl; rfl; (exact bZ (by omega)) | (with_reducible apply cg (c := false)); rfl; rfl; (exact cp (by omega)))
  ((refine bd rfl (a8 rfl aL) ?_))
  first | exact ah.aS.refl _ | exact ah.aS.of_eq (by rw [bZ h2]; rfl) | exact ah.aS.of_eq (by rw [cp h2]; rfl)
theorem aeT (x y : Int) : b7 x y = (uP x && uP y) := by
 unfold b7 uP;rw [nx];simp only [c5, b4];omega
theorem k6 {x y : Int} (h : b7 x y = true) : ei x y = true := by rw [oh] at h; rw [Ro]; omega
theorem oX {x y : Int} {b : Bool} (ab : b7 x y = b) : aH ag 123 [aZ x y] (bk b) := by
 have aW := Ql (n := x) rfl;have bH := Ql (n := y) rfl;rw [aeT] at ab;cases q1 : uP x <;> cases q2 : uP y <;> rw [q1] at aW <;> rw [q2] at bH <;> rw [q1, q2] at ab <;> subst ab <;> clear q1 q2
 all_goals
  refine bl (f := 123) Tryz.func123 rfl rfl rfl rfl ?_;(refine cc ?_)
  ((refine bd rfl (a8 rfl aL) ?_))
  exact ah.aS.refl _
theorem acO {n m : Int} : aH ag 201 [aE n, aE m] (aE (cj n m)) :=
 hJ [.int .i64 n, .int .i64 m] (.int .i64 (cj n m)) rfl rfl rfl rfl rfl fun W => EB n m W
abbrev jY (n d : Int) (o : Bool) : ah := .w (.agg [.c (.int .i64 n), .c (.int .i64 d), .c (.bool o)])
abbrev uc (x : hM) : ah := jY x.n x.d x.own
def lI (x : hM) : Prop := (-2000000000 ≤ x.n ∧ x.n ≤ 2000000000) ∧ 0 < x.d ∧ x.d ≤ 2000000000
theorem abT {x y : Int} (h1 : -2000000000 ≤ x) (h2 : x ≤ 2000000000) (ao : 0 ≤ y) (aD : y ≤ 2000000000) : -4000000000000000000 ≤ x * y ∧ x * y ≤ 4000000000000000000 := by
 have a1 : x * y ≤ 2000000000 * y := nA h2 ao;have a2 : -2000000000 * y ≤ x * y := nA h1 ao;omega
theorem K2 {x y : hM} (aa : lI x) (ai : lI y) : IntKind.i64.wrap (x.n * y.d) = x.n * y.d := by
 obtain ⟨⟨a1, a2⟩, a3, a4⟩ := aa;obtain ⟨⟨b1, b2⟩, dm, cY⟩ := ai;have := abT a1 a2 (by omega : (0 : Int) ≤ y.d) cY;exact mw (by omega)
theorem aea {n d m e c : Int} {o q : Bool} (aW : aH ag 201 [aE (n * e), aE (m * d)] (aE c)) (w1 : IntKind.i64.wrap (n * e) = n * e) (w2 : IntKind.i64.wrap (m * d) = m * d) : aH ag 200 [jY n d o, jY m e q] (aE c) := by
 refine bl (f := 200) Tryz.func200 rfl rfl rfl rfl ?_;(refine cc ?_)
 ((refine bd rfl (a8 rfl aL) ?_))
 exact ah.aS.refl _
theorem Ir {x y : hM} (aa : lI x) (ai : lI y) : aH ag 200 [uc x, uc y] (aE (hy x y)) :=
 aea acO (K2 aa ai) (K2 ai aa)
theorem adV {n d m e c : Int} {o q : Bool} {cx dF : Int} {gA : Bool} (aW : aH ag 200 [jY n d o, jY m e q] (aE c)) (cs : (0 < c ∧ cx = n ∧ dF = d ∧ gA = o) ∨ (¬ 0 < c ∧ c = 0 ∧ q = true ∧ cx = n ∧ dF = d ∧ gA = o) ∨ (¬ 0 < c ∧ c = 0 ∧ q = false ∧ cx = m ∧ dF = e ∧ gA = q) ∨ (¬ 0 < c ∧ ¬ c = 0 ∧ cx = m ∧ dF = e ∧ gA = q)) : aH ag 208 [jY n d o, jY m e q] (jY cx dF gA) := by
 rcases cs with ⟨q1, rfl, rfl, rfl⟩ | ⟨q1, q2, rfl, rfl, rfl, rfl⟩ | ⟨q1, q2, rfl, rfl, rfl, rfl⟩ | ⟨q1, q2, rfl, rfl, rfl⟩
 all_goals
  refine bl (f := 208) Tryz.func208 rfl rfl rfl rfl ?_;(repeat first | refine eA ?_ | refine fi ?_ | (with_reducible apply cg (c := true)); rfl; rfl; (exact bZ (by omega)) | (with_reducible apply cg (c := false)); rfl; rfl; (exact cp (by omega)))
  ((refine bd rfl (cL rfl rfl rfl aL) ?_))
  exact ah.aS.refl _
theorem adU {x y : hM} (aa : lI x) (ai : lI y) : aH ag 208 [uc x, uc y] (uc (qU x y)) := by
 refine adV (Ir aa ai) ?_;rcases OL x y with ⟨e, h⟩ | ⟨e, h⟩ <;> rw [e]
 ·by_cases h1 : 0 < hy x y
  ·exact .inl ⟨h1, rfl, rfl, rfl⟩
  ·rcases h with h | ⟨h, k⟩
   ·exact absurd h h1
   ·exact .inr (.inl ⟨h1, h, k, rfl, rfl, rfl⟩)
 ·have h1 : ¬ 0 < hy x y := fun k => h (.inl k)
  by_cases h2 : hy x y = 0
  ·refine .inr (.inr (.inl ⟨h1, h2, ?_, rfl, rfl, rfl⟩));cases ai : y.own with
   | false => rfl
   | true => exact absurd (.inr ⟨h2, ai⟩) h
  ·exact .inr (.inr (.inr ⟨h1, h2, rfl, rfl, rfl⟩))
theorem adG {n d m e c : Int} {o q : Bool} {cx dF : Int} {gA : Bool} (aW : aH ag 200 [jY n d o, jY m e q] (aE c)) (cs : (c < 0 ∧ cx = n ∧ dF = d ∧ gA = o) ∨ (¬ c < 0 ∧ c = 0 ∧ q = true ∧ cx = n ∧ dF = d ∧ gA = o) ∨ (¬ c < 0 ∧ c = 0 ∧ q = false ∧ cx = m ∧ dF = e ∧ gA = q) ∨ (¬ c < 0 ∧ ¬ c = 0 ∧ cx = m ∧ dF = e ∧ gA = q)) : aH ag 209 [jY n d o, jY m e q] (jY cx dF gA) := by
 rcases cs with ⟨q1, rfl, rfl, rfl⟩ | ⟨q1, q2, rfl, rfl, rfl, rfl⟩ | ⟨q1, q2, rfl, rfl, rfl, rfl⟩ | ⟨q1, q2, rfl, rfl, rfl⟩
 all_goals
  refine bl (f := 209) Tryz.func209 rfl rfl rfl rfl ?_;(repeat first | refine eA ?_ | refine fi ?_ | (with_reducible apply cg (c := true)); rfl; rfl; (exact bZ (by omega)) | (with_reducible apply cg (c := false)); rfl; rfl; (exact cp (by omega)))
  ((refine bd rfl (cL rfl rfl rfl aL) ?_))
  exact ah.aS.refl _
theorem adF {x y : hM} (aa : lI x) (ai : lI y) : aH ag 209 [uc x, uc y] (uc (qz x y)) := by
 refine adG (Ir aa ai) ?_;rcases L5 x y with ⟨e, h⟩ | ⟨e, h⟩ <;> rw [e]
 ·by_cases h1 : hy x y < 0
  ·exact .inl ⟨h1, rfl, rfl, rfl⟩
  ·rcases h with h | ⟨h, k⟩
   ·exact absurd h h1
   ·exact .inr (.inl ⟨h1, h, k, rfl, rfl, rfl⟩)
 ·have h1 : ¬ hy x y < 0 := fun k => h (.inl k)
  by_cases h2 : hy x y = 0
  ·refine .inr (.inr (.inl ⟨h1, h2, ?_, rfl, rfl, rfl⟩));cases ai : y.own with
   | false => rfl
   | true => exact absurd (.inr ⟨h2, ai⟩) h
  ·exact .inr (.inr (.inr ⟨h1, h2, rfl, rfl, rfl⟩))
abbrev gO (a1 a2 b1 b2 n d : Int) (o : Bool) (m e : Int) (q : Bool) : ah := .w (.agg [.c (.int .i64 a1), .c (.int .i64 a2), .c (.int .i64 b1), .c (.int .i64 b2), .c (.int .i64 n), .c (.int .i64 d), .c (.bool o), .c (.int .i64 m), .c (.int .i64 e), .c (.bool q)])
abbrev En (a1 a2 b1 b2 : Int) (p : Pa) : ah := gO a1 a2 b1 b2 p.f.n p.f.d p.f.own p.t.n p.t.d p.t.own
def xY (p : Pa) : Prop := lI p.f ∧ lI p.t
theorem adT {a1 a2 b1 b2 n d m e u v : Int} {o q w : Bool} {n' d' aG bo : Int} {eV cd : Bool} (hu : -1100000000 ≤ u ∧ u ≤ 1100000000) (hv : -1100000000 ≤ v ∧ v ≤ 1100000000)
  (cs : (0 < v - u ∧ aH ag 208 [jY n d o, jY (-u) (v - u) w] (jY n' d' eV) ∧ aG = m ∧ bo = e ∧ cd = q) ∨ (¬ 0 < v - u ∧ v - u < 0 ∧ aH ag 209 [jY m e q, jY u (-(v - u)) w] (jY aG bo cd) ∧ n' = n ∧ d' = d ∧ eV = o)
   ∨ (¬ 0 < v - u ∧ ¬ v - u < 0 ∧ u < 0 ∧ n' = 1 ∧ d' = 1 ∧ eV = false ∧ aG = 0 ∧ bo = 1 ∧ cd = false) ∨ (¬ 0 < v - u ∧ ¬ v - u < 0 ∧ ¬ u < 0 ∧ u = 0 ∧ w = false ∧ n' = 1 ∧ d' = 1 ∧ eV = false ∧ aG = 0 ∧ bo = 1 ∧ cd = false)
   ∨ (¬ 0 < v - u ∧ ¬ v - u < 0 ∧ ¬ u < 0 ∧ u = 0 ∧ w = true ∧ n' = n ∧ d' = d ∧ eV = o ∧ aG = m ∧ bo = e ∧ cd = q) ∨ (¬ 0 < v - u ∧ ¬ v - u < 0 ∧ ¬ u < 0 ∧ ¬ u = 0 ∧ n' = n ∧ d' = d ∧ eV = o ∧ aG = m ∧ bo = e ∧ cd = q)) :
  aH ag 199 [gO a1 a2 b1 b2 n d o m e q, aE u, aE v, bk w] (gO a1 a2 b1 b2 n' d' eV aG bo cd) := by
 rcases cs with ⟨q1, aW, rfl, rfl, rfl⟩ | ⟨q1, q2, aW, rfl, rfl, rfl⟩ | ⟨q1, q2, bR, rfl, rfl, rfl, rfl, rfl, rfl⟩ | ⟨q1, q2, bR, dD, rfl, rfl, rfl, rfl, rfl, rfl, rfl⟩ | ⟨q1, q2, bR, dD, rfl, rfl, rfl, rfl, rfl, rfl, rfl⟩ | ⟨q1, q2, bR, dD, rfl, rfl, rfl, rfl, rfl, rfl⟩
 ·refine bl (f := 199) Tryz.func199 rfl rfl rfl rfl ?_;(refine cc ?_)
  ((refine bd rfl (cL rfl rfl rfl aL) ?_))
  exact ah.aS.refl _
 ·refine bl (f := 199) Tryz.func199 rfl rfl rfl rfl ?_;(refine cc ?_)
  ((refine bd rfl (cL rfl rfl rfl aL) ?_))
  exact ah.aS.refl _
 all_goals
  refine bl (f := 199) Tryz.func199 rfl rfl rfl rfl ?_;(repeat first | refine eA ?_ | (with_reducible apply cg (c := true)); rfl; rfl; (exact bZ (by omega)) | (with_reducible apply cg (c := false)); rfl; rfl; (exact cp (by omega)))
  ((refine bd rfl (cL rfl rfl rfl aL) ?_))
  exact ah.aS.refl _
theorem aaQ {x y : hM} (aa : lI x) (ai : lI y) : lI (qU x y) := by unfold qU; split <;> assumption
theorem WK {x y : hM} (aa : lI x) (ai : lI y) : lI (qz x y) := by unfold qz; split <;> assumption
theorem C0 {p : Pa} {u v : Int} {w : Bool} (hp : xY p) (hu : -900000000 ≤ u ∧ u ≤ 900000000) (hv : -900000000 ≤ v ∧ v ≤ 900000000) : xY (n6 p u v w) := by
 unfold n6
 by_cases h1 : 0 < v - u
 ·rw [if_pos h1]; exact ⟨aaQ hp.1 ⟨by simp only; omega, by simp only; omega⟩, hp.2⟩
 ·rw [if_neg h1]
  by_cases h2 : v - u < 0
  ·rw [if_pos h2]; exact ⟨hp.1, WK hp.2 ⟨by simp only; omega, by simp only; omega⟩⟩
  ·rw [if_neg h2]
   split
   ·exact ⟨⟨by decide, by decide⟩, ⟨by decide, by decide⟩⟩
   ·exact hp
theorem DG {a1 a2 b1 b2 u v : Int} {w : Bool} {p : Pa} (hp : xY p) (hu : -900000000 ≤ u ∧ u ≤ 900000000) (hv : -900000000 ≤ v ∧ v ≤ 900000000) : aH ag 199 [En a1 a2 b1 b2 p, aE u, aE v, bk w] (En a1 a2 b1 b2 (n6 p u v w)) := by
 refine adT (by omega) (by omega) ?_;unfold n6
 by_cases h1 : 0 < v - u
 ·rw [if_pos h1];exact .inl ⟨h1, adU hp.1 (y := ⟨-u, v - u, w⟩) ⟨by simp only; omega, by simp only; omega⟩, rfl, rfl, rfl⟩
 ·rw [if_neg h1]
  by_cases h2 : v - u < 0
  ·rw [if_pos h2];exact .inr (.inl ⟨h1, h2, adF hp.2 (y := ⟨u, -(v - u), w⟩) ⟨by simp only; omega, by simp only; omega⟩, rfl, rfl, rfl⟩)
  ·rw [if_neg h2]
   by_cases ao : u < 0
   ·rw [if_pos (.inl ao)];exact .inr (.inr (.inl ⟨h1, h2, ao, rfl, rfl, rfl, rfl, rfl, rfl⟩))
   ·by_cases aD : u = 0
    ·cases w with
     | false => rw [if_pos (.inr ⟨aD, rfl⟩)]; exact .inr (.inr (.inr (.inl ⟨h1, h2, ao, aD, rfl, rfl, rfl, rfl, rfl, rfl, rfl⟩)))
     | true => rw [if_neg (by simp [ao])]; exact .inr (.inr (.inr (.inr (.inl ⟨h1, h2, ao, aD, rfl, rfl, rfl, rfl, rfl, rfl, rfl⟩))))
    ·rw [if_neg (by simp [ao, aD])];exact .inr (.inr (.inr (.inr (.inr ⟨h1, h2, ao, aD, rfl, rfl, rfl, rfl, rfl, rfl⟩))))
instance ai8 : JM ag 230 4 false 1 := ⟨by kernel_rfl⟩
abbrev ud (l1 l2 h1 h2 : Int) (o p : Bool) : ah := .w (.agg [.c (.int .i64 l1), .c (.int .i64 l2), .c (.int .i64 h1), .c (.int .i64 h2), .c (.bool o), .c (.bool p)])
def sW (n : Int) : Bool := decide (-536870912 ≤ n) && decide (n ≤ 536870912)
theorem Lt {n : Int} : sW n = true ↔ -536870912 ≤ n ∧ n ≤ 536870912 := by unfold sW; simp
def sY (x y : Int) : Bool := sW x && sW y
theorem Bu {x y : Int} : sY x y = true ↔ (-536870912 ≤ x ∧ x ≤ 536870912) ∧ -536870912 ≤ y ∧ y ≤ 536870912 := by unfold sY; rw [c5, Lt, Lt]
def CV (k : Int) : Bool := decide (0 ≤ k) && decide (k ≤ 2)
theorem adC {a1 a2 b1 b2 l1 l2 h1 h2 n d m e n' d' aG bo : Int} {o p q r cd aV : Bool} (aJ : -134217728 ≤ a1 ∧ a1 ≤ 134217728) (ab : -134217728 ≤ b1 ∧ b1 ≤ 134217728) (ak : -536870912 ≤ l1 ∧ l1 ≤ 536870912)
  (aW : aH ag 199 [gO a1 a2 b1 b2 n d q m e r, aE (2 * a1 - l1), aE (2 * b1 - l1), bk o] (gO a1 a2 b1 b2 n' d' cd aG bo aV)) : aH ag 173 [ud l1 l2 h1 h2 o p, gO a1 a2 b1 b2 n d q m e r] (gO a1 a2 b1 b2 n' d' cd aG bo aV) := by
 refine bl (f := 173) Tryz.func173 rfl rfl rfl rfl ?_;(refine cc ?_)
 ((refine bd rfl (cL rfl rfl rfl aL) ?_))
 exact ah.aS.refl _
theorem adB {a1 a2 b1 b2 l1 l2 h1 h2 n d m e n' d' aG bo : Int} {o p q r cd aV : Bool} (aJ : -134217728 ≤ a2 ∧ a2 ≤ 134217728) (ab : -134217728 ≤ b2 ∧ b2 ≤ 134217728) (ak : -536870912 ≤ l2 ∧ l2 ≤ 536870912)
  (aW : aH ag 199 [gO a1 a2 b1 b2 n d q m e r, aE (2 * a2 - l2), aE (2 * b2 - l2), bk o] (gO a1 a2 b1 b2 n' d' cd aG bo aV)) : aH ag 174 [ud l1 l2 h1 h2 o p, gO a1 a2 b1 b2 n d q m e r] (gO a1 a2 b1 b2 n' d' cd aG bo aV) := by
 refine bl (f := 174) Tryz.func174 rfl rfl rfl rfl ?_;(refine cc ?_)
 ((refine bd rfl (cL rfl rfl rfl aL) ?_))
 exact ah.aS.refl _
theorem adD {a1 a2 b1 b2 l1 l2 h1 h2 n d m e n' d' aG bo : Int} {o p q r cd aV : Bool} (aJ : -134217728 ≤ a1 ∧ a1 ≤ 134217728) (ab : -134217728 ≤ b1 ∧ b1 ≤ 134217728) (ak : -536870912 ≤ h1 ∧ h1 ≤ 536870912)
  (aW : aH ag 199 [gO a1 a2 b1 b2 n d q m e r, aE (h1 - 2 * a1), aE (h1 - 2 * b1), bk p] (gO a1 a2 b1 b2 n' d' cd aG bo aV)) : aH ag 175 [ud l1 l2 h1 h2 o p, gO a1 a2 b1 b2 n d q m e r] (gO a1 a2 b1 b2 n' d' cd aG bo aV) := by
 refine bl (f := 175) Tryz.func175 rfl rfl rfl rfl ?_;(refine cc ?_)
 ((refine bd rfl (cL rfl rfl rfl aL) ?_))
 exact ah.aS.refl _
theorem adA {a1 a2 b1 b2 l1 l2 h1 h2 n d m e n' d' aG bo : Int} {o p q r cd aV : Bool} (aJ : -134217728 ≤ a2 ∧ a2 ≤ 134217728) (ab : -134217728 ≤ b2 ∧ b2 ≤ 134217728) (ak : -536870912 ≤ h2 ∧ h2 ≤ 536870912)
  (aW : aH ag 199 [gO a1 a2 b1 b2 n d q m e r, aE (h2 - 2 * a2), aE (h2 - 2 * b2), bk p] (gO a1 a2 b1 b2 n' d' cd aG bo aV)) : aH ag 176 [ud l1 l2 h1 h2 o p, gO a1 a2 b1 b2 n d q m e r] (gO a1 a2 b1 b2 n' d' cd aG bo aV) := by
 refine bl (f := 176) Tryz.func176 rfl rfl rfl rfl ?_;(refine cc ?_)
 ((refine bd rfl (cL rfl rfl rfl aL) ?_))
 exact ah.aS.refl _
theorem adp {a1 a2 b1 b2 : Int} : aH ag 172 [aZ a1 a2, aZ b1 b2] (En a1 a2 b1 b2 uE) := by
 refine bl (f := 172) Tryz.func172 rfl rfl rfl rfl ?_;(refine eS ?_)
 ((refine bd rfl (cL rfl rfl rfl aL) ?_))
 exact ah.aS.refl _
theorem adO {a1 a2 b1 b2 n d m e c : Int} {o q r : Bool} (aW : aH ag 200 [jY n d o, jY m e q] (aE c)) (cs : (c < 0 ∧ r = true) ∨ (¬ c < 0 ∧ c = 0 ∧ o = true ∧ r = q) ∨ (¬ c < 0 ∧ c = 0 ∧ o = false ∧ r = false) ∨ (¬ c < 0 ∧ ¬ c = 0 ∧ r = false)) : aH ag 177 [gO a1 a2 b1 b2 n d o m e q] (bk r) := by
 rcases cs with ⟨q1, rfl⟩ | ⟨q1, q2, rfl, rfl⟩ | ⟨q1, q2, rfl, rfl⟩ | ⟨q1, q2, rfl⟩
 all_goals
  refine bl (f := 177) Tryz.func177 rfl rfl rfl rfl ?_;(repeat first | refine eA ?_ | refine fi ?_ | (with_reducible apply cg (c := true)); rfl; rfl; (exact bZ (by omega)) | (with_reducible apply cg (c := false)); rfl; rfl; (exact cp (by omega)))
  ((refine bd rfl (a8 rfl aL) ?_))
  exact ah.aS.refl _
theorem adN {a1 a2 b1 b2 : Int} {p : Pa} (hp : xY p) : aH ag 177 [En a1 a2 b1 b2 p] (bk (vY p)) := by
 refine adO (Ir hp.1 hp.2) ?_;unfold vY
 by_cases h1 : hy p.f p.t < 0
 ·exact .inl ⟨h1, by rw [bZ h1]; rfl⟩
 ·rw [cp h1]
  by_cases h2 : hy p.f p.t = 0
  ·rw [bZ h2];cases ao : p.f.own with
   | true => exact .inr (.inl ⟨h1, h2, rfl, rfl⟩)
   | false => exact .inr (.inr (.inl ⟨h1, h2, rfl, rfl⟩))
  ·exact .inr (.inr (.inr ⟨h1, h2, by rw [cp h2]; rfl⟩))
theorem Qm {n : Int} {b : Bool} (ab : sW n = b) : aH ag 198 [aE n] (bk b) := by
 have cs : (-536870912 ≤ n ∧ n ≤ 536870912 ∧ b = true) ∨ (-536870912 ≤ n ∧ ¬ n ≤ 536870912 ∧ b = false) ∨ (¬ -536870912 ≤ n ∧ b = false) := by
  rw [← ab]; unfold sW
  by_cases h1 : -536870912 ≤ n <;> by_cases h2 : n ≤ 536870912 <;> simp [h1, h2]
 clear ab;rcases cs with ⟨h1, h2, rfl⟩ | ⟨h1, h2, rfl⟩ | ⟨h1, rfl⟩
 all_goals
  refine bl (f := 198) Tryz.func198 rfl rfl rfl rfl ?_;(repeat first | refine eA ?_ | (with_reducible apply cg (c := true)); rfl; rfl; (exact bZ (by omega)) | (with_reducible apply cg (c := false)); rfl; rfl; (exact cp (by omega)))
  ((refine bd rfl (a8 rfl aL) ?_))
  first | exact ah.aS.refl _ | exact ah.aS.of_eq (by rw [bZ h2]; rfl) | exact ah.aS.of_eq (by rw [cp h2]; rfl)
theorem DF {x y : Int} {b : Bool} (ab : sY x y = b) : aH ag 170 [aZ x y] (bk b) := by
 have aW := Qm (n := x) rfl;have bH := Qm (n := y) rfl;unfold sY at ab;cases q1 : sW x <;> cases q2 : sW y <;> rw [q1] at aW <;> rw [q2] at bH <;> rw [q1, q2] at ab <;> subst ab <;> clear q1 q2
 all_goals
  refine bl (f := 170) Tryz.func170 rfl rfl rfl rfl ?_;(refine cc ?_)
  ((refine bd rfl (a8 rfl aL) ?_))
  exact ah.aS.refl _
theorem Qp {k : Int} {b : Bool} (ab : CV k = b) : aH ag 171 [aE k] (bk b) := by
 have cs : (k = 0 ∧ b = true) ∨ (¬ k = 0 ∧ k = 1 ∧ b = true) ∨ (¬ k = 0 ∧ ¬ k = 1 ∧ k = 2 ∧ b = true) ∨ (¬ k = 0 ∧ ¬ k = 1 ∧ ¬ k = 2 ∧ b = false) := by
  rw [← ab]; unfold CV
  by_cases h1 : k = 0
  ·exact .inl ⟨h1, by subst h1; rfl⟩
  ·by_cases h2 : k = 1
   ·exact .inr (.inl ⟨h1, h2, by subst h2; rfl⟩)
   ·by_cases ao : k = 2
    ·exact .inr (.inr (.inl ⟨h1, h2, ao, by subst ao; rfl⟩))
    ·refine .inr (.inr (.inr ⟨h1, h2, ao, ?_⟩));rw [Bool.and_eq_false_iff, iE, iE];omega
 clear ab;rcases cs with ⟨h1, rfl⟩ | ⟨h1, h2, rfl⟩ | ⟨h1, h2, ao, rfl⟩ | ⟨h1, h2, ao, rfl⟩
 all_goals
  refine bl (f := 171) Tryz.func171 rfl rfl rfl rfl ?_;(repeat first | refine eA ?_ | (with_reducible apply cg (c := true)); rfl; rfl; (exact bZ (by omega)) | (with_reducible apply cg (c := false)); rfl; rfl; (exact cp (by omega)))
  ((refine bd rfl (a8 rfl aL) ?_))
  first | exact ah.aS.refl _ | exact ah.aS.of_eq (by rw [bZ ao]; rfl) | exact ah.aS.of_eq (by rw [cp ao]; rfl)
theorem ac2 {a1 a2 b1 b2 l1 l2 h1 h2 k : Int} {o p r : Bool} {eJ d1 m1 aF ft d2 m2 aP oR d3 m3 cr qZ d4 m4 ew : Int} {q1 cx q2 dF bR gA dD ma : Bool} (bh : aH ag 123 [aZ a1 a2] (bk true)) (fk : aH ag 123 [aZ b1 b2] (bk true)) (AX : aH ag 170 [aZ l1 l2] (bk true)) (xW : aH ag 170 [aZ h1 h2] (bk true)) (Ty : aH ag 171 [aE k] (bk true))
  (WW : (!decide (k = 2)) = o) (rK : decide (k = 1) = p) (bK : aH ag 172 [aZ a1 a2, aZ b1 b2] (gO a1 a2 b1 b2 0 1 true 1 1 true))
  (aW : aH ag 173 [ud l1 l2 h1 h2 o p, gO a1 a2 b1 b2 0 1 true 1 1 true] (gO a1 a2 b1 b2 eJ d1 q1 m1 aF cx))
  (bH : aH ag 174 [ud l1 l2 h1 h2 o p, gO a1 a2 b1 b2 eJ d1 q1 m1 aF cx] (gO a1 a2 b1 b2 ft d2 q2 m2 aP dF))
  (eF : aH ag 175 [ud l1 l2 h1 h2 o p, gO a1 a2 b1 b2 ft d2 q2 m2 aP dF] (gO a1 a2 b1 b2 oR d3 bR m3 cr gA))
  (la : aH ag 176 [ud l1 l2 h1 h2 o p, gO a1 a2 b1 b2 oR d3 bR m3 cr gA] (gO a1 a2 b1 b2 qZ d4 dD m4 ew ma))
  (H1 : aH ag 177 [gO a1 a2 b1 b2 qZ d4 dD m4 ew ma] (bk r)) :
  aH ag 155 [aZ a1 a2, aZ b1 b2, aZ l1 l2, aZ h1 h2, aE k] (bk r) := by
 subst WW;subst rK;refine bl (f := 155) Tryz.func155 rfl rfl rfl rfl ?_;(refine cc ?_);refine Vr 5 ?_;(refine cc ?_)
 ((refine bd rfl (a8 rfl aL) ?_))
 exact ah.aS.refl _
theorem q0 {n : Int} (az : -9223372036854775808 ≤ n) (h1 : n < 9223372036854775808) : dL 5 n := by unfold dL; omega
def db (a1 a2 b1 b2 l1 l2 h1 h2 k : Int) : Pa := s0 (2 * a1 - l1) (2 * b1 - l1) (2 * a2 - l2) (2 * b2 - l2) (h1 - 2 * a1) (h1 - 2 * b1) (h2 - 2 * a2) (h2 - 2 * b2) (!decide (k = 2)) (decide (k = 1))
def xb (a1 a2 b1 b2 l1 l2 h1 h2 k : Int) : Bool := b7 a1 a2 && b7 b1 b2 && sY l1 l2 && sY h1 h2 && CV k
def xa (a1 a2 b1 b2 l1 l2 h1 h2 k : Int) : Bool := xb a1 a2 b1 b2 l1 l2 h1 h2 k && vY (db a1 a2 b1 b2 l1 l2 h1 h2 k)
theorem ac3 {a1 a2 b1 b2 l1 l2 h1 h2 k : Int} {cx dF gA ma zY : Bool} (bh : aH ag 123 [aZ a1 a2] (bk cx)) (fk : aH ag 123 [aZ b1 b2] (bk dF)) (AX : aH ag 170 [aZ l1 l2] (bk gA)) (xW : aH ag 170 [aZ h1 h2] (bk ma)) (Ty : aH ag 171 [aE k] (bk zY)) (h : (cx && dF && gA && ma && zY) = false) :
  aH ag 155 [aZ a1 a2, aZ b1 b2, aZ l1 l2, aZ h1 h2, aE k] (bk false) := by
 have cs : cx = false ∨ (cx = true ∧ dF = false) ∨ (cx = true ∧ dF = true ∧ gA = false) ∨ (cx = true ∧ dF = true ∧ gA = true ∧ ma = false) ∨ (cx = true ∧ dF = true ∧ gA = true ∧ ma = true ∧ zY = false) := by
  cases cx <;> cases dF <;> cases gA <;> cases ma <;> cases zY <;> simp_all
 clear h;rcases cs with rfl | ⟨rfl, rfl⟩ | ⟨rfl, rfl, rfl⟩ | ⟨rfl, rfl, rfl, rfl⟩ | ⟨rfl, rfl, rfl, rfl, rfl⟩
 all_goals
  refine bl (f := 155) Tryz.func155 rfl rfl rfl rfl ?_;(refine cc ?_)
  ((refine bd rfl (a8 rfl aL) ?_))
  exact ah.aS.refl _
theorem Km : xY uE := ⟨⟨by decide, by decide⟩, ⟨by decide, by decide⟩⟩
theorem ac1 {a1 a2 b1 b2 l1 l2 h1 h2 k : Int} : aH ag 155 [aZ a1 a2, aZ b1 b2, aZ l1 l2, aZ h1 h2, aE k] (bk (xa a1 a2 b1 b2 l1 l2 h1 h2 k)) := by
 unfold xa;cases ap : xb a1 a2 b1 b2 l1 l2 h1 h2 k with
 | false => exact ac3 (oX rfl) (oX rfl) (DF rfl) (DF rfl) (Qp rfl) ap
 | true =>
  rw [l8];unfold xb at ap;simp only [c5] at ap;obtain ⟨⟨⟨⟨ss, su⟩, RC⟩, RB⟩, afi⟩ := ap;have CG := oh.1 ss;have CH := oh.1 su;have N7 := Bu.1 RC;have bI := Bu.1 RB;unfold db s0;have o1 := C0 (u := 2 * a1 - l1) (v := 2 * b1 - l1) (w := !decide (k = 2)) Km (by omega) (by omega);have o2 := C0 (u := 2 * a2 - l2) (v := 2 * b2 - l2) (w := !decide (k = 2)) o1 (by omega) (by omega);have PS := C0 (u := h1 - 2 * a1) (v := h1 - 2 * b1) (w := decide (k = 1)) o2 (by omega) (by omega);have ack := C0 (u := h2 - 2 * a2) (v := h2 - 2 * b2) (w := decide (k = 1)) PS (by omega) (by omega);exact ac2 (oX ss) (oX su) (DF RC) (DF RB) (Qp afi) rfl rfl adp (adC CG.1 CH.1 N7.1 (DG Km (by omega) (by omega))) (adB CG.2 CH.2 N7.2 (DG o1 (by omega) (by omega))) (adD CG.1 CH.1 bI.1 (DG o2 (by omega) (by omega))) (adA CG.2 CH.2 bI.2 (DG PS (by omega) (by omega))) (adN ack)
theorem Qh {a1 a2 b1 b2 x y k : Int} {cx dF : Bool} (sK : aH ag 153 [aE k] (bk cx)) (JG : aH ag 38 [aZ x y, aE k] (bk dF)) (h : (cx && dF) = false) : aH ag 131 [aZ a1 a2, aZ b1 b2, aZ x y, aE k] (bk false) := by
 have cs : cx = false ∨ (cx = true ∧ dF = false) := by cases cx <;> cases dF <;> simp_all
 clear h;rcases cs with rfl | ⟨rfl, rfl⟩
 all_goals
  refine bl (f := 131) Tryz.func131 rfl rfl rfl rfl ?_;(refine cc ?_)
  ((refine bd rfl (a8 rfl aL) ?_))
  exact ah.aS.refl _
theorem acX {a1 a2 b1 b2 x y k l1 l2 h1 h2 : Int} {r : Bool} (sK : aH ag 153 [aE k] (bk true)) (JG : aH ag 38 [aZ x y, aE k] (bk true)) (ahu : aH ag 154 [aZ x y, aE k] (.cn [.agg [.c (.int .i64 l1), .c (.int .i64 l2)], .agg [.c (.int .i64 h1), .c (.int .i64 h2)]])) (M : aH ag 155 [aZ a1 a2, aZ b1 b2, aZ l1 l2, aZ h1 h2, aE 0] (bk r)) : aH ag 131 [aZ a1 a2, aZ b1 b2, aZ x y, aE k] (bk r) := by
 refine bl (f := 131) Tryz.func131 rfl rfl rfl rfl ?_;(refine cc ?_)
 ((refine bd rfl (a8 rfl aL) ?_))
 exact ah.aS.refl _
def wQ (a1 a2 b1 b2 x y k : Int) : Bool := decide (0 ≤ k) && decide (k ≤ 28) && dd k.toNat x y && xa a1 a2 b1 b2 (2 * (2 ^ k.toNat * x) - 2 ^ k.toNat) (2 * (2 ^ k.toNat * y) - 2 ^ k.toNat) (2 * (2 ^ k.toNat * x) + 2 ^ k.toNat) (2 * (2 ^ k.toNat * y) + 2 ^ k.toNat) 0
theorem Z7 {k : Int} (h : (decide (0 ≤ k) && decide (k ≤ 28)) = true) : fQ k k.toNat := by
 simp only [c5, b4] at h;unfold fQ;omega
theorem acW {a1 a2 b1 b2 x y k : Int} : aH ag 131 [aZ a1 a2, aZ b1 b2, aZ x y, aE k] (bk (wQ a1 a2 b1 b2 x y k)) := by
 unfold wQ;have sK := adL (k := k);cases af : (decide (0 ≤ k) && decide (k ≤ 28)) with
 | false =>
  rw [af] at sK;obtain ⟨r, ap⟩ := Oh k;exact Qh sK (zP ap rfl) rfl
 | true =>
  rw [af] at sK;have ap := Z7 af;cases hi : dd k.toNat x y with
  | false => exact Qh sK (zP ap hi) rfl
  | true => exact acX sK (zP ap hi) (adk ap hi) ac1
end Go.Proofs.YtbcecodakfejaaaGreat
namespace Go.Proofs.YtbcecodakfejaaaGreat
def JR (a1 a2 b1 b2 l1 l2 h1 h2 k : Int) : Prop := Met (2 * a1 - l1) (2 * b1 - l1) (2 * a2 - l2) (2 * b2 - l2) (h1 - 2 * a1) (h1 - 2 * b1) (h2 - 2 * a2) (h2 - 2 * b2) (!decide (k = 2)) (decide (k = 1))
theorem HP {a1 a2 b1 b2 l1 l2 h1 h2 k : Int} : xa a1 a2 b1 b2 l1 l2 h1 h2 k = true ↔ xb a1 a2 b1 b2 l1 l2 h1 h2 k = true ∧ JR a1 a2 b1 b2 l1 l2 h1 h2 k := by
 unfold xa db JR;rw [c5, Wd]
theorem abh {a1 a2 b1 b2 l1 l2 h1 h2 k : Int} : xb a1 a2 b1 b2 l1 l2 h1 h2 k = true ↔ b7 a1 a2 = true ∧ b7 b1 b2 = true ∧ sY l1 l2 = true ∧ sY h1 h2 = true ∧ CV k = true := by
 unfold xb;simp only [c5, and_assoc]
end Go.Proofs.YtbcecodakfejaaaGreat
namespace Go.Proofs.YtbcecodakfejaaaGreat
open Go.ChangeShapes Go.WideShapes Go.ChangeAt Go.RowKit Go.Joins
theorem acG : ownKnob ag.godebug = none := by kernel_rfl
def wA (P : Program) : Nat → TypeId → Bool
 | 0, _ => false
 | d + 1, t => match P.underlying t with
  | some .bool | some (.int _) | some .string => true
  | some (.struct bg) => bg.toList.all fun f => wA P d f.type
  | some (.array _ e) => wA P d e
  | _ => false
theorem mapM_flat {α β : Type} {f g : α → Option (β × List MemPlace)} : ∀ (l : List α) (xs : List (β × List MemPlace)), l.mapM f = some xs → (∀ a ∈ l, ∀ x, f a = some x → x.2 = [] ∧ g a = some (x.1, [])) → xs.flatMap (·.2) = [] ∧ l.mapM g = some xs
 | [], xs, h, _ => by cases h; exact ⟨rfl, rfl⟩
 | a :: l, xs, h, af => by
  rw [List.mapM_cons] at h;cases aJ : f a with
  | none => rw [aJ] at h; cases h
  | some b =>
   rw [aJ] at h;cases ak : l.mapM f with
   | none => rw [ak] at h; cases h
   | some bs =>
    rw [ak] at h;cases h;obtain ⟨h1, h2⟩ := af a (by simp) b aJ;obtain ⟨ao, aD⟩ := mapM_flat l bs ak fun a' pH => af a' (by simp [pH]);refine ⟨by simp [h1]; intro a' bS gb; have := List.flatMap_eq_nil_iff.1 ao _ gb; exact this, ?_⟩;rw [List.mapM_cons, h2, aD];obtain ⟨b1, b2⟩ := b;simp only at h1;subst h1;rfl
section
variable {H : Type} {enc : TypeId × Value → H} {P : Program}
theorem MD : ∀ (d : Nat) (t : TypeId), wA P d t = true → ∀ (fa : Nat) (w : World) (base : Nat) (sp : Nat → Bool) (held : Bool) (cs : List Value) (x : DataW H × List MemPlace), DataW.trod enc P w base sp held fa t cs = some x →
  x.2 = [] ∧ ∀ (w' : World) (px : Nat) (p9 : Nat → Bool) (pL : Bool), DataW.trod enc P w' px p9 pL fa t cs = some (x.1, [])
 | 0, _, h, _, _, _, _, _, _, _, _ => by cases h
 | d + 1, t, au, 0, _, _, _, _, _, _, h => by simp [DataW.trod] at h
 | d + 1, t, au, fa + 1, w, base, sp, held, cs, x, h => by
  have bI := fun mP (Zu : wA P d mP = true) => MD d mP Zu fa;rw [DataW.trod_step] at h;simp only [DataW.trod_step];unfold wA at au;unfold DataW.trodStep at h ⊢;cases hu : P.underlying t with
  | none => rw [hu] at au; cases au
  | some D =>
   rw [hu] at au h;cases D with
   | bool =>
    match cs, h with
    | [.bool b], h => cases h; exact ⟨rfl, fun _ _ _ _ => rfl⟩
   | int k =>
    match cs, h with
    | [.int k' n], h =>
     simp only at h ⊢
     split at h
     ·rename_i al; cases h; exact ⟨rfl, fun _ _ _ _ => by rw [if_pos al]⟩
     ·cases h
   | string =>
    match cs, h with
    | [.string s], h =>
     simp only at h ⊢
     split at h
     ·rename_i al; cases h; exact ⟨rfl, fun _ _ _ _ => by rw [if_pos al]⟩
     ·cases h
   | struct bg =>
    simp only at h ⊢ au
    split at h
    ·rename_i al;simp only [Option.map_eq_some_iff] at h;obtain ⟨xs, aa, rfl⟩ := h;have dz := b6.1 au;refine ⟨?_, fun w' px p9 pL => ?_⟩
     ·exact (mapM_flat (g := fun f => DataW.trod enc P w base sp held fa f.type ((cs.drop f.offset).take (P.cellsOf f.type))) _ _ aa fun f mZ y ai => ⟨(bI f.type (dz f mZ) w base sp held _ y ai).1, (bI f.type (dz f mZ) w base sp held _ y ai).2 w base sp held⟩).1
     ·have := mapM_flat (g := fun f => DataW.trod enc P w' px p9 pL fa f.type ((cs.drop f.offset).take (P.cellsOf f.type))) _ _ aa fun f mZ y ai => ⟨(bI f.type (dz f mZ) w base sp held _ y ai).1, (bI f.type (dz f mZ) w base sp held _ y ai).2 w' px p9 pL⟩;rw [if_pos al, this.2];simp only [ha, this.1]
    ·cases h
   | array n e =>
    simp only at h ⊢ au
    split at h
    ·rename_i al;simp only [Option.map_eq_some_iff] at h;obtain ⟨xs, aa, rfl⟩ := h;refine ⟨?_, fun w' px p9 pL => ?_⟩
     ·exact (mapM_flat (g := fun i => DataW.trod enc P w base sp held fa e ((cs.drop (i * P.cellsOf e)).take (P.cellsOf e))) _ _ aa fun f _ y ai => ⟨(bI e au w base sp held _ y ai).1, (bI e au w base sp held _ y ai).2 w base sp held⟩).1
     ·have := mapM_flat (g := fun i => DataW.trod enc P w' px p9 pL fa e ((cs.drop (i * P.cellsOf e)).take (P.cellsOf e))) _ _ aa fun f _ y ai => ⟨(bI e au w base sp held _ y ai).1, (bI e au w base sp held _ y ai).2 w' px p9 pL⟩;rw [if_pos al, this.2];simp only [ha, this.1]
    ·cases h
   | _ => cases au
theorem MB {d : Nat} {t : TypeId} (au : wA P d t = true) {w : World} {base : Nat} {sp : Nat → Bool} {held : Bool} {v : Value} {D : DataW H} {p : List MemPlace} (h : DataW.Trod enc P w base sp held t v D p) :
  p = [] ∧ ∀ (w' : World) (px : Nat) (p9 : Nat → Bool) (pL : Bool), DataW.Trod enc P w' px p9 pL t v D [] := by
 obtain ⟨fa, h⟩ := h;obtain ⟨h1, h2⟩ := MD d t au fa w base sp held _ _ h;exact ⟨h1, fun w' px p9 pL => ⟨fa, h2 w' px p9 pL⟩⟩
end
section
variable {P : Program} {W : World} {r : Reach} {b : Nat} {t : TypeId} {v : Value}
theorem P2 {k : IntKind} (hu : P.underlying t = some (.int k)) (h : Cell.okWide P W r b t v) : ∃ n, v = .int k n ∧ k.min ≤ n ∧ n ≤ k.max := by
 unfold Cell.okWide Cell.ok at h;rw [hu] at h;cases v <;> simp only at h;rename_i k' n;obtain ⟨rfl, h⟩ := h;exact ⟨n, rfl, by simpa [IntKind.has] using h⟩
theorem P3 {D : TypeDesc} (hu : P.underlying t = some D) (hs : ∀ bg, D ≠ .struct bg) (aJ : ∀ n e, D ≠ .array n e) (h : Value.okWide P W r b t v) : Cell.okWide P W r b t v := by
 unfold Value.okWide at h;rw [hu] at h;cases D <;> first | exact h | exact absurd rfl (hs _) | exact absurd rfl (aJ _ _)
end
end Go.Proofs.YtbcecodakfejaaaGreat
