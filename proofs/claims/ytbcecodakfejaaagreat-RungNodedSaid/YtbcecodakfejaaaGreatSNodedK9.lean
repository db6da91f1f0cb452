/-
  My own texts, without what this claim does not need. My own text.
-/
import Derived.Test.YtbcecodakfejaaaGreatProg
import Derived.ProofKit
import Derived.OpenShut
import Derived.Deep.DeepHandedRow
import Derived.Lib.LaidTab
import Derived.Lib.SmallJoins
import Derived.Test.YtbcecodakfejaaaGreatSNodedK8
set_option maxRecDepth 100000
set_option maxHeartbeats 64000000
set_option linter.unusedVariables false
set_option linter.unusedSimpArgs false
set_option linter.unusedSectionVars false
open Go.Proofs.Tryz renaming prog → ag
namespace Go.Proofs.YtbcecodakfejaaaGreat
open Go.RowKit
abbrev BX (n d : Int) : bz := .agg [.c (.int .i64 (cd n)), .c (.int .u64 (dH n)), .c (.int .i64 (cd d)), .c (.int .u64 (dH d))]
abbrev fv (n d : Int) : ah := .w (BX n d)
abbrev fx (n d : Int) : Value := .agg #[.int .i64 (cd n), .int .u64 (dH n), .int .i64 (cd d), .int .u64 (dH d)]
abbrev uo (n : Int) : Value := .agg #[.int .i64 (cd n), .int .u64 (dH n)]
theorem Nu (d : Int) : (d < 0 → b9 d 0 = -1) ∧ (d = 0 → b9 d 0 = 0) ∧ (0 < d → b9 d 0 = 1) := by unfold b9; refine ⟨fun h => ?_, fun h => ?_, fun h => ?_⟩ <;> split <;> (try split) <;> omega
section
set_option maxRecDepth 100000
set_option maxHeartbeats 4000000
theorem PM {k : Int} (aD : -9223372036854775808 ≤ k) (h1 : k < 9223372036854775808) : aC ag 148 [aH k] (fv k 1) := by
 have aT := tX aD h1;have bH := tX (n := 1) (by decide) (by decide);clear aD h1;refine bm (f := 148) Tryz.func148 rfl rfl rfl rfl ?_;(refine bY ?_)
 ((refine bc rfl (cu rfl rfl rfl aN) ?_))
 exact ah.aQ.refl _
theorem acG {n d : Int} (f : fits n = true) (g : fits d = true) (hd : 0 < d) : aC ag 151 [gf n, gf d] (.cr [BX n d, .one (.c (.bool true))]) := by
 have aT := DI g;rw [(Nu d).2.2 hd] at aT;clear f g hd;refine bm (f := 151) Tryz.func151 rfl rfl rfl rfl ?_;(refine bY ?_)
 ((refine bc rfl (cu rfl rfl rfl (bf rfl aN)) ?_))
 exact ah.aQ.refl _
theorem acF {n d : Int} (f : fits n = true) (g : fits d = true) (hd : d < 0) {s : Bool} {x y : Int} (hs : (fits (-n) && fits (-d)) = s) (aa : x = if s then -n else 0) (ai : y = if s then -d else 0) : aC ag 151 [gf n, gf d] (.cr [BX x y, .one (.c (.bool s))]) := by
 have aT := DI g;rw [(Nu d).1 hd] at aT;have bH := Qa f;have et := Qa g;subst hs;clear f g hd;cases h1 : fits (-n) with
 | true =>
  rw [h1] at aa ai;cases h2 : fits (-d) with
  | true =>
   rw [h2] at aa ai;rw [vX h1] at bH;rw [vX h2] at et;obtain rfl : x = -n := aa;obtain rfl : y = -d := ai;clear h1 h2;refine bm (f := 151) Tryz.func151 rfl rfl rfl rfl ?_;(refine bY ?_)
   ((refine bc rfl (cu rfl rfl rfl (bf rfl aN)) ?_))
   exact ah.aQ.refl _
  | false =>
   rw [h2] at aa ai;rw [vX h1] at bH;rw [R3 h2] at et;obtain rfl : x = 0 := aa;obtain rfl : y = 0 := ai;clear h1 h2;refine bm (f := 151) Tryz.func151 rfl rfl rfl rfl ?_;(refine bY ?_)
   ((refine bc rfl (cu rfl rfl rfl (bf rfl aN)) ?_))
   exact ah.aQ.refl _
 | false =>
  rw [h1] at aa ai;rw [R3 h1] at bH;obtain rfl : x = 0 := aa;obtain rfl : y = 0 := ai;obtain ⟨z, b, e⟩ : ∃ z b, wf (-d) = .cr [mH z, .one (.c (.bool b))] := ⟨_, _, rfl⟩;rw [e] at et;clear h1 e;refine bm (f := 151) Tryz.func151 rfl rfl rfl rfl ?_;(refine bY ?_)
  ((refine bc rfl (cu rfl rfl rfl (bf rfl aN)) ?_))
  exact ah.aQ.refl _
theorem PJ {n d : Int} (g : fits d = true) : aC ag 185 [fv n d] (bk (decide (0 < d))) := by
 have aT := DI g;rw [← Zq d];generalize b9 d 0 = c at *;clear g;refine bm (f := 185) Tryz.func185 rfl rfl rfl rfl ?_;(refine bY ?_)
 ((refine bc rfl (bf rfl aN) ?_))
 exact ah.aQ.refl _
theorem acA {n d : Int} (f : fits n = true) (g : fits d = true) (hd : 0 < d) : aC ag 188 [fv n d] (gf (n / d)) := by
 have aT := PG f g hd;clear f g hd;refine bm (f := 188) Tryz.func188 rfl rfl rfl rfl ?_;(refine bY ?_)
 ((refine bc rfl (cu rfl rfl rfl aN) ?_))
 exact ah.aQ.refl _
theorem FJ {n d : Int} (f : fits n = true) (hd : 0 < d) : fits (n / d) = true := by
 have nS := jL.1 f;refine jL.2 ?_
 by_cases ax : 0 ≤ n
 ·have := nG ax (show 0 ≤ d by omega);have := Int.ediv_le_self d ax;omega
 ·have fh : n * d ≤ n * 1 := Int.mul_le_mul_of_nonpos_left (show n ≤ 0 by omega) (show 1 ≤ d by omega);have := (ob (a := n) (b := n) hd).2 (by omega);have := Int.ediv_lt_of_lt_mul (a := n) (b := 0) hd (by omega);omega
theorem L6 {n d : Int} (ax : fits n = true) (hd : 0 < d) (yX : fits d = true) : fits (ny n d) = true := by
 unfold ny
 split
 ·exact FJ ax hd
 ·exact (OX ax hd yX).2 (by omega)
theorem WC {n d : Int} {k : Nat} (ax : fits n = true) (hd : 0 < d) (yX : fits d = true) (af : k ≤ 100) : fits (lI n d k) = true := by
 unfold lI
 split
 ·exact L6 ax hd yX
 ·exact L6 (FJ ax hd) (hO (by decide)) (Qk af)
theorem adm {n d : Int} {k : Nat} (f : fits n = true) (g : fits d = true) (hd : 0 < d) (af : k ≤ 100) : aC ag 161 [fv n d, aH k] (.cr [mH (lI n d k), .one (.c (.bool true))]) := by
 have aT := PJ (n := n) g;rw [cw hd] at aT;unfold lI
 by_cases aD : k = 0
 ·subst aD;have bH := PZ f g hd;rw [if_pos rfl];clear f g hd;refine bm (f := 161) Tryz.func161 rfl rfl rfl rfl ?_;(refine bY ?_)
  ((refine bc rfl (cu rfl rfl rfl (bf rfl aN)) ?_))
  exact ah.aQ.refl _
 ·rw [if_neg aD];have hp := Qk af;have bH := tX (n := 1) (by decide) (by decide);have et := adX (n := 1) (k := (k : Int)) (by decide) (by omega) (by omega);rw [Int.one_mul, kK, vX hp] at et;have ld := acA f g hd;have qh := PZ (FJ f hd) hp (hO (by decide));have h1 : ¬ (k : Int) = 0 := by omega
  have h2 : ¬ (k : Int) < 0 := by omega
  have an : ¬ (k : Int) > 100 := by omega
  clear f g hd hp;refine bm (f := 161) Tryz.func161 rfl rfl rfl rfl ?_;(refine bY ?_)
  ((refine bc rfl (cu rfl rfl rfl (bf rfl aN)) ?_))
  exact ah.aQ.refl _
theorem adn {n d k : Int} (f : fits n = true) (g : fits d = true) (mE : ¬ (0 < d) ∨ (k < 0 ∨ 100 < k)) : aC ag 161 [fv n d, aH k] (.cr [.agg [.c (.int .i64 0), .c (.int .u64 0)], .one (.c (.bool false))]) := by
 have aT := PJ (n := n) g
 by_cases hd : 0 < d
 ·rw [cw hd] at aT;have h1 : k < 0 ∨ (¬ k < 0 ∧ k > 100) := by omega
  clear f g mE hd;rcases h1 with h1 | ⟨h1, h2⟩
  ·refine bm (f := 161) Tryz.func161 rfl rfl rfl rfl ?_;(repeat first | refine ez ?_ | refine jB ?_ | (with_reducible apply cW (c := true)); rfl; rfl; (exact cw (by omega)))
   ((refine bc rfl (cu rfl rfl rfl (bf rfl aN)) ?_))
   exact ah.aQ.refl _
  ·refine bm (f := 161) Tryz.func161 rfl rfl rfl rfl ?_;(repeat first | refine ez ?_ | refine jB ?_ | (with_reducible apply cW (c := false)); rfl; rfl; (exact c3 (by omega)))
   ((refine bc rfl (cu rfl rfl rfl (bf rfl aN)) ?_))
   exact ah.aQ.refl _
 ·rw [c3 hd] at aT;clear f g mE hd;refine bm (f := 161) Tryz.func161 rfl rfl rfl rfl ?_;(refine bY ?_)
  ((refine bc rfl (cu rfl rfl rfl (bf rfl aN)) ?_))
  exact ah.aQ.refl _
end
abbrev aeW (n d : Int) : bz := .agg [.c (.bool (decide (n < 0))), .p (sX n), .c (.bool (decide (d < 0))), .p (sX d)]
abbrev oc (n d : Int) : ah := .w (aeW n d)
theorem OW {n d : Int} (hd : 0 < d) : ny n d = (n + n + d) / (d * 2) := by
 have h1 := pZ n d;have h2 := n9 n (show d ≠ 0 by omega);have an := nF n hd;unfold ny;generalize n / d = q at *;generalize n % d = r at *;have e : n + n + d = (r + r + d) + q * (d * 2) := by rw [← h1, hA q (d * 2), kv, Int.mul_left_comm d 2 q]; omega
 rw [e, Int.add_mul_ediv_right _ _ (by omega)]
 split
 ·rw [Int.ediv_eq_zero_of_lt (by omega) (by omega)]; omega
 ·have : (r + r + d) / (d * 2) = 1 := by
   rw [show r + r + d = (r + r - d) + 1 * (d * 2) by omega, Int.add_mul_ediv_right _ _ (by omega), Int.ediv_eq_zero_of_lt (by omega) (by omega)];omega
  rw [this]; omega
theorem agh {n d : Int} (k : Nat) (hd : 0 < d) : (n + n + d * 2 ^ k) / (d * 2 ^ (k + 1)) = lI n d k := by
 unfold lI;rcases k with _ | k
 ·rw [if_pos rfl, OW hd];simp
 ·rw [if_neg (by omega), OW (hO (by decide))];have hp : (0 : Int) < 2 ^ k := hO (by decide);rw [oa 2 (k + 1), oa 2 k];generalize (2 : Int) ^ k = Q at *
  have aF : (n + n + d * (Q * 2)) / (d * (Q * 2 * 2)) = (n + d * Q) / (d * (Q * 2)) := by
   rw [show n + n + d * (Q * 2) = 2 * (n + d * Q) by rw [hA Q 2, Int.mul_left_comm]; omega, show d * (Q * 2 * 2) = 2 * (d * (Q * 2)) by rw [hA (Q * 2) 2, Int.mul_left_comm], Int.mul_ediv_mul_of_pos _ _ (by decide)]
  have aM : (n / d + n / d + Q * 2) / (Q * 2 * 2) = (n / d + Q) / (Q * 2) := by
   rw [show n / d + n / d + Q * 2 = 2 * (n / d + Q) by omega, hA (Q * 2) 2, Int.mul_ediv_mul_of_pos _ _ (by decide)]
  rw [aF, aM, ← xG (by omega), hA d Q, Int.add_mul_ediv_right _ _ (by omega)]
def gB (k : Int) (r : Nat) : Prop := r ≤ 28 ∧ ((k < 0 ∧ r = 0) ∨ (28 < k ∧ r = 28) ∨ (r : Int) = k)
theorem ZH (k : Int) : ∃ r, gB k r := by
 by_cases h : k < 0
 ·exact ⟨0, by omega, .inl ⟨h, rfl⟩⟩
 ·by_cases aO : 28 < k
  ·exact ⟨28, by omega, .inr (.inl ⟨aO, rfl⟩)⟩
  ·exact ⟨k.toNat, by omega, .inr (.inr (by omega))⟩
theorem vN {a b : Int} {w w' : World} (e : a = b) (h : Below w.heap.size w w') : kQ (.int .i64 b) w (.returned (.int .i64 a)) w' := ⟨by rw [e], h⟩
theorem xL {a b : Bool} {w w' : World} (e : a = b) (h : Below w.heap.size w w') : kQ (.bool b) w (.returned (.bool a)) w' := ⟨by rw [e], h⟩
theorem zU (k : Int) (r : Nat) (w : World) (h : gB k r) : Calls ag 75 #[.int .i64 k] w (kQ (.int .i64 r) w) := by
 have mn := Lib.hid h;clear h
 go_enter Tryz.func75, Tryz.ntmps75
 go_wp2
 all_goals
  go_ret
  refine vN ?_ (Below.refl _ _);have h1 := mn.out;unfold gB at h1;omega
theorem R6 (n : Int) (h : -9223372036854775808 ≤ n ∧ n ≤ 9223372036854775807) : wrap64 n = n := by unfold wrap64; omega
theorem DK {r : Nat} (h : r ≤ 28) : (1 : Int) ≤ 2 ^ r ∧ (2 : Int) ^ r ≤ 268435456 := by
 have h1 := Nat.pow_le_pow_right (show 0 < 2 by decide) h;have h2 := Nat.pow_pos (show 0 < 2 by decide) (n := r);have e : ((2 : Int) ^ r) = ((2 ^ r : Nat) : Int) := by simp
 rw [show (2 : Nat) ^ 28 = 268435456 by decide] at h1;rw [e];omega
def cC (v : Int) (r : Nat) : Int := (2 * v + 2 ^ r) / (2 * 2 ^ r)
theorem WY (v : Int) : cC v 0 = v := by unfold cC; omega
theorem WX (v : Int) (r : Nat) : cC v (r + 1) = v / 2 ^ (r + 1) + v / 2 ^ r % 2 := by
 unfold cC;have hp : (0 : Int) < 2 ^ r := hO (by decide);rw [oa];generalize (2 : Int) ^ r = P at *
 have aF : (2 * v + P * 2) / (2 * (P * 2)) = (v + P) / (P * 2) := by
  rw [show 2 * v + P * 2 = 2 * (v + P) by omega, Int.mul_ediv_mul_of_pos _ _ (by decide)]
 rw [aF, ← xG (by omega), ← xG (by omega), show v + P = v + 1 * P by omega, Int.add_mul_ediv_right _ _ (by omega)];omega
theorem UO (x : Int) : bits BinOp.and IntKind.i64 x 1 = x % 2 := by
 unfold bits
 have h : (BitVec.ofInt 64 x &&& BitVec.ofInt 64 1).toNat = (x % 2).toNat := by
  rw [BitVec.toNat_and, BitVec.toNat_ofInt, BitVec.toNat_ofInt, show ((1 : Int) % ((2 ^ 64 : Nat) : Int)).toNat = 1 by decide, Nat.and_one_is_mod];omega
 show IntKind.i64.wrap ((BitVec.ofInt 64 x &&& BitVec.ofInt 64 1).toNat : Int) = x % 2;rw [h];have h2 : ((x % 2).toNat : Int) = x % 2 := by omega
 rw [h2];rcases (show x % 2 = 0 ∨ x % 2 = 1 by omega) with e | e <;> rw [e] <;> decide
theorem agi {v : Int} (r : Nat) (v0 : -9223372036854775808 ≤ v) (v1 : v < 9223372036854775808) : wrap64 (v / 2 ^ (r + 1) + v / 2 ^ r % 2) = cC v (r + 1) := by
 rw [WX];refine R6 _ ?_;have hp : (0 : Int) < 2 ^ r := hO (by decide);rw [oa, ← xG (by omega)]
 have h1 : -9223372036854775808 ≤ v / 2 ^ r := by
  rw [ob hp];have := pY (show (1 : Int) ≤ 2 ^ r by omega) (show (0 : Int) ≤ 9223372036854775808 by omega);omega
 have h2 : v / 2 ^ r ≤ 9223372036854775807 := by
  by_cases h : 0 ≤ v
  ·have := Int.ediv_le_self (2 ^ r) h;omega
  ·have := Int.ediv_neg_of_neg_of_pos (show v < 0 by omega) hp;omega
 generalize v / 2 ^ r = q at *;omega
theorem WR (v k : Int) (w : World) (h : gB k 0) : Calls ag 41 #[.int .i64 v, .int .i64 k] w (kQ (.int .i64 v) w) := by
 have mn := Lib.hid (fun w => zU k 0 w h);clear h
 go_enter Tryz.func41, Tryz.ntmps41
 go_wp2_with (go_at_call 75; ((with_reducible refine (mn.out _).mono ?_); rintro e w1 ⟨rfl, ab⟩))
 go_ret
 exact vN rfl (by (repeat first | with_reducible assumption))
theorem WQ (v k : Int) (r : Nat) (w : World) (h : gB k (r + 1)) (v0 : -9223372036854775808 ≤ v) (v1 : v < 9223372036854775808) : Calls ag 41 #[.int .i64 v, .int .i64 k] w (kQ (.int .i64 (cC v (r + 1))) w) := by
 have mn := Lib.hid (fun w => zU k (r + 1) w h);have wb := Lib.hid (agi r v0 v1);have ap : r < 28 := by unfold gB at h; omega
 clear h v0 v1
 go_enter Tryz.func41, Tryz.ntmps41
 go_wp2_with (go_at_call 75; ((with_reducible refine (mn.out _).mono ?_); rintro e w1 ⟨rfl, ab⟩))
 go_region
 go_wp2
 go_ret
 exact vN (by rw [UO]; exact wb.out) (by (repeat first | with_reducible assumption | with_reducible refine Below.drew ?_))
theorem WO (v k : Int) (r : Nat) (w : World) (h : gB k r) (v0 : -9223372036854775808 ≤ v) (v1 : v < 9223372036854775808) : Calls ag 41 #[.int .i64 v, .int .i64 k] w (kQ (.int .i64 (cC v r)) w) := by
 rcases r with _ | r
 ·rw [WY]; exact WR v k w h
 ·exact WQ v k r w h v0 v1
theorem ahc {r : Nat} (h : r ≤ 28) : wrap64 (2 ^ r) = 2 ^ r := R6 _ (by have := DK h; omega)
theorem af4 (k : Int) (r : Nat) (w : World) (h : gB k r) : Calls ag 39 #[.int .i64 k] w (kQ (.int .i64 (2 ^ r)) w) := by
 have mn := Lib.hid (fun w => zU k r w h);have ap : r ≤ 28 := h.1;clear h
 go_enter Tryz.func39, Tryz.ntmps39
 go_wp2_with (go_at_call 75; ((with_reducible refine (mn.out _).mono ?_); rintro e w1 ⟨rfl, ab⟩))
 go_ret
 exact vN (ahc ap) (by (repeat first | with_reducible assumption))
def Ta (m : Int) (w : World) (e : Ending) (w' : World) : Prop := ∃ b, e = .returned (.func (Fn.func 114) #[] #[.pointer (some ⟨b, 0, none⟩)]) ∧ w'.cell? ⟨b, 0, none⟩ = some (.int .i64 m) ∧ Below w.heap.size w w'
theorem O8 (k : Int) (r : Nat) (w : World) (h : gB k r) : Calls ag 74 #[.int .i64 k] w (Ta (134217728 / 2 ^ r) w) := by
 have mn := Lib.hid (fun w => zU k r w h);have ap : r ≤ 28 := h.1;clear h
 go_enter Tryz.func74, Tryz.ntmps74
 go_wp2_with (go_at_call 75; ((with_reducible refine (mn.out _).mono ?_); rintro e w1 ⟨rfl, ab⟩))
 go_ret
 exact ⟨_, rfl, by go_simp, by (repeat first | with_reducible assumption | with_reducible refine dV ?_ _)⟩
def wi (m n : Int) : Bool := decide (-m ≤ n) && decide (n ≤ m)
theorem De (b : Nat) (m n : Int) (w : World) (aj : w.cell? ⟨b, 0, none⟩ = some (.int .i64 m)) (m0 : 0 ≤ m) (m1 : m ≤ 134217728) : Calls ag 114 #[.int .i64 n, .pointer (some ⟨b, 0, none⟩)] w (kQ (.bool (wi m n)) w) := by
 go_enter Tryz.func114, Tryz.ntmps114
 go_wp2
 ·go_ret
  exact xL (by unfold wi; rw [cw (show -m ≤ n by assumption)]; rfl) (Below.refl _ _)
 ·go_ret
  exact xL (by unfold wi; rw [c3 (show ¬ (-m ≤ n) by omega)]; rfl) (Below.refl _ _)
def eM (r : Nat) (x y : Int) : Bool := wi (134217728 / 2 ^ r) x && wi (134217728 / 2 ^ r) y
theorem FH (r : Nat) : (0 : Int) ≤ 134217728 / 2 ^ r ∧ (134217728 : Int) / 2 ^ r ≤ 134217728 := by
 have hp : (0 : Int) < 2 ^ r := hO (by decide);exact ⟨nG (by decide) (by omega), Int.ediv_le_self _ (by decide)⟩
theorem R4 (r : Nat) (n : Int) : wi (134217728 / 2 ^ r) n = decide (-134217728 ≤ 2 ^ r * n ∧ 2 ^ r * n ≤ 134217728) := by
 have hp : (0 : Int) < 2 ^ r := hO (by decide);unfold wi;rw [lD, dc, cq, cq, cq, hA];generalize (2 : Int) ^ r = P at *;have h1 := ob (a := n) (b := 134217728) hp;have h2 := ob (a := -n) (b := 134217728) hp;rw [Int.neg_mul] at h2
 constructor
 ·intro ⟨q1, q2⟩;exact ⟨by have := h2.1 (by omega); omega, h1.1 q2⟩
 ·intro ⟨q1, q2⟩;exact ⟨by have := h2.2 (by omega); omega, h1.2 q2⟩
theorem zz (r : Nat) (x y : Int) : eM r x y = true ↔ (-134217728 ≤ 2 ^ r * x ∧ 2 ^ r * x ≤ 134217728) ∧ (-134217728 ≤ 2 ^ r * y ∧ 2 ^ r * y ≤ 134217728) := by
 unfold eM;rw [R4, R4, dc, cq, cq]
theorem SM (x y k : Int) (r : Nat) (w : World) (h : gB k r) : Calls ag 38 #[.agg #[.int .i64 x, .int .i64 y], .int .i64 k] w (kQ (.bool (eM r x y)) w) := by
 have mn := Lib.hid (fun w => O8 k r w h);obtain ⟨m0, m1⟩ := FH r;have Jr := Lib.hid (show eM r x y = (wi (134217728 / 2 ^ r) x && wi (134217728 / 2 ^ r) y) from rfl);clear h;generalize (134217728 : Int) / 2 ^ r = M at *;have x7 := Lib.hid m0;have x8 := Lib.hid m1;clear m0 m1
 go_enter Tryz.func38, Tryz.ntmps38
 go_wp2_with (first
  | (go_at_call 74; ((with_reducible refine (mn.out _).mono ?_); rintro e w1 ⟨b, rfl, aj, ab⟩; have Se : dd w1 (w.heap.size) (.int .i64 x) (.int .i64 y) := (by (repeat first | focus ((with_reducible refine dd.new ?_); simp; done) | with_reducible refine dd.call ?_ ab)); obtain ⟨⟨ahE, ahP⟩, ah0, ah4⟩ := id Se))
  | (go_at_call 114; ((with_reducible refine (De b M x _ aj x7.out x8.out).mono ?_); rintro e w2 ⟨rfl, dy⟩; have gE := (dy.cell (p := ⟨b, 0, none⟩) (World.block_lt_of_cell? _ _ aj)).trans aj; clear aj; have Sf : dd w2 (w.heap.size) (.int .i64 x) (.int .i64 y) := (by (repeat first | with_reducible assumption | with_reducible refine dd.call ?_ dy)); obtain ⟨⟨ahF, ahQ⟩, ah1, ah5⟩ := id Sf))
  | (go_at_call 114; ((with_reducible refine (De b M y _ gE x7.out x8.out).mono ?_); rintro e w3 ⟨rfl, Gf⟩)))
 ·go_ret
  exact xL (by rw [Jr.out]; simp_all) (by (repeat first | with_reducible exact Below.refl _ _ | with_reducible refine dV ?_ _ | with_reducible refine fa ?_ Gf | with_reducible refine fa ?_ dy | with_reducible refine fa ?_ ab))
 ·go_ret
  exact xL (by rw [Jr.out]; simp_all) (by (repeat first | with_reducible exact Below.refl _ _ | with_reducible refine dV ?_ _ | with_reducible refine fa ?_ dy | with_reducible refine fa ?_ ab))
theorem WN (k : Int) (w : World) : Calls ag 153 #[.int .i64 k] w (kQ (.bool (decide (0 ≤ k) && decide (k ≤ 28))) w) := by
 go_enter Tryz.func153, Tryz.ntmps153
 go_wp2
 ·go_ret
  exact xL (by rw [cw (show 0 ≤ k by assumption)]; rfl) (Below.refl _ _)
 ·go_ret
  exact xL (by rw [c3 (show ¬ (0 ≤ k) by omega)]; rfl) (Below.refl _ _)
theorem Ey (n m : Int) (w : World) : Calls ag 201 #[.int .i64 n, .int .i64 m] w (kQ (.int .i64 (b9 n m)) w) := by
 go_enter Tryz.func201, Tryz.ntmps201
 go_wp2
 all_goals
  go_ret
  refine vN ?_ (Below.refl _ _);unfold b9
  repeat' split
  all_goals omega
def ma (x y x' y' : Int) : Int := if x = x' then b9 y y' else b9 x x'
theorem WM (x y x' y' : Int) (w : World) : Calls ag 182 #[.agg #[.int .i64 x, .int .i64 y], .agg #[.int .i64 x', .int .i64 y']] w (kQ (.int .i64 (ma x y x' y')) w) := by
 have aT := Lib.hid (fun w => Ey x x' w);have bH := Lib.hid (fun w => Ey y y' w);have ot : Hid (x = x' → b9 y y' = ma x y x' y') := fun h => by unfold ma; rw [if_pos h]
 have li : Hid (¬ (x = x') → b9 x x' = ma x y x' y') := fun h => by unfold ma; rw [if_neg h]
 go_enter Tryz.func182, Tryz.ntmps182
 go_wp2_with (first
  | (go_at_call 201; ((with_reducible refine (aT.out _).mono ?_); rintro e w1 ⟨rfl, ab⟩))
  | (go_at_call 201; ((with_reducible refine (bH.out _).mono ?_); rintro e w1 ⟨rfl, ab⟩)))
 ·go_ret
  exact vN (li.out (by simpa using ‹(x != x') = true›)) (by (repeat first | with_reducible exact Below.refl _ _ | with_reducible refine dV ?_ _ | with_reducible refine fa ?_ ab))
 ·go_ret
  exact vN (ot.out (by simpa using ‹(x != x') = false›)) (by (repeat first | with_reducible exact Below.refl _ _ | with_reducible refine dV ?_ _ | with_reducible refine fa ?_ ab))
end Go.Proofs.YtbcecodakfejaaaGreat
namespace Go.Proofs.YtbcecodakfejaaaGreat
open Go.RowKit
attribute [local go_sem ↓] Go.wp_at_zero Go.wp_at_succ
end Go.Proofs.YtbcecodakfejaaaGreat
namespace Go.Proofs.YtbcecodakfejaaaGreat
open Go.RowKit
attribute [local go_sem ↓] Go.wp_at_zero Go.wp_at_succ
def JH (s : Bool) (z : Int) (w : World) (e : Ending) (w' : World) : Prop := ∃ H L, e = .returned (.tuple #[.agg #[.int .i64 H, .int .u64 L], .bool s]) ∧ cP H L z ∧ Below w.heap.size w w'
def Bh (v : Int) (b : Bool) (w : World) (e : Ending) (w' : World) : Prop := e = .returned (.tuple #[.int .i64 v, .bool b]) ∧ Below w.heap.size w w'
def Tj (w : World) (s : Bool) (z : Int) (u v : Value) (W : World) : Prop := ∃ g oC kA, u = .pointer (some ⟨g, 0, none⟩) ∧ v = .bool s ∧ cP oC kA z ∧ dd W g (.int .i64 oC) (.int .u64 kA) ∧ Below w.heap.size w W
theorem IQ (aJ qO aO cb k : Int) (r : Nat) (s : Bool) (z v : Int) (b : Bool) (w : World) (h : gB k r)
  (Jq : ∀ w, Calls ag 161 #[.agg #[.int .i64 aJ, .int .u64 qO, .int .i64 aO, .int .u64 cb], .int .i64 r] w (JH s z w))
  (hv : (s = false ∧ v = 0 ∧ b = false) ∨ (s = true ∧ small z = false ∧ v = 0 ∧ b = false) ∨ (s = true ∧ small z = true ∧ wi (134217728 / 2 ^ r) z = false ∧ v = 0 ∧ b = false) ∨ (s = true ∧ small z = true ∧ wi (134217728 / 2 ^ r) z = true ∧ v = z ∧ b = true)) :
  Calls ag 143 #[.agg #[.int .i64 aJ, .int .u64 qO, .int .i64 aO, .int .u64 cb], .int .i64 k] w (Bh v b w) := by
 have Jp := Lib.hid (fun w => zU k r w h);have EB := Lib.hid (fun w => O8 k r w h);have wb := Lib.hid Jq;obtain ⟨m0, m1⟩ := FH r;clear h Jq;generalize (134217728 : Int) / 2 ^ r = M at *;have x7 := Lib.hid m0;have x8 := Lib.hid m1;have pg := Lib.hid hv;clear m0 m1 hv
 go_enter Tryz.func143, Tryz.ntmps143
 go_upto_region 1 with fail
 have fu : hE (w.alloc (.cells #[.int .i64 aJ, .int .u64 qO, .int .i64 aO, .int .u64 cb] 148)) w.heap.size (.int .i64 aJ) (.int .u64 qO) (.int .i64 aO) (.int .u64 cb) := (by (repeat first | focus ((with_reducible refine hE.new ?_); simp; done)));have Fj : Below w.heap.size w (w.alloc (.cells #[.int .i64 aJ, .int .u64 qO, .int .i64 aO, .int .u64 cb] 148)) := (by (repeat first | with_reducible exact Below.refl _ _ | with_reducible refine dV ?_ _))
 go_cut [6, 7] (fun u v uo => Tj w s z u v uo)
 case first =>
  clear pg EB
  go_region_held3 (fun w' => w'.cell? ⟨w.heap.size, 0, none⟩ = some (.int .i64 aJ) ∧ w'.cell? ⟨w.heap.size, 1, none⟩ = some (.int .u64 qO) ∧ w'.cell? ⟨w.heap.size, 2, none⟩ = some (.int .i64 aO) ∧ w'.cell? ⟨w.heap.size, 3, none⟩ = some (.int .u64 cb))
   (((refine hE.cs ?_); ((repeat first | with_reducible assumption | with_reducible refine hE.alloc ?_ _ | with_reducible refine hE.drew ?_ | focus ((with_reducible refine hE.set ?_ _ ?_); rotate_left; omega) | with_reducible refine hE.call ?_ dy | with_reducible refine hE.call ?_ dA); done)))
   (first
    | (go_at_call 75; ((with_reducible refine (Jp.out _).mono ?_); rintro e w1 ⟨rfl, dA⟩; have Zf := Below.size dA; (try simp at Zf)))
    | (go_at_call 161; ((with_reducible refine (wb.out _).mono ?_); rintro e w2 ⟨agW, agX, rfl, hu, dy⟩; have Hc := Below.size dy; (try simp at Hc); (try ((refine Lg (p := dd w2 (w.heap.size + 1) (.int .i64 0) (.int .u64 0)) ?_ ?_); (repeat first | focus ((with_reducible refine dd.new ?_); simp; done) | with_reducible refine dd.alloc ?_ _ | with_reducible refine dd.drew ?_ | with_reducible refine dd.call ?_ dy | with_reducible refine dd.call ?_ dA); intro AS; obtain ⟨⟨ahG, ahR⟩, ah2, ah6⟩ := id AS; have aiW := dd.lt AS; have ai2 := Nat.ne_of_gt (dd.lt AS); have ai0 := Nat.ne_of_lt (dd.lt AS))); (try ((refine Lg (p := dd w2 (w1.heap.size) (.int .i64 0) (.int .u64 0)) ?_ ?_); (repeat first | focus ((with_reducible refine dd.new ?_); simp; done) | with_reducible refine dd.alloc ?_ _ | with_reducible refine dd.drew ?_ | with_reducible refine dd.call ?_ dy | with_reducible refine dd.call ?_ dA); intro AU; obtain ⟨⟨ahH, ahS⟩, ah3, ah7⟩ := id AU; have aiX := dd.lt AU; have ai3 := Nat.ne_of_gt (dd.lt AU); have ai1 := Nat.ne_of_lt (dd.lt AU))))))
  all_goals
   go_wp2_with fail
   go_meet
   refine ⟨_, agW, agX, rfl, rfl, hu, ?_, ?_⟩
   ·(repeat first | focus ((with_reducible refine dd.new ?_); simp; done) | with_reducible refine dd.put ?_ | focus ((with_reducible apply we.of); with_reducible assumption))
   ·(repeat first | with_reducible assumption | with_reducible refine dV ?_ _ | focus ((with_reducible refine iR ?_ _ _ _ ?_); rotate_left; omega) | with_reducible refine Below.drew ?_ | with_reducible refine fa ?_ dy | with_reducible refine fa ?_ dA)
 case rest =>
  obtain ⟨g, oC, kA, rfl, rfl, aq, u0, hV⟩ := hcut;clear fu Fj wb Jp;obtain ⟨⟨R7, ct⟩, cz, h4⟩ := id u0;rcases pg.out with ⟨rfl, rfl, rfl⟩ | ⟨rfl, q, rfl, rfl⟩ | ⟨rfl, q, bX, rfl, rfl⟩ | ⟨rfl, q, bX, rfl, rfl⟩
  ·clear pg
   go_wp2
   go_ret2
   exact ⟨rfl, by (repeat first | with_reducible assumption)⟩
  ·have x4 : Hid (∀ w, Calls ag 162 #[.agg #[.int .i64 oC, .int .u64 kA]] w (Bh 0 false w)) := fun w => (EX oC kA z w aq).mono fun e w' k => by unfold wo at k; rw [q] at k; exact k
   clear pg q
   go_wp2_with (first
    | (go_at_call 162; ((with_reducible refine (x4.out _).mono ?_); rintro e AJ ⟨rfl, u4⟩)))
   go_ret2
   exact ⟨rfl, by (repeat first | with_reducible assumption | with_reducible refine fa ?_ u4)⟩
  ·have x4 : Hid (∀ w, Calls ag 162 #[.agg #[.int .i64 oC, .int .u64 kA]] w (Bh z true w)) := fun w => (EX oC kA z w aq).mono fun e w' k => by unfold wo at k; rw [q] at k; exact k
   have ux : Hid (∀ b w, w.cell? ⟨b, 0, none⟩ = some (.int .i64 M) → Calls ag 114 #[.int .i64 z, .pointer (some ⟨b, 0, none⟩)] w (kQ (.bool false) w)) := fun b w aj => by have := De b M z w aj x7.out x8.out; rw [bX] at this; exact this
   clear pg q bX
   go_wp2_with (first
    | (go_at_call 162; ((with_reducible refine (x4.out _).mono ?_); rintro e AJ ⟨rfl, u4⟩))
    | (go_at_call 74; ((with_reducible refine (EB.out _).mono ?_); rintro e ag8 ⟨b, rfl, aj, Gg⟩))
    | (go_at_call 114; ((with_reducible refine (ux.out _ _ aj).mono ?_); rintro e ag9 ⟨rfl, Gh⟩)))
   go_ret2
   exact ⟨rfl, by (repeat first | with_reducible assumption | with_reducible refine fa ?_ Gh | with_reducible refine fa ?_ Gg | with_reducible refine fa ?_ u4)⟩
  ·have x4 : Hid (∀ w, Calls ag 162 #[.agg #[.int .i64 oC, .int .u64 kA]] w (Bh v true w)) := fun w => (EX oC kA v w aq).mono fun e w' k => by unfold wo at k; rw [q] at k; exact k
   have ux : Hid (∀ b w, w.cell? ⟨b, 0, none⟩ = some (.int .i64 M) → Calls ag 114 #[.int .i64 v, .pointer (some ⟨b, 0, none⟩)] w (kQ (.bool true) w)) := fun b w aj => by have := De b M v w aj x7.out x8.out; rw [bX] at this; exact this
   clear pg q bX
   go_wp2_with (first
    | (go_at_call 162; ((with_reducible refine (x4.out _).mono ?_); rintro e AJ ⟨rfl, u4⟩))
    | (go_at_call 74; ((with_reducible refine (EB.out _).mono ?_); rintro e ag8 ⟨b, rfl, aj, Gg⟩))
    | (go_at_call 114; ((with_reducible refine (ux.out _ _ aj).mono ?_); rintro e ag9 ⟨rfl, Gh⟩)))
   go_ret2
   exact ⟨rfl, by (repeat first | with_reducible assumption | with_reducible refine fa ?_ Gh | with_reducible refine fa ?_ Gg | with_reducible refine fa ?_ u4)⟩
theorem ahb {r : Nat} {z : Int} (h : wi (134217728 / 2 ^ r) z = true) : small z = true := by
 obtain ⟨m0, m1⟩ := FH r;unfold wi at h;rw [dc, cq, cq] at h;unfold small;rw [cq];omega
end Go.Proofs.YtbcecodakfejaaaGreat
namespace Go.Proofs.YtbcecodakfejaaaGreat
open Go.RowKit
section
variable {U : Nat → Prop} {ad : Nat → Nat} {W : World}
theorem Q8 : ∀ (xs : List AC) (r vs : List Value), ti xs = some r → bL U ad W xs vs → vs = r
 | [], r, vs, h, hv => by cases h; exact kt hv.1.symm
 | .c v :: xs, r, vs, h, hv => by
  simp only [ti] at h
  split at h
  ·rename_i aX ap;cases h
   match vs, hv with
   | [], hv => exact absurd hv.1 (by simp)
   | u :: vs, hv =>
    have aD := (hv.2 0 _ u rfl rfl).1;have b5 := Q8 xs aX vs ap ⟨by have := hv.1; simp at this; exact this, fun i x w aa hw => hv.2 (i + 1) x w (by simpa using aa) (by simpa using hw)⟩;rw [aD, b5]
  ·cases h
 | .own _ _ :: _, _, _, h, _ => by cases h
 | .p _ :: _, _, _, h, _ => by cases h
theorem Rd {x : bz} {u v : Value} (h : mB x = some u) (hv : fX U ad W x v) : v = u := by
 cases x with
 | one y => cases y with
  | c w => cases h; exact hv.1
  | own => cases h
  | p => cases h
 | agg xs =>
  simp only [mB] at h
  split at h
  ·rename_i r ap;cases h;obtain ⟨vs, rfl, ak⟩ := hv;rw [Q8 xs r vs ap ak]
  ·cases h
theorem Ra : ∀ (xs : List bz) (r vs : List Value), wL xs = some r → xs.length = vs.length → (∀ (i : Nat) (x : bz) (v : Value), xs[i]? = some x → vs[i]? = some v → fX U ad W x v) → vs = r
 | [], r, vs, h, ak, _ => by cases h; exact kt ak.symm
 | x :: xs, r, vs, h, ak, hv => by
  simp only [wL] at h
  split at h
  ·rename_i v aX h1 ap;cases h
   match vs, ak, hv with
   | u :: vs, ak, hv =>
    rw [Rd h1 (hv 0 x u rfl rfl), Ra xs aX vs ap (by simpa using ak) fun i y w ai hw => hv (i + 1) y w (by simpa using ai) (by simpa using hw)]
  ·cases h
theorem afh {x : ah} {u v : Value} (h : qx x = some u) (hv : da U ad W x v) : v = u := by
 cases x with
 | w y => exact Rd h hv
 | cr xs =>
  simp only [qx] at h
  split at h
  ·rename_i r ap;cases h;obtain ⟨vs, rfl, ak, aa⟩ := hv;rw [Ra xs r vs ap ak aa]
  ·cases h
end
theorem KY {P : Program} {f : FuncId} {args : List ah} {r : ah} (h : aC P f args r) (jh : List Value) (b0 : Value) (he : args.map qx = jh.map some) (ok : args.all HX = true) (ap : qx r = some b0) (W : World) : Calls P f jh.toArray W fun e bh => e = .returned b0 ∧ Below W.heap.size W bh :=
 (h.call (fun _ => True) W jh ⟨by have := congrArg List.length he; simpa using this, fun i x v aa hv => by
  have h1 : (args.map qx)[i]? = some (qx x) := by rw [eg, aa]; rfl
  rw [he, eg, hv] at h1;have h2 : some v = qx x := kJ h1;exact D0 h2.symm (cB.1 ok x (c7 aa))⟩).mono fun e bh ⟨v, oL, hv, ab⟩ => by
  rw [afh ap hv] at oL;exact ⟨oL, ab⟩
theorem PR {v k : Int} {r : Nat} (h : gB k r) (v0 : -9223372036854775808 ≤ v) (v1 : v < 9223372036854775808) : aC ag 41 [aH v, aH k] (aH (cC v r)) :=
 hN [.int .i64 v, .int .i64 k] (.int .i64 (cC v r)) rfl rfl rfl rfl rfl fun W => WO v k r W h v0 v1
theorem P7 {k : Int} {r : Nat} (h : gB k r) : aC ag 39 [aH k] (aH (2 ^ r)) :=
 hN [.int .i64 k] (.int .i64 (2 ^ r)) rfl rfl rfl rfl rfl fun W => af4 k r W h
theorem adq {k : Int} : aC ag 153 [aH k] (bk (decide (0 ≤ k) && decide (k ≤ 28))) :=
 hN [.int .i64 k] (.bool (decide (0 ≤ k) && decide (k ≤ 28))) rfl rfl rfl rfl rfl fun W => WN k W
theorem zZ {x y k : Int} {r : Nat} {b : Bool} (h : gB k r) (ab : eM r x y = b) : aC ag 38 [aK x y, aH k] (bk b) := by
 subst ab;exact hN [.agg #[.int .i64 x, .int .i64 y], .int .i64 k] (.bool (eM r x y)) rfl rfl rfl rfl rfl fun W => SM x y k r W h
theorem adp {x y x' y' : Int} : aC ag 182 [aK x y, aK x' y'] (aH (ma x y x' y')) :=
 hN [.agg #[.int .i64 x, .int .i64 y], .agg #[.int .i64 x', .int .i64 y']] (.int .i64 (ma x y x' y')) rfl rfl rfl rfl rfl fun W => WM x y x' y' W
theorem PQ {x y k : Int} {r : Nat} (h : gB k r) (R7 : -9223372036854775808 ≤ x) (ct : x < 9223372036854775808) (oj : -9223372036854775808 ≤ y) (kL : y < 9223372036854775808) : aC ag 18 [aK x y, aH k] (aK (cC x r) (cC y r)) := by
 refine bm (f := 18) Tryz.func18 rfl rfl rfl rfl ?_;(repeat first | refine ez ?_ | refine e9 (PR h R7 ct) ?_ | refine e9 (PR h oj kL) ?_)
 ((refine bc rfl (cu rfl rfl rfl aN) ?_))
 exact ah.aQ.refl _
theorem sv {x y k : Int} {r : Nat} (h : gB k r) (ab : eM r x y = true) : aC ag 13 [aK x y, aH k] (aK (2 ^ r * x) (2 ^ r * y)) := by
 obtain ⟨⟨q1, q2⟩, bO, dj⟩ := (zz r x y).1 ab;have aT := zZ h ab;have bH := P7 h;clear h ab;generalize (2 : Int) ^ r = P at *;refine bm (f := 13) Tryz.func13 rfl rfl rfl rfl ?_;(refine bY ?_)
 ((refine bc rfl (cu rfl rfl rfl aN) ?_))
 exact ah.aQ.refl _
theorem acX {x y k : Int} {r : Nat} (h : gB k r) (ab : eM r x y = true) : aC ag 154 [aK x y, aH k] (.cr [.agg [.c (.int .i64 (2 * (2 ^ r * x) - 2 ^ r)), .c (.int .i64 (2 * (2 ^ r * y) - 2 ^ r))], .agg [.c (.int .i64 (2 * (2 ^ r * x) + 2 ^ r)), .c (.int .i64 (2 * (2 ^ r * y) + 2 ^ r))]]) := by
 obtain ⟨⟨q1, q2⟩, bO, dj⟩ := (zz r x y).1 ab;obtain ⟨mc, Io⟩ := DK h.1;have aT := zZ h ab;have bH := P7 h;have et := sv h ab;clear h ab;generalize (2 : Int) ^ r = P at *;generalize P * x = X at *;generalize P * y = Y at *;refine bm (f := 154) Tryz.func154 rfl rfl rfl rfl ?_;(refine bY ?_)
 ((refine bc rfl (cu rfl rfl rfl (cu rfl rfl rfl aN)) ?_))
 exact ah.aQ.refl _
def sL (n d : Int) (r : Nat) : Bool := decide (0 < d) && wi (134217728 / 2 ^ r) (lI n d r)
def Ec (n d : Int) (r : Nat) : Int := if sL n d r then lI n d r else 0
theorem P8 {n d k : Int} {r : Nat} (h : gB k r) (f : fits n = true) (g : fits d = true) : aC ag 143 [fv n d, aH k] (.cr [.one (.c (.int .i64 (Ec n d r))), .one (.c (.bool (sL n d r)))]) := by
 refine hN [fx n d, .int .i64 k] (.tuple #[.int .i64 (Ec n d r), .bool (sL n d r)]) rfl rfl rfl rfl rfl fun W => ?_;unfold Ec sL
 by_cases hd : 0 < d
 ·have EW : ∀ w, Calls ag 161 #[fx n d, .int .i64 r] w (JH true (lI n d r) w) := fun w => (KY (adm f g hd (by have := h.1; omega)) [fx n d, .int .i64 r] (.tuple #[uo (lI n d r), .bool true]) rfl rfl rfl w).mono fun e w' k => ⟨_, _, k.1, ly (WC f hd g (by have := h.1; omega)), k.2⟩;rw [cw hd, p0];cases hw : wi (134217728 / 2 ^ r) (lI n d r) with
  | true => exact IQ _ _ _ _ k r true _ _ true W h EW (.inr (.inr (.inr ⟨rfl, ahb hw, hw, rfl, rfl⟩)))
  | false =>
   refine IQ _ _ _ _ k r true _ 0 false W h EW ?_;cases hs : small (lI n d r)
   ·exact .inr (.inl ⟨rfl, rfl, rfl, rfl⟩)
   ·exact .inr (.inr (.inl ⟨rfl, rfl, hw, rfl, rfl⟩))
 ·rw [c3 hd, Bool.false_and];exact IQ _ _ _ _ k r false 0 0 false W h (fun w => (KY (adn (k := r) f g (.inl hd)) [fx n d, .int .i64 r] (.tuple #[uo 0, .bool false]) rfl rfl rfl w).mono fun e w' k => ⟨_, _, k.1, xj, k.2⟩) (.inl ⟨rfl, rfl, rfl⟩)
theorem acs {n d n' d' k : Int} {r : Nat} {b : Bool} (h : gB k r) (f : fits n = true) (g : fits d = true) (kW : fits n' = true) (jk : fits d' = true) (ab : (sL n d r && sL n' d' r) = b) :
  aC ag 122 [fv n d, fv n' d', aH k] (.cr [.agg [.c (.int .i64 (if b then lI n d r else 0)), .c (.int .i64 (if b then lI n' d' r else 0))], .one (.c (.bool b))]) := by
 have aT := P8 h f g;have bH := P8 h kW jk;clear h f g kW jk;unfold Ec at aT bH;cases q1 : sL n d r <;> cases q2 : sL n' d' r <;> rw [q1] at aT <;> rw [q2] at bH <;> rw [q1, q2] at ab <;> subst ab <;> clear q1 q2
 all_goals
  generalize lI n d r = X at *;generalize lI n' d' r = Y at *;refine bm (f := 122) Tryz.func122 rfl rfl rfl rfl ?_;(refine bY ?_)
  ((refine bc rfl (cu rfl rfl rfl (bf rfl aN)) ?_))
  exact ah.aQ.refl _
theorem acT {k : Int} {r : Nat} (h : gB k r) : aC ag 25 [aH k] (aH r) := by
 obtain ⟨aD, h1⟩ := h;have af : (r : Int) ≤ 28 := by omega
 rcases h1 with ⟨h1, rfl⟩ | ⟨h1, rfl⟩ | rfl
 all_goals
  refine bm (f := 25) Tryz.func25 rfl rfl rfl rfl ?_;(refine eF ?_)
  ((refine bc rfl (bf rfl aN) ?_))
  exact ah.aQ.refl _
end Go.Proofs.YtbcecodakfejaaaGreat
namespace Go.Proofs.YtbcecodakfejaaaGreat
abbrev dw := Int × Int × Int
def l8 (x y z w : Int) : Bool := decide (x < z) || (decide (x = z) && decide (y < w))
theorem oX {x y z w : Int} : l8 x y z w = true ↔ x < z ∨ (x = z ∧ y < w) := by
 unfold l8; simp
def ub (l : List dw) (x y : Int) : List dw := l.filter fun e => l8 e.1 e.2.1 x y
def DL (l : List dw) (x y : Int) : List dw := l.filter fun e => l8 x y e.1 e.2.1
def sy (l : List dw) (x y v : Int) : List dw := ub l x y ++ (x, y, v) :: DL l x y
def tm (l : List dw) (x y : Int) : Int := match l.findIdx? fun e => decide (e.1 = x) && decide (e.2.1 = y) with
 | some k => k
 | none => -1
def ka (l : List dw) : Prop := l.Pairwise fun a b => l8 a.1 a.2.1 b.1 b.2.1 = true
theorem acp {a b c d e f : Int} (h1 : l8 a b c d = true) (h2 : l8 c d e f = true) : l8 a b e f = true := by
 rw [oX] at *; omega
theorem aep {l : List dw} (h : ka l) (x y v : Int) : ka (sy l x y v) := by
 unfold sy ub DL ka;rw [List.pairwise_append, je];refine ⟨h.filter _, ⟨fun e he => ?_, h.filter _⟩, fun a aJ b ab => ?_⟩
 ·exact (sB.1 he).2
 ·have h1 := (sB.1 aJ).2;rcases fD.1 ab with rfl | ab
  ·exact h1
  ·exact acp h1 (sB.1 ab).2
def hH (l : List dw) (x y : Int) : Bool := l.any fun e => decide (e.1 = x) && decide (e.2.1 = y)
theorem Mk (l : List dw) (x y : Int) : decide (0 ≤ tm l x y) = hH l x y := by
 unfold tm hH;cases h : l.findIdx? fun e => decide (e.1 = x) && decide (e.2.1 = y) with
 | none =>
  rw [List.findIdx?_eq_none_iff] at h
  have : (l.any fun e => decide (e.1 = x) && decide (e.2.1 = y)) = false := by
   rw [List.any_eq_false]; intro e he; rw [h e he]; decide
  rw [this]; rfl
 | some k =>
  have aD := List.findIdx?_eq_some_iff_getElem.1 h;obtain ⟨af, h1, _⟩ := aD;have : (l.any fun e => decide (e.1 = x) && decide (e.2.1 = y)) = true := List.any_eq_true.2 ⟨l[k], List.getElem_mem af, h1⟩;rw [this]; simp
theorem WU {l : List dw} {x y : Int} (h : 0 ≤ tm l x y) : ∃ k v, tm l x y = (k : Nat) ∧ k < l.length ∧ l[k]? = some (x, y, v) := by
 unfold tm at h ⊢;cases ar : l.findIdx? fun e => decide (e.1 = x) && decide (e.2.1 = y) with
 | none => rw [ar] at h; simp at h
 | some k =>
  obtain ⟨af, h1, _⟩ := List.findIdx?_eq_some_iff_getElem.1 ar;simp only [dc, cq] at h1;refine ⟨k, l[k].2.2, rfl, af, ?_⟩;rw [bN af];congr 1;exact Prod.ext h1.1 (Prod.ext h1.2 rfl)
def oi (l : List dw) (x y : Int) : Int := match l.findIdx? fun e => decide (e.1 = x) && decide (e.2.1 = y) with
 | some k => (l.getD k (0, 0, 0)).2.2
 | none => 0
theorem ag4 {l : List dw} {x y v : Int} {k : Nat} (h : tm l x y = k) (ak : l[k]? = some (x, y, v)) : oi l x y = v := by
 unfold tm at h;unfold oi;cases ar : l.findIdx? fun e => decide (e.1 = x) && decide (e.2.1 = y) with
 | none => rw [ar] at h; simp at h
 | some j =>
  rw [ar] at h;have : j = k := by simp at h; omega
  subst this;simp only [gy, ak]; rfl
theorem ag2 {l : List dw} {x y : Int} (h : hH l x y = false) : oi l x y = 0 := by
 have h2 := Mk l x y;rw [h] at h2;unfold tm at h2;unfold oi;cases ar : l.findIdx? fun e => decide (e.1 = x) && decide (e.2.1 = y) with
 | none => rfl
 | some j => rw [ar] at h2; simp at h2
theorem aen (l : List dw) (x y : Int) : (ub l x y).length ≤ l.length := List.length_filter_le _ _
theorem RU {l : List dw} (h : ka l) {x y v : Int} (hm : (x, y, v) ∈ l) : hH l x y = true ∧ oi l x y = v := by
 have aU : hH l x y = true := List.any_eq_true.2 ⟨_, hm, by simp⟩;have aq := Mk l x y;rw [aU] at aq;obtain ⟨k, u, h1, h2, an⟩ := WU (of_decide_eq_true aq);refine ⟨aU, ?_⟩;rw [ag4 h1 an];obtain ⟨j, ae⟩ := j1 hm;have r2 := (bM.1 ae).1;have ie : l[k] = (x, y, u) := (bM.1 an).2;have lm : l[j] = (x, y, v) := (bM.1 ae).2;unfold ka at h;rw [List.pairwise_iff_getElem] at h;rcases Nat.lt_trichotomy k j with q | q | q
 ·have := h k j h2 r2 q;rw [ie, lm, oX] at this;simp at this
 ·subst q;rw [ie] at lm;cases lm; rfl
 ·have := h j k r2 h2 q;rw [ie, lm, oX] at this;simp at this
end Go.Proofs.YtbcecodakfejaaaGreat
namespace Go.Proofs.YtbcecodakfejaaaGreat
open Go.RowKit
def ei : List dw → List AC
 | [] => []
 | e :: l => .c (.int .i64 e.1) :: .c (.int .i64 e.2.1) :: .c (.int .i64 e.2.2) :: ei l
theorem FE : ∀ (l : List dw) (i : Nat) (e : dw), l[i]? = some e → ((ei l).drop (i * 3)).take 3 = [.c (.int .i64 e.1), .c (.int .i64 e.2.1), .c (.int .i64 e.2.2)]
 | [], i, p, h => by simp at h
 | q :: l, 0, p, h => by simp at h; subst h; simp [ei]
 | q :: l, i + 1, p, h => by
  have e : (i + 1) * 3 = i * 3 + 1 + 1 + 1 := by omega
  rw [e];simp only [ei, List.drop_succ_cons];exact FE l i p (by simpa using h)
theorem LI {l : List dw} {j : Int} {i : Nat} {x y v : Int} (ae : j = i) (h : l[i]? = some (x, y, v)) : ((ei l).drop (j.toNat * 3)).take 3 = [.c (.int .i64 x), .c (.int .i64 y), .c (.int .i64 v)] := by
 subst ae;exact FE l i (x, y, v) h
theorem yA : ∀ (l : List dw), (ei l).length = l.length * 3
 | [] => rfl
 | p :: l => by simp only [ei, iI, yA l]; omega
theorem yz : ∀ (l m : List dw), ei (l ++ m) = ei l ++ ei m
 | [], _ => rfl
 | p :: l, m => by simp only [List.cons_append, ei, yz l m]
theorem LD : ∀ (l : List dw), (ei l).all AC.aZ = true
 | [] => rfl
 | p :: l => by simp only [ei, ku, LD l]; rfl
abbrev C3 (x y : Int) : List AC := [.c (.int .i64 x), .c (.int .i64 y)]
abbrev sN (k : Nat) : ah := .w (.one (.own k 0))
abbrev q4 (v : Value) (l : List (Int × Int)) : bG := ⟨40, 2, v, l.length, bP l⟩
instance aiH : kR ag 43 40 2 16 := ⟨by kernel_rfl⟩
theorem ZL (l : List (Int × Int)) (x y : Int) : bP l ++ [.c (.int .i64 x), .c (.int .i64 y)] = bP (l ++ [(x, y)]) := by rw [qM]; rfl
theorem PE (v : Value) (l : List (Int × Int)) (x y : Int) : q4 v (l ++ [(x, y)]) = ⟨40, 2, v, l.length + 1, bP l ++ [.c (.int .i64 x), .c (.int .i64 y)]⟩ := by
 unfold q4; rw [← ZL, cJ]; rfl
def lF (n : Int) : Int := if n < 1 then 1 else if 1024 < n then 1024 else n
def k4 (l : List ao) (x y : Int) : Int := match l.findIdx? fun e => decide (e.1 = x) && decide (e.2 = y) with
 | some k => k
 | none => -1
def ye (P : Program) (f : FuncId) (args : List ah) (r : bG) (post : ah → bG → Prop) : Prop :=
 ∀ i, dk P f args ca (br i r) fun v aG ay => ∃ aX, aG = ca ∧ ay = br i aX ∧ post v aX
theorem QT {args : List ah} (aJ : args.all ah.aZ = true) : args.map (ah.a6 fun j => j) = args := by
 rw [cB] at aJ
 conv => rhs; rw [← List.map_id args]
 exact nE fun x aa => uh (aJ x aa)
theorem aeO {P : Program} {f : FuncId} {args : List ah} {r : bG} {post : ah → bG → Prop} (aJ : args.all ah.aZ = true) (hp : ∀ v aX, post v aX → v.aZ = true)
  (h : dk P f args ca (br 0 r) fun v aG ay => ∃ aX, aG = ca ∧ ay = br 0 aX ∧ post v aX) : ye P f args r post := by
 intro i;have h1 := h.a6 (bF := fun j => j) (b4 := swp 0 i) (ix := swp 0 i) (fun _ => rfl) (mS _ _) (mS _ _);rw [QT aJ, show Mem.a6 (fun j => j) ca = ca from rfl, Ai] at h1;refine ⟨fun U ad W vs cj cp cL => (h1.call U ad W vs cj cp cL).mono ?_⟩;rintro e bh ⟨v, b6, aG, ay, aY, cF, di, ⟨cD, m2, ec, ⟨aX, rfl, rfl, al⟩, rfl, rfl, rfl⟩, q⟩;rw [show Mem.a6 (fun j => j) ca = ca from rfl, Ai, uh (hp _ _ al)] at q;exact ⟨v, cD, ca, br i aX, aY, cF, di, ⟨aX, rfl, rfl, al⟩, q⟩
theorem MP {P : Program} {fn : Func} {l : List ResultVar} {xs : List bz} {R : aI} {s : aA} {r aX : bG} {post : ah → bG → Prop} (ap : fn.results = l.toArray) (h : l.map (iK P s) = xs.map some) (hi : R 0 = some aX) (aa : (packed xs).aZ = true)
  (hp : post (packed xs) aX) : tv P fn ca (br 0 r) (fun v aG ay => ∃ aX, aG = ca ∧ ay = br 0 aX ∧ post v aX) R s := by
 refine ⟨xs, packed xs, ca, br 0 aX, by rw [ap]; exact h, .refl _, ⟨aX, rfl, rfl, hp⟩, fun k c h => (by cases h), fun i q h => ?_, fun j ae => absurd ae (ah.du aa j), fun k c x j h => (by cases h), fun k c h => (by cases h), fun i q h => ?_⟩
 ·obtain ⟨rfl, rfl⟩ := fK h; exact hi
 ·obtain ⟨rfl, rfl⟩ := fK h; exact ⟨aX, by unfold br; exact cx _ _ _⟩
section
variable {P : Program} {R : aI} {s : aA} {ops : Array Oper} {dr : Option (List Nat)} {ty : Nat} {pos : String} {after : Array Edge} {guard : Option (Nat × Bool)} {K : aI → aA → Prop} {rest : List Oper}
theorem tW (s : aA) : s.over ca = s := by
 show ({ s with mem := bV (fun _ => none) s.mem } : aA) = s;rw [PC]
theorem Ng (i : Nat) {dst : Option Nat} {f : FuncId} {g : Operand} {aL : Array TypeId} {l : List Operand} {args : List ah} {r : bG} {post : ah → bG → Prop} [E : Enters P f] (hw : want ops ⟨dst, .call ⟨.value g, l.toArray, aL⟩, ty, pos, after, guard⟩ s = some true) (hm : dW dr ⟨dst, .call ⟨.value g, l.toArray, aL⟩, ty, pos, after, guard⟩ = true)
  (aq : s.look g = some (aR (.func (.func f) #[] #[]))) (aJ : l.map s.look = args.map some) (hp : ye P f args r post) (hi : R i = some r) (ek : args.all ah.aZ = true) (hd : kT dst s.n = true)
  (h : ∀ v aX, post v aX → cQ P ops dr K rest (bK R i aX) (s.put dst v)) : cQ P ops dr K (⟨dst, .call ⟨.value g, l.toArray, aL⟩, ty, pos, after, guard⟩ :: rest) R s := by
 refine vl hw hm aq aJ (hp i) (fun x aa j ae => absurd ae (ah.du (cB.1 ek x aa) j)) (fun k' au aO => by cases aO) (fun fl aX aO => ?_) (fun k' au x j aO aa ae => by cases aO) hd ?_
 ·obtain ⟨rfl, rfl⟩ := fK aO; exact hi
 ·rintro v aG ay ⟨aX, rfl, rfl, al⟩;refine ⟨fun k' c aO => (by cases aO), ?_⟩;rw [show bV (br i aX) R = bK R i aX from vI R i aX, tW];exact h v aX al
theorem zg {x : Operand} {t f ig off : Nat} {r : bG} (i : Nat) [S : mV P t f ig] {d : Nat} (hi : R i = some r) (hw : want ops ⟨some d, .fieldAddr t x f, ty, pos, after, guard⟩ s = some true) (aa : s.look x = some (aR (jy r.v off))) (ax : 0 < r.n) (ap : ug ops dr (some d) = true) (hd : Nat.blt d s.n = true) (h : cQ P ops dr K rest R (s.put (some d) (aR (jy r.v (off + ig))))) : cQ P ops dr K (⟨some d, .fieldAddr t x f, ty, pos, after, guard⟩ :: rest) R s :=
 zk hw (.nT i r off t f ig x hi ax rfl aa S.h) rfl ap hd h
end
structure JL (W bh : World) (r aX : bG) (U : Nat → Prop) : Prop where
 grown : W.grownBy bh r.v.ownBlock
 row : ∃ xs, bh.ownsRow 0 aX.e aX.sz aX.v aX.n xs ∧ bL U id W aX.aS xs
 pw : ∀ y ∈ aX.aS, y.aZ = true
 ahD : ∀ g, aX.v.ownBlock = some g → r.v.ownBlock = some g ∨ W.heap.size ≤ g
theorem bL.I0 {U : Nat → Prop} {ad aY : Nat → Nat} {W : World} {xs : List AC} {vs : List Value} (aj : ∀ y ∈ xs, y.aZ = true) (h : bL U ad W xs vs) : bL U aY W xs vs := h.wG aj fun b ab _ => ⟨ab, rfl⟩
theorem kb.I0 {U : Nat → Prop} {ad : Nat → Nat} {W : World} {args : List ah} {vs : List Value} (aj : args.all ah.aZ = true) (h : kb U ad W args vs) : kb U id W args vs :=
 ⟨h.1, fun i x v aa hv => Rel.NA (ah.du (cB.1 aj x (c7 aa))) (h.2 i x v aa hv)⟩
theorem aah {U : Nat → Prop} {W bh : World} {row : Option Nat} (aq : W.grownBy bh row) (ap : ∀ g, row = some g → ¬ U g) : ∀ b, U b → b < W.heap.size → (U b ∧ b < W.heap.size) ∧ bh.heap[b]? = W.heap[b]? := fun b ab ak =>
 ⟨⟨ab, ak⟩, aq.block b ak fun e => ap b e.symm ab⟩
theorem aeP {P : Program} {f : FuncId} {args : List ah} {r : bG} {post : ah → bG → Prop} (ek : args.all ah.aZ = true) (bI : 0 < r.sz) (xb : ∀ b0 aX, post b0 aX → 0 < aX.sz)
  (h : ∀ (U : Nat → Prop) (W : World) (vs : List Value) (xs : List Value), W.ownsRow 0 r.e r.sz r.v r.n xs → bL U id W r.aS xs → (∀ y ∈ r.aS, y.aZ = true) → (∀ g, r.v.ownBlock = some g → ¬ U g) → kb U id W args vs →
   Calls P f vs.toArray W fun e bh => ∃ v b0 aX, e = .returned v ∧ post b0 aX ∧ JL W bh r aX U ∧ da U id W b0 v ∧ b0.aZ = true) : ye P f args r post := by
 intro i;refine ⟨fun U ad W vs cj cp cL => ?_⟩;obtain ⟨oI, cZ, Ys⟩ := cj.rows i r (by unfold br; exact cx _ _ _);obtain ⟨xs, az, ak⟩ := oI.row bI;have vf := fun g aq => Ys g (.inl aq);refine (h U W vs xs az (ak.I0 cZ) cZ (fun g aq => (vf g aq).1) (cL.I0 ek)).mono ?_;rintro e bh ⟨v, b0, aX, rfl, hp, ⟨gi, ⟨aS, hn, e1⟩, rV, kf⟩, pN, nY⟩;have N4 := aah gi fun g aq => (vf g aq).1
 have gD : ∀ b, en ad ca (br i r) b ↔ r.v.ownBlock = some b := fun b => by
  constructor
  ·rintro (⟨k, cs, af, _⟩ | ⟨j, q, ae, aq⟩)
   ·cases af
   ·obtain ⟨rfl, rfl⟩ := fK ae; exact bG.oW aq bI
  ·intro aq; exact .inr ⟨i, r, by unfold br; exact cx _ _ _, .inl aq⟩
 refine ⟨v, b0, ca, br i aX, ad, fun b => U b ∧ b < W.heap.size, rfl, ⟨aX, rfl, rfl, hp⟩, ⟨fun k cs af => (by cases af), fun k cs x j af => (by cases af), fun k k' cs au af => (by cases af), fun j q ae => ?_, fun j k q bX ae af kZ => ?_⟩, ?_, fun j ae => absurd ae (ah.du nY j), fun k cs af => (by cases af), fun j q ae => ?_, fun b ab => .inl ab.1, ?_, ⟨gi.os, gi.tape, gi.output, gi.size, fun b ab => gi.block b ab.1 fun e => ab.2 ((gD b).2 e.symm)⟩⟩
 ·obtain ⟨rfl, rfl⟩ := fK ae;refine ⟨.inl ⟨xb _ _ hp, aS, hn, e1.wG rV N4⟩, rV, fun g aq => ⟨fun hu => ?_, fun k cs af => (by cases af)⟩⟩;rcases kf g (bG.oW aq (xb _ _ hp)) with q | q
  ·exact (vf g q).1 hu.1
  ·omega
 ·obtain ⟨rfl, _⟩ := fK ae;obtain ⟨rfl, _⟩ := fK af;exact absurd rfl kZ
 ·exact pN.map N4 fun j ae => absurd ae (ah.du nY j)
 ·obtain ⟨rfl, rfl⟩ := fK ae;exact ⟨aX, by unfold br; exact cx _ _ _⟩
 ·rintro b (⟨k, cs, af, _⟩ | ⟨j, q, ae, aq⟩)
  ·cases af
  ·obtain ⟨rfl, rfl⟩ := fK ae;rcases kf b (bG.oW aq (xb _ _ hp)) with z | z
   ·exact .inl ((gD b).2 z)
   ·exact .inr z
theorem IE (i : Nat) {P : Program} {R : aI} {s : aA} {c : Code} {Q : Exit → aI → aA → Prop} {r : bG} (hi : R i = some r) (h : ∀ A k, r.v = .slice A r.n k → r.n ≤ k → k ≤ maxLen → (0 < r.n → ∃ g, A = some ⟨g, 0, none⟩) → r.aS.length = r.n * r.sz → fs P c Q R s) (bI : 0 < r.sz := by first | decide | exact jw _) : fs P c Q R s := by
 rintro ok a8 bp a w ⟨A, ad, aw⟩;obtain ⟨xs, az, ak⟩ := (aw.rows i r hi).cells bI;have hlen : r.aS.length = r.n * r.sz := ak.1.trans az.1;rcases az.2 with ⟨e, cX⟩ | ⟨g, cap, cur, e, _, _, ep, iA, _⟩
 ·exact h none 0 (by rw [e, cX]) (by omega) (dC _) (fun h => by omega) hlen ok a8 bp a w ⟨A, ad, aw⟩
 ·exact h _ cap e ep iA (fun _ => ⟨g, rfl⟩) hlen ok a8 bp a w ⟨A, ad, aw⟩
theorem Rel.aeV {B : eH} {A : Nat → Prop} {s : aA} {ad : Nat → Nat} {a : Act} {w : World} {k : Nat} {cs ds : List AC} (h : Rel B A s ad a w) (af : s.mem k = some cs) (ap : ∀ vs, bL (s.free A ad) ad w cs vs → bL (s.free A ad) ad w ds vs) : Rel B A (s.eh k ds) ad a w := by
 obtain ⟨vs, ty, g1, g2, _⟩ := h.dn k cs af;have := h.set af (ap vs g2);rwa [setRow_self w (ad k) vs.toArray ty (0, 0) g1] at this
theorem DB {n d m e : Int} (a : bD 200 n) (b : bD 200 d) (c : bD 200 m) (f : bD 200 e) : aC ag 44 [oc n d, oc m e] (aH (b9 (n * e) (m * d))) := by
 have aT := xA (n := n) (m := e) (a.up (by omega)) (f.up (by omega));have bH := xA (n := m) (m := d) (c.up (by omega)) (b.up (by omega));have et := z1 (n := n * e) (m := m * d) ((a.mul f).up (by omega)) ((c.mul b).up (by omega));clear a b c f;refine bm (f := 44) Tryz.func44 rfl rfl rfl rfl ?_;(refine bY ?_)
 ((refine bc rfl (bf rfl aN) ?_))
 exact ah.aQ.refl _
theorem l9 {x y : Int} {b : Bool} (ab : bA x y = b) : aC ag 27 [aK x y] (bk b) := by
 have cs : (x ≤ 134217728 ∧ y ≤ 134217728 ∧ -134217728 ≤ x ∧ -134217728 ≤ y ∧ b = true) ∨ (x ≤ 134217728 ∧ y ≤ 134217728 ∧ -134217728 ≤ x ∧ ¬ -134217728 ≤ y ∧ b = false) ∨ (x ≤ 134217728 ∧ y ≤ 134217728 ∧ ¬ -134217728 ≤ x ∧ b = false) ∨ (x ≤ 134217728 ∧ ¬ y ≤ 134217728 ∧ b = false) ∨ (¬ x ≤ 134217728 ∧ b = false) := by
  rw [← ab]; unfold bA
  by_cases q1 : x ≤ 134217728 <;> by_cases q2 : y ≤ 134217728 <;> by_cases bO : -134217728 ≤ x <;> by_cases dj : -134217728 ≤ y <;> simp [q1, q2, bO, dj]
 clear ab;rcases cs with ⟨q1, q2, bO, dj, rfl⟩ | ⟨q1, q2, bO, dj, rfl⟩ | ⟨q1, q2, bO, rfl⟩ | ⟨q1, q2, rfl⟩ | ⟨q1, rfl⟩
 all_goals
  refine bm (f := 27) Tryz.func27 rfl rfl rfl rfl ?_;(repeat first | refine ez ?_ | (with_reducible apply cW (c := true)); rfl; rfl; (exact cw (by omega)) | (with_reducible apply cW (c := false)); rfl; rfl; (exact c3 (by omega)))
  ((refine bc rfl (bf rfl aN) ?_))
  first | exact ah.aQ.refl _ | exact ah.aQ.of_eq (by rw [cw dj]; rfl) | exact ah.aQ.of_eq (by rw [c3 dj]; rfl)
theorem jt {n : Int} (aD : -9223372036854775808 ≤ n) (h1 : n < 9223372036854775808) : aC ag 80 [aH n] (cO n) := by
 have aT := adS aD h1;clear aD h1;refine bm (f := 80) Tryz.func80 rfl rfl rfl rfl ?_;(refine bY ?_)
 ((refine bc rfl (cu rfl rfl rfl aN) ?_))
 exact ah.aQ.refl _
theorem bD.i64 {n : Int} (aD : -9223372036854775808 ≤ n) (h1 : n < 9223372036854775808) : bD 5 n := by unfold bD; omega
theorem DD {a b c d : Int} (dp : bD 100 a) (dX : bD 100 b) (ja : bD 100 c) (l5 : bD 100 d) : aC ag 79 [cO a, cO b, cO c, cO d] (cO (a * d - b * c)) := by
 have aT := xA (n := a) (m := d) (dp.up (by omega)) (l5.up (by omega));have bH := xA (n := b) (m := c) (dX.up (by omega)) (ja.up (by omega));have m1 := dp.mul l5;have m2 := dX.mul ja;have et := Ic (n := b * c) (m2.up (by omega));have ld : aC ag 71 [cO (a * d), cO (-(b * c))] (cO (a * d - b * c)) := P4 (m1.up (by omega)) (m2.neg.up (by omega));clear dp dX ja l5 m1 m2;refine bm (f := 79) Tryz.func79 rfl rfl rfl rfl ?_;(refine bY ?_)
 ((refine bc rfl (cu rfl rfl rfl aN) ?_))
 exact ah.aQ.refl _
theorem adR {n d : Int} (dp : bD 900 n) (dX : bD 900 d) (hd : 0 ≤ d) : aC ag 81 [cO n, cO d] (oc n d) := by
 have lL := jt (n := 0) (by omega) (by omega);have aT : aC ag 76 [cO d, cO 0] (aH (b9 d 0)) := z1 (dX.up (by omega)) (by unfold bD; exact z7 _);have q : ¬ b9 d 0 < 0 := by unfold b9; split <;> (try split) <;> omega
 clear dp dX hd;generalize b9 d 0 = c at *;refine bm (f := 81) Tryz.func81 rfl rfl rfl rfl ?_;(refine bY ?_)
 ((refine bc rfl (cu rfl rfl rfl aN) ?_))
 exact ah.aQ.refl _
theorem adQ {n d : Int} (dp : bD 900 n) (dX : bD 900 d) (hd : d < 0) : aC ag 81 [cO n, cO d] (oc (-n) (-d)) := by
 have lL := jt (n := 0) (by omega) (by omega);have aT : aC ag 76 [cO d, cO 0] (aH (b9 d 0)) := z1 (dX.up (by omega)) (by unfold bD; exact z7 _);have bH := Ic (n := n) (dp.up (by omega));have et := Ic (n := d) (dX.up (by omega));have q : b9 d 0 < 0 := by unfold b9; split <;> (try split) <;> omega
 clear dp dX hd;generalize b9 d 0 = c at *;refine bm (f := 81) Tryz.func81 rfl rfl rfl rfl ?_;(refine bY ?_)
 ((refine bc rfl (cu rfl rfl rfl aN) ?_))
 exact ah.aQ.refl _
theorem DF {a1 a2 b1 b2 b6 cD : Int} (h : (b6, cD) = if a1 < b1 ∨ (a1 = b1 ∧ a2 < b2) then (a1, a2) else (b1, b2)) : aC ag 48 [aK a1 a2, aK b1 b2] (aK b6 cD) := by
 have cs : (a1 < b1 ∧ b6 = a1 ∧ cD = a2) ∨ (¬ a1 < b1 ∧ a1 = b1 ∧ a2 < b2 ∧ b6 = a1 ∧ cD = a2) ∨ (¬ a1 < b1 ∧ a1 = b1 ∧ ¬ a2 < b2 ∧ b6 = b1 ∧ cD = b2) ∨ (¬ a1 < b1 ∧ ¬ a1 = b1 ∧ b6 = b1 ∧ cD = b2) := by
  split at h <;> (rw [Prod.mk.injEq] at h; omega)
 clear h;rcases cs with ⟨q1, rfl, rfl⟩ | ⟨q1, q2, bO, rfl, rfl⟩ | ⟨q1, q2, bO, rfl, rfl⟩ | ⟨q1, q2, rfl, rfl⟩
 all_goals
  refine bm (f := 48) Tryz.func48 rfl rfl rfl rfl ?_;(repeat first | refine ez ?_ | (with_reducible apply cW (c := true)); rfl; rfl; (exact cw (by omega)) | (with_reducible apply cW (c := false)); rfl; rfl; (exact c3 (by omega)))
  ((refine bc rfl (cu rfl rfl rfl aN) ?_))
  exact ah.aQ.refl _
theorem DG {a1 a2 b1 b2 p q r : Int} (aJ : bA a1 a2 = true) (ab : bA b1 b2 = true) (hp : p = b2 - a2) (al : q = a1 - b1) (ap : r = p * a1 + q * a2) : aC ag 78 [aK a1 a2, aK b1 b2] (.cr [.one (.c (.int .i64 p)), .one (.c (.int .i64 q)), jY r]) := by
 unfold bA at aJ ab;simp only [dc, cq] at aJ ab;have aT := jt (n := p) (by omega) (by omega);have bH := jt (n := q) (by omega) (by omega);have et := jt (n := a1) (by omega) (by omega);have ld := jt (n := a2) (by omega) (by omega);have dp : bD 5 p := bD.i64 (by omega) (by omega);have dX : bD 5 q := bD.i64 (by omega) (by omega);have ja : bD 5 a1 := bD.i64 (by omega) (by omega);have l5 : bD 5 a2 := bD.i64 (by omega) (by omega);have qh := xA (n := p) (m := a1) (dp.up (by omega)) (ja.up (by omega));have AV := xA (n := q) (m := a2) (dX.up (by omega)) (l5.up (by omega));have Sh : aC ag 71 [cO (p * a1), cO (q * a2)] (cO r) := by rw [ap]; exact P4 ((dp.mul ja).up (by omega)) ((dX.mul l5).up (by omega))
 have w1 : IntKind.i64.wrap (b2 - a2) = p := by rw [hp]; exact n2 (by omega)
 have w2 : IntKind.i64.wrap (a1 - b1) = q := by rw [al]; exact n2 (by omega)
 clear dp dX ja l5 ap hp al aJ ab;refine bm (f := 78) Tryz.func78 rfl rfl rfl rfl ?_;(refine bY ?_)
 ((refine bc rfl (bf rfl (bf rfl (cu rfl rfl rfl aN))) ?_))
 exact ah.aQ.refl _
theorem adP {n d a b lo hi : Int} {x y : Bool} (dp : bD 150 n) (dX : bD 150 d) (a0 : -134217728 ≤ a) (a1 : a ≤ 134217728) (fw : -134217728 ≤ b) (b1 : b ≤ 134217728) (qH : (if b < a then b else a) = lo) (rZ : (if b > a then b else a) = hi) (aa : decide (lo * d ≤ n) = x) (ai : decide (n ≤ hi * d) = y) : aC ag 82 [oc n d, aH a, aH b] (bk (x && y)) := by
 have oQ : -134217728 ≤ lo ∧ lo ≤ 134217728 := by rw [← qH]; split <;> omega
 have m0 : -134217728 ≤ hi ∧ hi ≤ 134217728 := by rw [← rZ]; split <;> omega
 have lL := jt (n := 1) (by omega) (by omega);have aT : aC ag 80 [aH (if b < a then b else a)] (cO lo) := by rw [qH]; exact jt (by omega) (by omega)
 have bH : aC ag 80 [aH (if b > a then b else a)] (cO hi) := by rw [rZ]; exact jt (by omega) (by omega)
 have bl : bD 5 lo := bD.i64 (by omega) (by omega);have bJ : bD 5 hi := bD.i64 (by omega) (by omega);have e6 : bD 5 (1 : Int) := bD.i64 (by omega) (by omega);have et := DB (n := lo) (d := 1) (m := n) (e := d) (bl.up (by omega)) (e6.up (by omega)) (dp.up (by omega)) (dX.up (by omega));have ld := DB (n := n) (d := d) (m := hi) (e := 1) (dp.up (by omega)) (dX.up (by omega)) (bJ.up (by omega)) (e6.up (by omega));rw [Int.mul_one] at et ld;have q1 : b9 (lo * d) n ≤ 0 ↔ lo * d ≤ n := by unfold b9; split <;> (try split) <;> omega
 have q2 : b9 n (hi * d) ≤ 0 ↔ n ≤ hi * d := by unfold b9; split <;> (try split) <;> omega
 have cs : (b9 (lo * d) n ≤ 0 ∧ b9 n (hi * d) ≤ 0 ∧ (x && y) = true) ∨ (b9 (lo * d) n ≤ 0 ∧ ¬ b9 n (hi * d) ≤ 0 ∧ (x && y) = false) ∨ (¬ b9 (lo * d) n ≤ 0 ∧ (x && y) = false) := by
  rw [← aa, ← ai]
  by_cases h1 : lo * d ≤ n <;> by_cases h2 : n ≤ hi * d <;> simp [q1, q2, h1, h2]
 clear q1 q2 aa ai dp dX bl bJ e6 oQ m0 a0 a1 fw b1 qH rZ;generalize (x && y) = z at *;generalize b9 (lo * d) n = c1 at *;generalize b9 n (hi * d) = c2 at *;rcases cs with ⟨b6, cD, rfl⟩ | ⟨b6, cD, rfl⟩ | ⟨b6, rfl⟩
 all_goals
  refine bm (f := 82) Tryz.func82 rfl rfl rfl rfl ?_;(repeat first | refine ez ?_ | refine jB ?_ | (with_reducible apply cW (c := true)); rfl; rfl; (exact cw (by omega)) | (with_reducible apply cW (c := false)); rfl; rfl; (exact c3 (by omega)))
  ((refine bc rfl (bf rfl aN) ?_))
  first | exact ah.aQ.refl _ | exact ah.aQ.of_eq (by rw [cw cD]; rfl) | exact ah.aQ.of_eq (by rw [c3 cD]; rfl)
def uX (n : Int) : Bool := decide (-134217728 ≤ n) && decide (n ≤ 134217728)
theorem PO {n : Int} {b : Bool} (ab : uX n = b) : aC ag 144 [aH n] (bk b) := by
 have cs : (-134217728 ≤ n ∧ n ≤ 134217728 ∧ b = true) ∨ (-134217728 ≤ n ∧ ¬ n ≤ 134217728 ∧ b = false) ∨ (¬ -134217728 ≤ n ∧ b = false) := by
  rw [← ab]; unfold uX
  by_cases h1 : -134217728 ≤ n <;> by_cases h2 : n ≤ 134217728 <;> simp [h1, h2]
 clear ab;rcases cs with ⟨h1, h2, rfl⟩ | ⟨h1, h2, rfl⟩ | ⟨h1, rfl⟩
 all_goals
  refine bm (f := 144) Tryz.func144 rfl rfl rfl rfl ?_;(repeat first | refine ez ?_ | (with_reducible apply cW (c := true)); rfl; rfl; (exact cw (by omega)) | (with_reducible apply cW (c := false)); rfl; rfl; (exact c3 (by omega)))
  ((refine bc rfl (bf rfl aN) ?_))
  first | exact ah.aQ.refl _ | exact ah.aQ.of_eq (by rw [cw h2]; rfl) | exact ah.aQ.of_eq (by rw [c3 h2]; rfl)
theorem aeG (x y : Int) : bA x y = (uX x && uX y) := by
 unfold bA uX;rw [lD];simp only [dc, cq];omega
theorem iJ {x y : Int} (h : bA x y = true) : cf x y = true := by rw [k8] at h; rw [DQ]; omega
theorem oY {x y : Int} {b : Bool} (ab : bA x y = b) : aC ag 123 [aK x y] (bk b) := by
 have aT := PO (n := x) rfl;have bH := PO (n := y) rfl;rw [aeG] at ab;cases q1 : uX x <;> cases q2 : uX y <;> rw [q1] at aT <;> rw [q2] at bH <;> rw [q1, q2] at ab <;> subst ab <;> clear q1 q2
 all_goals
  refine bm (f := 123) Tryz.func123 rfl rfl rfl rfl ?_;(refine bY ?_)
  ((refine bc rfl (bf rfl aN) ?_))
  exact ah.aQ.refl _
theorem acu {n m : Int} : aC ag 201 [aH n, aH m] (aH (b9 n m)) :=
 hN [.int .i64 n, .int .i64 m] (.int .i64 (b9 n m)) rfl rfl rfl rfl rfl fun W => Ey n m W
abbrev j6 (n d : Int) (o : Bool) : ah := .w (.agg [.c (.int .i64 n), .c (.int .i64 d), .c (.bool o)])
abbrev uk (x : hR) : ah := j6 x.n x.d x.own
def lK (x : hR) : Prop := (-2000000000 ≤ x.n ∧ x.n ≤ 2000000000) ∧ 0 < x.d ∧ x.d ≤ 2000000000
theorem aby {x y : Int} (h1 : -2000000000 ≤ x) (h2 : x ≤ 2000000000) (an : 0 ≤ y) (aE : y ≤ 2000000000) : -4000000000000000000 ≤ x * y ∧ x * y ≤ 4000000000000000000 := by
 have a1 : x * y ≤ 2000000000 * y := n8 h2 an;have a2 : -2000000000 * y ≤ x * y := n8 h1 an;omega
theorem KA {x y : hR} (aa : lK x) (ai : lK y) : IntKind.i64.wrap (x.n * y.d) = x.n * y.d := by
 obtain ⟨⟨a1, a2⟩, a3, a4⟩ := aa;obtain ⟨⟨b1, b2⟩, ed, dM⟩ := ai;have := aby a1 a2 (by omega : (0 : Int) ≤ y.d) dM;exact n2 (by omega)
theorem adY {n d m e c : Int} {o q : Bool} (aT : aC ag 201 [aH (n * e), aH (m * d)] (aH c)) (w1 : IntKind.i64.wrap (n * e) = n * e) (w2 : IntKind.i64.wrap (m * d) = m * d) : aC ag 200 [j6 n d o, j6 m e q] (aH c) := by
 refine bm (f := 200) Tryz.func200 rfl rfl rfl rfl ?_;(refine bY ?_)
 ((refine bc rfl (bf rfl aN) ?_))
 exact ah.aQ.refl _
theorem Ie {x y : hR} (aa : lK x) (ai : lK y) : aC ag 200 [uk x, uk y] (aH (hG x y)) :=
 adY acu (KA aa ai) (KA ai aa)
theorem adA {n d m e c : Int} {o q : Bool} {b6 cD : Int} {fp : Bool} (aT : aC ag 200 [j6 n d o, j6 m e q] (aH c)) (cs : (0 < c ∧ b6 = n ∧ cD = d ∧ fp = o) ∨ (¬ 0 < c ∧ c = 0 ∧ q = true ∧ b6 = n ∧ cD = d ∧ fp = o) ∨ (¬ 0 < c ∧ c = 0 ∧ q = false ∧ b6 = m ∧ cD = e ∧ fp = q) ∨ (¬ 0 < c ∧ ¬ c = 0 ∧ b6 = m ∧ cD = e ∧ fp = q)) : aC ag 208 [j6 n d o, j6 m e q] (j6 b6 cD fp) := by
 rcases cs with ⟨q1, rfl, rfl, rfl⟩ | ⟨q1, q2, rfl, rfl, rfl, rfl⟩ | ⟨q1, q2, rfl, rfl, rfl, rfl⟩ | ⟨q1, q2, rfl, rfl, rfl⟩
 all_goals
  refine bm (f := 208) Tryz.func208 rfl rfl rfl rfl ?_;(repeat first | refine ez ?_ | refine jB ?_ | (with_reducible apply cW (c := true)); rfl; rfl; (exact cw (by omega)) | (with_reducible apply cW (c := false)); rfl; rfl; (exact c3 (by omega)))
  ((refine bc rfl (cu rfl rfl rfl aN) ?_))
  exact ah.aQ.refl _
theorem adz {x y : hR} (aa : lK x) (ai : lK y) : aC ag 208 [uk x, uk y] (uk (qP x y)) := by
 refine adA (Ie aa ai) ?_;rcases N5 x y with ⟨e, h⟩ | ⟨e, h⟩ <;> rw [e]
 ·by_cases h1 : 0 < hG x y
  ·exact .inl ⟨h1, rfl, rfl, rfl⟩
  ·rcases h with h | ⟨h, k⟩
   ·exact absurd h h1
   ·exact .inr (.inl ⟨h1, h, k, rfl, rfl, rfl⟩)
 ·have h1 : ¬ 0 < hG x y := fun k => h (.inl k)
  by_cases h2 : hG x y = 0
  ·refine .inr (.inr (.inl ⟨h1, h2, ?_, rfl, rfl, rfl⟩));cases ai : y.own with
   | false => rfl
   | true => exact absurd (.inr ⟨h2, ai⟩) h
  ·exact .inr (.inr (.inr ⟨h1, h2, rfl, rfl, rfl⟩))
theorem adl {n d m e c : Int} {o q : Bool} {b6 cD : Int} {fp : Bool} (aT : aC ag 200 [j6 n d o, j6 m e q] (aH c)) (cs : (c < 0 ∧ b6 = n ∧ cD = d ∧ fp = o) ∨ (¬ c < 0 ∧ c = 0 ∧ q = true ∧ b6 = n ∧ cD = d ∧ fp = o) ∨ (¬ c < 0 ∧ c = 0 ∧ q = false ∧ b6 = m ∧ cD = e ∧ fp = q) ∨ (¬ c < 0 ∧ ¬ c = 0 ∧ b6 = m ∧ cD = e ∧ fp = q)) : aC ag 209 [j6 n d o, j6 m e q] (j6 b6 cD fp) := by
 rcases cs with ⟨q1, rfl, rfl, rfl⟩ | ⟨q1, q2, rfl, rfl, rfl, rfl⟩ | ⟨q1, q2, rfl, rfl, rfl, rfl⟩ | ⟨q1, q2, rfl, rfl, rfl⟩
 all_goals
  refine bm (f := 209) Tryz.func209 rfl rfl rfl rfl ?_;(repeat first | refine ez ?_ | refine jB ?_ | (with_reducible apply cW (c := true)); rfl; rfl; (exact cw (by omega)) | (with_reducible apply cW (c := false)); rfl; rfl; (exact c3 (by omega)))
  ((refine bc rfl (cu rfl rfl rfl aN) ?_))
  exact ah.aQ.refl _
theorem adk {x y : hR} (aa : lK x) (ai : lK y) : aC ag 209 [uk x, uk y] (uk (qv x y)) := by
 refine adl (Ie aa ai) ?_;rcases Ly x y with ⟨e, h⟩ | ⟨e, h⟩ <;> rw [e]
 ·by_cases h1 : hG x y < 0
  ·exact .inl ⟨h1, rfl, rfl, rfl⟩
  ·rcases h with h | ⟨h, k⟩
   ·exact absurd h h1
   ·exact .inr (.inl ⟨h1, h, k, rfl, rfl, rfl⟩)
 ·have h1 : ¬ hG x y < 0 := fun k => h (.inl k)
  by_cases h2 : hG x y = 0
  ·refine .inr (.inr (.inl ⟨h1, h2, ?_, rfl, rfl, rfl⟩));cases ai : y.own with
   | false => rfl
   | true => exact absurd (.inr ⟨h2, ai⟩) h
  ·exact .inr (.inr (.inr ⟨h1, h2, rfl, rfl, rfl⟩))
abbrev gR (a1 a2 b1 b2 n d : Int) (o : Bool) (m e : Int) (q : Bool) : ah := .w (.agg [.c (.int .i64 a1), .c (.int .i64 a2), .c (.int .i64 b1), .c (.int .i64 b2), .c (.int .i64 n), .c (.int .i64 d), .c (.bool o), .c (.int .i64 m), .c (.int .i64 e), .c (.bool q)])
abbrev Eo (a1 a2 b1 b2 : Int) (p : Pa) : ah := gR a1 a2 b1 b2 p.f.n p.f.d p.f.own p.t.n p.t.d p.t.own
def yb (p : Pa) : Prop := lK p.f ∧ lK p.t
theorem ady {a1 a2 b1 b2 n d m e u v : Int} {o q w : Bool} {n' d' aG bq : Int} {eV bX : Bool} (hu : -1100000000 ≤ u ∧ u ≤ 1100000000) (hv : -1100000000 ≤ v ∧ v ≤ 1100000000)
  (cs : (0 < v - u ∧ aC ag 208 [j6 n d o, j6 (-u) (v - u) w] (j6 n' d' eV) ∧ aG = m ∧ bq = e ∧ bX = q) ∨ (¬ 0 < v - u ∧ v - u < 0 ∧ aC ag 209 [j6 m e q, j6 u (-(v - u)) w] (j6 aG bq bX) ∧ n' = n ∧ d' = d ∧ eV = o)
   ∨ (¬ 0 < v - u ∧ ¬ v - u < 0 ∧ u < 0 ∧ n' = 1 ∧ d' = 1 ∧ eV = false ∧ aG = 0 ∧ bq = 1 ∧ bX = false) ∨ (¬ 0 < v - u ∧ ¬ v - u < 0 ∧ ¬ u < 0 ∧ u = 0 ∧ w = false ∧ n' = 1 ∧ d' = 1 ∧ eV = false ∧ aG = 0 ∧ bq = 1 ∧ bX = false)
   ∨ (¬ 0 < v - u ∧ ¬ v - u < 0 ∧ ¬ u < 0 ∧ u = 0 ∧ w = true ∧ n' = n ∧ d' = d ∧ eV = o ∧ aG = m ∧ bq = e ∧ bX = q) ∨ (¬ 0 < v - u ∧ ¬ v - u < 0 ∧ ¬ u < 0 ∧ ¬ u = 0 ∧ n' = n ∧ d' = d ∧ eV = o ∧ aG = m ∧ bq = e ∧ bX = q)) :
  aC ag 199 [gR a1 a2 b1 b2 n d o m e q, aH u, aH v, bk w] (gR a1 a2 b1 b2 n' d' eV aG bq bX) := by
 rcases cs with ⟨q1, aT, rfl, rfl, rfl⟩ | ⟨q1, q2, aT, rfl, rfl, rfl⟩ | ⟨q1, q2, bO, rfl, rfl, rfl, rfl, rfl, rfl⟩ | ⟨q1, q2, bO, dj, rfl, rfl, rfl, rfl, rfl, rfl, rfl⟩ | ⟨q1, q2, bO, dj, rfl, rfl, rfl, rfl, rfl, rfl, rfl⟩ | ⟨q1, q2, bO, dj, rfl, rfl, rfl, rfl, rfl, rfl⟩
 ·refine bm (f := 199) Tryz.func199 rfl rfl rfl rfl ?_;(refine bY ?_)
  ((refine bc rfl (cu rfl rfl rfl aN) ?_))
  exact ah.aQ.refl _
 ·refine bm (f := 199) Tryz.func199 rfl rfl rfl rfl ?_;(refine bY ?_)
  ((refine bc rfl (cu rfl rfl rfl aN) ?_))
  exact ah.aQ.refl _
 all_goals
  refine bm (f := 199) Tryz.func199 rfl rfl rfl rfl ?_;(repeat first | refine ez ?_ | (with_reducible apply cW (c := true)); rfl; rfl; (exact cw (by omega)) | (with_reducible apply cW (c := false)); rfl; rfl; (exact c3 (by omega)))
  ((refine bc rfl (cu rfl rfl rfl aN) ?_))
  exact ah.aQ.refl _
theorem aaq {x y : hR} (aa : lK x) (ai : lK y) : lK (qP x y) := by unfold qP; split <;> assumption
theorem Wa {x y : hR} (aa : lK x) (ai : lK y) : lK (qv x y) := by unfold qv; split <;> assumption
theorem CX {p : Pa} {u v : Int} {w : Bool} (hp : yb p) (hu : -900000000 ≤ u ∧ u ≤ 900000000) (hv : -900000000 ≤ v ∧ v ≤ 900000000) : yb (n5 p u v w) := by
 unfold n5
 by_cases h1 : 0 < v - u
 ·rw [if_pos h1]; exact ⟨aaq hp.1 ⟨by simp only; omega, by simp only; omega⟩, hp.2⟩
 ·rw [if_neg h1]
  by_cases h2 : v - u < 0
  ·rw [if_pos h2]; exact ⟨hp.1, Wa hp.2 ⟨by simp only; omega, by simp only; omega⟩⟩
  ·rw [if_neg h2]
   split
   ·exact ⟨⟨by decide, by decide⟩, ⟨by decide, by decide⟩⟩
   ·exact hp
theorem DA {a1 a2 b1 b2 u v : Int} {w : Bool} {p : Pa} (hp : yb p) (hu : -900000000 ≤ u ∧ u ≤ 900000000) (hv : -900000000 ≤ v ∧ v ≤ 900000000) : aC ag 199 [Eo a1 a2 b1 b2 p, aH u, aH v, bk w] (Eo a1 a2 b1 b2 (n5 p u v w)) := by
 refine ady (by omega) (by omega) ?_;unfold n5
 by_cases h1 : 0 < v - u
 ·rw [if_pos h1];exact .inl ⟨h1, adz hp.1 (y := ⟨-u, v - u, w⟩) ⟨by simp only; omega, by simp only; omega⟩, rfl, rfl, rfl⟩
 ·rw [if_neg h1]
  by_cases h2 : v - u < 0
  ·rw [if_pos h2];exact .inr (.inl ⟨h1, h2, adk hp.2 (y := ⟨u, -(v - u), w⟩) ⟨by simp only; omega, by simp only; omega⟩, rfl, rfl, rfl⟩)
  ·rw [if_neg h2]
   by_cases an : u < 0
   ·rw [if_pos (.inl an)];exact .inr (.inr (.inl ⟨h1, h2, an, rfl, rfl, rfl, rfl, rfl, rfl⟩))
   ·by_cases aE : u = 0
    ·cases w with
     | false => rw [if_pos (.inr ⟨aE, rfl⟩)]; exact .inr (.inr (.inr (.inl ⟨h1, h2, an, aE, rfl, rfl, rfl, rfl, rfl, rfl, rfl⟩)))
     | true => rw [if_neg (by simp [an])]; exact .inr (.inr (.inr (.inr (.inl ⟨h1, h2, an, aE, rfl, rfl, rfl, rfl, rfl, rfl, rfl⟩))))
    ·rw [if_neg (by simp [an, aE])];exact .inr (.inr (.inr (.inr (.inr ⟨h1, h2, an, aE, rfl, rfl, rfl, rfl, rfl, rfl⟩))))
instance aiK : Js ag 230 4 false 1 := ⟨by kernel_rfl⟩
abbrev ul (l1 l2 h1 h2 : Int) (o p : Bool) : ah := .w (.agg [.c (.int .i64 l1), .c (.int .i64 l2), .c (.int .i64 h1), .c (.int .i64 h2), .c (.bool o), .c (.bool p)])
def s9 (n : Int) : Bool := decide (-536870912 ≤ n) && decide (n ≤ 536870912)
theorem K1 {n : Int} : s9 n = true ↔ -536870912 ≤ n ∧ n ≤ 536870912 := by unfold s9; simp
def tb (x y : Int) : Bool := s9 x && s9 y
theorem BI {x y : Int} : tb x y = true ↔ (-536870912 ≤ x ∧ x ≤ 536870912) ∧ -536870912 ≤ y ∧ y ≤ 536870912 := by unfold tb; rw [dc, K1, K1]
def CU (k : Int) : Bool := decide (0 ≤ k) && decide (k ≤ 2)
theorem adh {a1 a2 b1 b2 l1 l2 h1 h2 n d m e n' d' aG bq : Int} {o p q r bX aX : Bool} (aJ : -134217728 ≤ a1 ∧ a1 ≤ 134217728) (ab : -134217728 ≤ b1 ∧ b1 ≤ 134217728) (ak : -536870912 ≤ l1 ∧ l1 ≤ 536870912)
  (aT : aC ag 199 [gR a1 a2 b1 b2 n d q m e r, aH (2 * a1 - l1), aH (2 * b1 - l1), bk o] (gR a1 a2 b1 b2 n' d' bX aG bq aX)) : aC ag 173 [ul l1 l2 h1 h2 o p, gR a1 a2 b1 b2 n d q m e r] (gR a1 a2 b1 b2 n' d' bX aG bq aX) := by
 refine bm (f := 173) Tryz.func173 rfl rfl rfl rfl ?_;(refine bY ?_)
 ((refine bc rfl (cu rfl rfl rfl aN) ?_))
 exact ah.aQ.refl _
theorem adg {a1 a2 b1 b2 l1 l2 h1 h2 n d m e n' d' aG bq : Int} {o p q r bX aX : Bool} (aJ : -134217728 ≤ a2 ∧ a2 ≤ 134217728) (ab : -134217728 ≤ b2 ∧ b2 ≤ 134217728) (ak : -536870912 ≤ l2 ∧ l2 ≤ 536870912)
  (aT : aC ag 199 [gR a1 a2 b1 b2 n d q m e r, aH (2 * a2 - l2), aH (2 * b2 - l2), bk o] (gR a1 a2 b1 b2 n' d' bX aG bq aX)) : aC ag 174 [ul l1 l2 h1 h2 o p, gR a1 a2 b1 b2 n d q m e r] (gR a1 a2 b1 b2 n' d' bX aG bq aX) := by
 refine bm (f := 174) Tryz.func174 rfl rfl rfl rfl ?_;(refine bY ?_)
 ((refine bc rfl (cu rfl rfl rfl aN) ?_))
 exact ah.aQ.refl _
theorem adi {a1 a2 b1 b2 l1 l2 h1 h2 n d m e n' d' aG bq : Int} {o p q r bX aX : Bool} (aJ : -134217728 ≤ a1 ∧ a1 ≤ 134217728) (ab : -134217728 ≤ b1 ∧ b1 ≤ 134217728) (ak : -536870912 ≤ h1 ∧ h1 ≤ 536870912)
  (aT : aC ag 199 [gR a1 a2 b1 b2 n d q m e r, aH (h1 - 2 * a1), aH (h1 - 2 * b1), bk p] (gR a1 a2 b1 b2 n' d' bX aG bq aX)) : aC ag 175 [ul l1 l2 h1 h2 o p, gR a1 a2 b1 b2 n d q m e r] (gR a1 a2 b1 b2 n' d' bX aG bq aX) := by
 refine bm (f := 175) Tryz.func175 rfl rfl rfl rfl ?_;(refine bY ?_)
 ((refine bc rfl (cu rfl rfl rfl aN) ?_))
 exact ah.aQ.refl _
theorem adf {a1 a2 b1 b2 l1 l2 h1 h2 n d m e n' d' aG bq : Int} {o p q r bX aX : Bool} (aJ : -134217728 ≤ a2 ∧ a2 ≤ 134217728) (ab : -134217728 ≤ b2 ∧ b2 ≤ 134217728) (ak : -536870912 ≤ h2 ∧ h2 ≤ 536870912)
  (aT : aC ag 199 [gR a1 a2 b1 b2 n d q m e r, aH (h2 - 2 * a2), aH (h2 - 2 * b2), bk p] (gR a1 a2 b1 b2 n' d' bX aG bq aX)) : aC ag 176 [ul l1 l2 h1 h2 o p, gR a1 a2 b1 b2 n d q m e r] (gR a1 a2 b1 b2 n' d' bX aG bq aX) := by
 refine bm (f := 176) Tryz.func176 rfl rfl rfl rfl ?_;(refine bY ?_)
 ((refine bc rfl (cu rfl rfl rfl aN) ?_))
 exact ah.aQ.refl _
theorem ac2 {a1 a2 b1 b2 : Int} : aC ag 172 [aK a1 a2, aK b1 b2] (Eo a1 a2 b1 b2 uK) := by
 refine bm (f := 172) Tryz.func172 rfl rfl rfl rfl ?_;(refine eF ?_)
 ((refine bc rfl (cu rfl rfl rfl aN) ?_))
 exact ah.aQ.refl _
theorem adt {a1 a2 b1 b2 n d m e c : Int} {o q r : Bool} (aT : aC ag 200 [j6 n d o, j6 m e q] (aH c)) (cs : (c < 0 ∧ r = true) ∨ (¬ c < 0 ∧ c = 0 ∧ o = true ∧ r = q) ∨ (¬ c < 0 ∧ c = 0 ∧ o = false ∧ r = false) ∨ (¬ c < 0 ∧ ¬ c = 0 ∧ r = false)) : aC ag 177 [gR a1 a2 b1 b2 n d o m e q] (bk r) := by
 rcases cs with ⟨q1, rfl⟩ | ⟨q1, q2, rfl, rfl⟩ | ⟨q1, q2, rfl, rfl⟩ | ⟨q1, q2, rfl⟩
 all_goals
  refine bm (f := 177) Tryz.func177 rfl rfl rfl rfl ?_;(repeat first | refine ez ?_ | refine jB ?_ | (with_reducible apply cW (c := true)); rfl; rfl; (exact cw (by omega)) | (with_reducible apply cW (c := false)); rfl; rfl; (exact c3 (by omega)))
  ((refine bc rfl (bf rfl aN) ?_))
  exact ah.aQ.refl _
theorem ads {a1 a2 b1 b2 : Int} {p : Pa} (hp : yb p) : aC ag 177 [Eo a1 a2 b1 b2 p] (bk (wx p)) := by
 refine adt (Ie hp.1 hp.2) ?_;unfold wx
 by_cases h1 : hG p.f p.t < 0
 ·exact .inl ⟨h1, by rw [cw h1]; rfl⟩
 ·rw [c3 h1]
  by_cases h2 : hG p.f p.t = 0
  ·rw [cw h2];cases an : p.f.own with
   | true => exact .inr (.inl ⟨h1, h2, rfl, rfl⟩)
   | false => exact .inr (.inr (.inl ⟨h1, h2, rfl, rfl⟩))
  ·exact .inr (.inr (.inr ⟨h1, h2, by rw [c3 h2]; rfl⟩))
theorem PP {n : Int} {b : Bool} (ab : s9 n = b) : aC ag 198 [aH n] (bk b) := by
 have cs : (-536870912 ≤ n ∧ n ≤ 536870912 ∧ b = true) ∨ (-536870912 ≤ n ∧ ¬ n ≤ 536870912 ∧ b = false) ∨ (¬ -536870912 ≤ n ∧ b = false) := by
  rw [← ab]; unfold s9
  by_cases h1 : -536870912 ≤ n <;> by_cases h2 : n ≤ 536870912 <;> simp [h1, h2]
 clear ab;rcases cs with ⟨h1, h2, rfl⟩ | ⟨h1, h2, rfl⟩ | ⟨h1, rfl⟩
 all_goals
  refine bm (f := 198) Tryz.func198 rfl rfl rfl rfl ?_;(repeat first | refine ez ?_ | (with_reducible apply cW (c := true)); rfl; rfl; (exact cw (by omega)) | (with_reducible apply cW (c := false)); rfl; rfl; (exact c3 (by omega)))
  ((refine bc rfl (bf rfl aN) ?_))
  first | exact ah.aQ.refl _ | exact ah.aQ.of_eq (by rw [cw h2]; rfl) | exact ah.aQ.of_eq (by rw [c3 h2]; rfl)
theorem Dz {x y : Int} {b : Bool} (ab : tb x y = b) : aC ag 170 [aK x y] (bk b) := by
 have aT := PP (n := x) rfl;have bH := PP (n := y) rfl;unfold tb at ab;cases q1 : s9 x <;> cases q2 : s9 y <;> rw [q1] at aT <;> rw [q2] at bH <;> rw [q1, q2] at ab <;> subst ab <;> clear q1 q2
 all_goals
  refine bm (f := 170) Tryz.func170 rfl rfl rfl rfl ?_;(refine bY ?_)
  ((refine bc rfl (bf rfl aN) ?_))
  exact ah.aQ.refl _
theorem PT {k : Int} {b : Bool} (ab : CU k = b) : aC ag 171 [aH k] (bk b) := by
 have cs : (k = 0 ∧ b = true) ∨ (¬ k = 0 ∧ k = 1 ∧ b = true) ∨ (¬ k = 0 ∧ ¬ k = 1 ∧ k = 2 ∧ b = true) ∨ (¬ k = 0 ∧ ¬ k = 1 ∧ ¬ k = 2 ∧ b = false) := by
  rw [← ab]; unfold CU
  by_cases h1 : k = 0
  ·exact .inl ⟨h1, by subst h1; rfl⟩
  ·by_cases h2 : k = 1
   ·exact .inr (.inl ⟨h1, h2, by subst h2; rfl⟩)
   ·by_cases an : k = 2
    ·exact .inr (.inr (.inl ⟨h1, h2, an, by subst an; rfl⟩))
    ·refine .inr (.inr (.inr ⟨h1, h2, an, ?_⟩));rw [Bool.and_eq_false_iff, k5, k5];omega
 clear ab;rcases cs with ⟨h1, rfl⟩ | ⟨h1, h2, rfl⟩ | ⟨h1, h2, an, rfl⟩ | ⟨h1, h2, an, rfl⟩
 all_goals
  refine bm (f := 171) Tryz.func171 rfl rfl rfl rfl ?_;(repeat first | refine ez ?_ | (with_reducible apply cW (c := true)); rfl; rfl; (exact cw (by omega)) | (with_reducible apply cW (c := false)); rfl; rfl; (exact c3 (by omega)))
  ((refine bc rfl (bf rfl aN) ?_))
  first | exact ah.aQ.refl _ | exact ah.aQ.of_eq (by rw [cw an]; rfl) | exact ah.aQ.of_eq (by rw [c3 an]; rfl)
theorem acI {a1 a2 b1 b2 l1 l2 h1 h2 k : Int} {o p r : Bool} {dp d1 m1 aF dX d2 m2 aM ja d3 m3 cg l5 d4 m4 dZ : Int} {q1 b6 q2 cD bO fp dj kx : Bool} (ba : aC ag 123 [aK a1 a2] (bk true)) (ec : aC ag 123 [aK b1 b2] (bk true)) (EJ : aC ag 170 [aK l1 l2] (bk true)) (EK : aC ag 170 [aK h1 h2] (bk true)) (SR : aC ag 171 [aH k] (bk true))
  (Wm : (!decide (k = 2)) = o) (rP : decide (k = 1) = p) (bp : aC ag 172 [aK a1 a2, aK b1 b2] (gR a1 a2 b1 b2 0 1 true 1 1 true))
  (aT : aC ag 173 [ul l1 l2 h1 h2 o p, gR a1 a2 b1 b2 0 1 true 1 1 true] (gR a1 a2 b1 b2 dp d1 q1 m1 aF b6))
  (bH : aC ag 174 [ul l1 l2 h1 h2 o p, gR a1 a2 b1 b2 dp d1 q1 m1 aF b6] (gR a1 a2 b1 b2 dX d2 q2 m2 aM cD))
  (et : aC ag 175 [ul l1 l2 h1 h2 o p, gR a1 a2 b1 b2 dX d2 q2 m2 aM cD] (gR a1 a2 b1 b2 ja d3 bO m3 cg fp))
  (ld : aC ag 176 [ul l1 l2 h1 h2 o p, gR a1 a2 b1 b2 ja d3 bO m3 cg fp] (gR a1 a2 b1 b2 l5 d4 dj m4 dZ kx))
  (H1 : aC ag 177 [gR a1 a2 b1 b2 l5 d4 dj m4 dZ kx] (bk r)) :
  aC ag 155 [aK a1 a2, aK b1 b2, aK l1 l2, aK h1 h2, aH k] (bk r) := by
 subst Wm;subst rP;refine bm (f := 155) Tryz.func155 rfl rfl rfl rfl ?_;(refine bY ?_);refine UY 5 ?_;(refine bY ?_)
 ((refine bc rfl (bf rfl aN) ?_))
 exact ah.aQ.refl _
def dl (a1 a2 b1 b2 l1 l2 h1 h2 k : Int) : Pa := td (2 * a1 - l1) (2 * b1 - l1) (2 * a2 - l2) (2 * b2 - l2) (h1 - 2 * a1) (h1 - 2 * b1) (h2 - 2 * a2) (h2 - 2 * b2) (!decide (k = 2)) (decide (k = 1))
def xn (a1 a2 b1 b2 l1 l2 h1 h2 k : Int) : Bool := bA a1 a2 && bA b1 b2 && tb l1 l2 && tb h1 h2 && CU k
def xm (a1 a2 b1 b2 l1 l2 h1 h2 k : Int) : Bool := xn a1 a2 b1 b2 l1 l2 h1 h2 k && wx (dl a1 a2 b1 b2 l1 l2 h1 h2 k)
theorem acJ {a1 a2 b1 b2 l1 l2 h1 h2 k : Int} {b6 cD fp kx xH : Bool} (ba : aC ag 123 [aK a1 a2] (bk b6)) (ec : aC ag 123 [aK b1 b2] (bk cD)) (EJ : aC ag 170 [aK l1 l2] (bk fp)) (EK : aC ag 170 [aK h1 h2] (bk kx)) (SR : aC ag 171 [aH k] (bk xH)) (h : (b6 && cD && fp && kx && xH) = false) :
  aC ag 155 [aK a1 a2, aK b1 b2, aK l1 l2, aK h1 h2, aH k] (bk false) := by
 have cs : b6 = false ∨ (b6 = true ∧ cD = false) ∨ (b6 = true ∧ cD = true ∧ fp = false) ∨ (b6 = true ∧ cD = true ∧ fp = true ∧ kx = false) ∨ (b6 = true ∧ cD = true ∧ fp = true ∧ kx = true ∧ xH = false) := by
  cases b6 <;> cases cD <;> cases fp <;> cases kx <;> cases xH <;> simp_all
 clear h;rcases cs with rfl | ⟨rfl, rfl⟩ | ⟨rfl, rfl, rfl⟩ | ⟨rfl, rfl, rfl, rfl⟩ | ⟨rfl, rfl, rfl, rfl, rfl⟩
 all_goals
  refine bm (f := 155) Tryz.func155 rfl rfl rfl rfl ?_;(refine bY ?_)
  ((refine bc rfl (bf rfl aN) ?_))
  exact ah.aQ.refl _
theorem JX : yb uK := ⟨⟨by decide, by decide⟩, ⟨by decide, by decide⟩⟩
theorem acH {a1 a2 b1 b2 l1 l2 h1 h2 k : Int} : aC ag 155 [aK a1 a2, aK b1 b2, aK l1 l2, aK h1 h2, aH k] (bk (xm a1 a2 b1 b2 l1 l2 h1 h2 k)) := by
 unfold xm;cases ap : xn a1 a2 b1 b2 l1 l2 h1 h2 k with
 | false => exact acJ (oY rfl) (oY rfl) (Dz rfl) (Dz rfl) (PT rfl) ap
 | true =>
  rw [p0];unfold xn at ap;simp only [dc] at ap;obtain ⟨⟨⟨⟨QR, QS⟩, Q3⟩, Q2⟩, ae9⟩ := ap;have CH := k8.1 QR;have CI := k8.1 QS;have NB := BI.1 Q3;have b5 := BI.1 Q2;unfold dl td;have o1 := CX (u := 2 * a1 - l1) (v := 2 * b1 - l1) (w := !decide (k = 2)) JX (by omega) (by omega);have o2 := CX (u := 2 * a2 - l2) (v := 2 * b2 - l2) (w := !decide (k = 2)) o1 (by omega) (by omega);have Ph := CX (u := h1 - 2 * a1) (v := h1 - 2 * b1) (w := decide (k = 1)) o2 (by omega) (by omega);have abY := CX (u := h2 - 2 * a2) (v := h2 - 2 * b2) (w := decide (k = 1)) Ph (by omega) (by omega);exact acI (oY QR) (oY QS) (Dz Q3) (Dz Q2) (PT ae9) rfl rfl ac2 (adh CH.1 CI.1 NB.1 (DA JX (by omega) (by omega))) (adg CH.2 CI.2 NB.2 (DA o1 (by omega) (by omega))) (adi CH.1 CI.1 b5.1 (DA o2 (by omega) (by omega))) (adf CH.2 CI.2 b5.2 (DA Ph (by omega) (by omega))) (ads abY)
theorem PH {a1 a2 b1 b2 x y k : Int} {b6 cD : Bool} (uv : aC ag 153 [aH k] (bk b6)) (SF : aC ag 38 [aK x y, aH k] (bk cD)) (h : (b6 && cD) = false) : aC ag 131 [aK a1 a2, aK b1 b2, aK x y, aH k] (bk false) := by
 have cs : b6 = false ∨ (b6 = true ∧ cD = false) := by cases b6 <;> cases cD <;> simp_all
 clear h;rcases cs with rfl | ⟨rfl, rfl⟩
 all_goals
  refine bm (f := 131) Tryz.func131 rfl rfl rfl rfl ?_;(refine bY ?_)
  ((refine bc rfl (bf rfl aN) ?_))
  exact ah.aQ.refl _
theorem acC {a1 a2 b1 b2 x y k l1 l2 h1 h2 : Int} {r : Bool} (uv : aC ag 153 [aH k] (bk true)) (SF : aC ag 38 [aK x y, aH k] (bk true)) (ahl : aC ag 154 [aK x y, aH k] (.cr [.agg [.c (.int .i64 l1), .c (.int .i64 l2)], .agg [.c (.int .i64 h1), .c (.int .i64 h2)]])) (M : aC ag 155 [aK a1 a2, aK b1 b2, aK l1 l2, aK h1 h2, aH 0] (bk r)) : aC ag 131 [aK a1 a2, aK b1 b2, aK x y, aH k] (bk r) := by
 refine bm (f := 131) Tryz.func131 rfl rfl rfl rfl ?_;(refine bY ?_)
 ((refine bc rfl (bf rfl aN) ?_))
 exact ah.aQ.refl _
def w6 (a1 a2 b1 b2 x y k : Int) : Bool := decide (0 ≤ k) && decide (k ≤ 28) && eM k.toNat x y && xm a1 a2 b1 b2 (2 * (2 ^ k.toNat * x) - 2 ^ k.toNat) (2 * (2 ^ k.toNat * y) - 2 ^ k.toNat) (2 * (2 ^ k.toNat * x) + 2 ^ k.toNat) (2 * (2 ^ k.toNat * y) + 2 ^ k.toNat) 0
theorem ZI {k : Int} (h : (decide (0 ≤ k) && decide (k ≤ 28)) = true) : gB k k.toNat := by
 simp only [dc, cq] at h;unfold gB;omega
theorem acB {a1 a2 b1 b2 x y k : Int} : aC ag 131 [aK a1 a2, aK b1 b2, aK x y, aH k] (bk (w6 a1 a2 b1 b2 x y k)) := by
 unfold w6;have uv := adq (k := k);cases af : (decide (0 ≤ k) && decide (k ≤ 28)) with
 | false =>
  rw [af] at uv;obtain ⟨r, ap⟩ := ZH k;exact PH uv (zZ ap rfl) rfl
 | true =>
  rw [af] at uv;have ap := ZI af;cases hi : eM k.toNat x y with
  | false => exact PH uv (zZ ap hi) rfl
  | true => exact acC uv (zZ ap hi) (acX ap hi) acH
end Go.Proofs.YtbcecodakfejaaaGreat
namespace Go.Proofs.YtbcecodakfejaaaGreat
def Jw (a1 a2 b1 b2 l1 l2 h1 h2 k : Int) : Prop := Met (2 * a1 - l1) (2 * b1 - l1) (2 * a2 - l2) (2 * b2 - l2) (h1 - 2 * a1) (h1 - 2 * b1) (h2 - 2 * a2) (h2 - 2 * b2) (!decide (k = 2)) (decide (k = 1))
theorem HA {a1 a2 b1 b2 l1 l2 h1 h2 k : Int} : xm a1 a2 b1 b2 l1 l2 h1 h2 k = true ↔ xn a1 a2 b1 b2 l1 l2 h1 h2 k = true ∧ Jw a1 a2 b1 b2 l1 l2 h1 h2 k := by
 unfold xm dl Jw;rw [dc, VD]
theorem aaU {a1 a2 b1 b2 l1 l2 h1 h2 k : Int} : xn a1 a2 b1 b2 l1 l2 h1 h2 k = true ↔ bA a1 a2 = true ∧ bA b1 b2 = true ∧ tb l1 l2 = true ∧ tb h1 h2 = true ∧ CU k = true := by
 unfold xn;simp only [dc, and_assoc]
end Go.Proofs.YtbcecodakfejaaaGreat
namespace Go.Proofs.YtbcecodakfejaaaGreat
open Go.ChangeShapes Go.WideShapes Go.ChangeAt Go.RowKit Go.Joins
theorem acm : ownKnob ag.godebug = none := by kernel_rfl
def wO (P : Program) : Nat → TypeId → Bool
 | 0, _ => false
 | d + 1, t => match P.underlying t with
  | some .bool | some (.int _) | some .string => true
  | some (.struct bi) => bi.toList.all fun f => wO P d f.type
  | some (.array _ e) => wO P d e
  | _ => false
theorem mapM_flat {α β : Type} {f g : α → Option (β × List MemPlace)} : ∀ (l : List α) (xs : List (β × List MemPlace)), l.mapM f = some xs → (∀ a ∈ l, ∀ x, f a = some x → x.2 = [] ∧ g a = some (x.1, [])) → xs.flatMap (·.2) = [] ∧ l.mapM g = some xs
 | [], xs, h, _ => by cases h; exact ⟨rfl, rfl⟩
 | a :: l, xs, h, af => by
  rw [List.mapM_cons] at h;cases aJ : f a with
  | none => rw [aJ] at h; cases h
  | some b =>
   rw [aJ] at h;cases ak : l.mapM f with
   | none => rw [ak] at h; cases h
   | some bs =>
    rw [ak] at h;cases h;obtain ⟨h1, h2⟩ := af a (by simp) b aJ;obtain ⟨an, aE⟩ := mapM_flat l bs ak fun a' pD => af a' (by simp [pD]);refine ⟨by simp [h1]; intro a' bT jm; have := List.flatMap_eq_nil_iff.1 an _ jm; exact this, ?_⟩;rw [List.mapM_cons, h2, aE];obtain ⟨b1, b2⟩ := b;simp only at h1;subst h1;rfl
section
variable {H : Type} {enc : TypeId × Value → H} {P : Program}
theorem Mb : ∀ (d : Nat) (t : TypeId), wO P d t = true → ∀ (fg : Nat) (w : World) (base : Nat) (sp : Nat → Bool) (held : Bool) (cs : List Value) (x : DataW H × List MemPlace), DataW.trod enc P w base sp held fg t cs = some x →
  x.2 = [] ∧ ∀ (w' : World) (pt : Nat) (p8 : Nat → Bool) (pF : Bool), DataW.trod enc P w' pt p8 pF fg t cs = some (x.1, [])
 | 0, _, h, _, _, _, _, _, _, _, _ => by cases h
 | d + 1, t, ar, 0, _, _, _, _, _, _, h => by simp [DataW.trod] at h
 | d + 1, t, ar, fg + 1, w, base, sp, held, cs, x, h => by
  have b5 := fun fW (YY : wO P d fW = true) => Mb d fW YY fg;rw [DataW.trod_step] at h;simp only [DataW.trod_step];unfold wO at ar;unfold DataW.trodStep at h ⊢;cases hu : P.underlying t with
  | none => rw [hu] at ar; cases ar
  | some D =>
   rw [hu] at ar h;cases D with
   | bool =>
    match cs, h with
    | [.bool b], h => cases h; exact ⟨rfl, fun _ _ _ _ => rfl⟩
   | int k =>
    match cs, h with
    | [.int k' n], h =>
     simp only at h ⊢
     split at h
     ·rename_i aj; cases h; exact ⟨rfl, fun _ _ _ _ => by rw [if_pos aj]⟩
     ·cases h
   | string =>
    match cs, h with
    | [.string s], h =>
     simp only at h ⊢
     split at h
     ·rename_i aj; cases h; exact ⟨rfl, fun _ _ _ _ => by rw [if_pos aj]⟩
     ·cases h
   | struct bi =>
    simp only at h ⊢ ar
    split at h
    ·rename_i aj;simp only [Option.map_eq_some_iff] at h;obtain ⟨xs, aa, rfl⟩ := h;have dF := cB.1 ar;refine ⟨?_, fun w' pt p8 pF => ?_⟩
     ·exact (mapM_flat (g := fun f => DataW.trod enc P w base sp held fg f.type ((cs.drop f.offset).take (P.cellsOf f.type))) _ _ aa fun f ni y ai => ⟨(b5 f.type (dF f ni) w base sp held _ y ai).1, (b5 f.type (dF f ni) w base sp held _ y ai).2 w base sp held⟩).1
     ·have := mapM_flat (g := fun f => DataW.trod enc P w' pt p8 pF fg f.type ((cs.drop f.offset).take (P.cellsOf f.type))) _ _ aa fun f ni y ai => ⟨(b5 f.type (dF f ni) w base sp held _ y ai).1, (b5 f.type (dF f ni) w base sp held _ y ai).2 w' pt p8 pF⟩;rw [if_pos aj, this.2];simp only [gL, this.1]
    ·cases h
   | array n e =>
    simp only at h ⊢ ar
    split at h
    ·rename_i aj;simp only [Option.map_eq_some_iff] at h;obtain ⟨xs, aa, rfl⟩ := h;refine ⟨?_, fun w' pt p8 pF => ?_⟩
     ·exact (mapM_flat (g := fun i => DataW.trod enc P w base sp held fg e ((cs.drop (i * P.cellsOf e)).take (P.cellsOf e))) _ _ aa fun f _ y ai => ⟨(b5 e ar w base sp held _ y ai).1, (b5 e ar w base sp held _ y ai).2 w base sp held⟩).1
     ·have := mapM_flat (g := fun i => DataW.trod enc P w' pt p8 pF fg e ((cs.drop (i * P.cellsOf e)).take (P.cellsOf e))) _ _ aa fun f _ y ai => ⟨(b5 e ar w base sp held _ y ai).1, (b5 e ar w base sp held _ y ai).2 w' pt p8 pF⟩;rw [if_pos aj, this.2];simp only [gL, this.1]
    ·cases h
   | _ => cases ar
theorem L9 {d : Nat} {t : TypeId} (ar : wO P d t = true) {w : World} {base : Nat} {sp : Nat → Bool} {held : Bool} {v : Value} {D : DataW H} {p : List MemPlace} (h : DataW.Trod enc P w base sp held t v D p) :
  p = [] ∧ ∀ (w' : World) (pt : Nat) (p8 : Nat → Bool) (pF : Bool), DataW.Trod enc P w' pt p8 pF t v D [] := by
 obtain ⟨fg, h⟩ := h;obtain ⟨h1, h2⟩ := Mb d t ar fg w base sp held _ _ h;exact ⟨h1, fun w' pt p8 pF => ⟨fg, h2 w' pt p8 pF⟩⟩
end
section
variable {P : Program} {W : World} {r : Reach} {b : Nat} {t : TypeId} {v : Value}
theorem Ps {k : IntKind} (hu : P.underlying t = some (.int k)) (h : Cell.okWide P W r b t v) : ∃ n, v = .int k n ∧ k.min ≤ n ∧ n ≤ k.max := by
 unfold Cell.okWide Cell.ok at h;rw [hu] at h;cases v <;> simp only at h;rename_i k' n;obtain ⟨rfl, h⟩ := h;exact ⟨n, rfl, by simpa [IntKind.has] using h⟩
theorem Pt {D : TypeDesc} (hu : P.underlying t = some D) (hs : ∀ bi, D ≠ .struct bi) (aJ : ∀ n e, D ≠ .array n e) (h : Value.okWide P W r b t v) : Cell.okWide P W r b t v := by
 unfold Value.okWide at h;rw [hu] at h;cases D <;> first | exact h | exact absurd rfl (hs _) | exact absurd rfl (aJ _ _)
end
end Go.Proofs.YtbcecodakfejaaaGreat
namespace Go.Proofs.YtbcecodakfejaaaGreat
open Go.RowKit
def Tl (k : Int) (r : Nat) (m : Nat) (aL : List (Nat × ah)) (bd : List (Nat × List AC)) : Prop :=
 ∃ (i : Nat) (v j : Int), i ≤ r ∧ m = r - i ∧ v = 2 ^ i ∧ j = i ∧ bd = [] ∧ aL = [(0, aH k), (3, aH v), (4, aH j)]
theorem aej {i r : Nat} (h : i ≤ r) (ap : r ≤ 28) : (0 : Int) < 2 ^ i ∧ (2 : Int) ^ i ≤ 268435456 := by
 have := DK (r := i) (by omega);omega
theorem acY {k : Int} {r : Nat} (h : gB k r) : aC ag 36 [aH k] (aH (2 ^ r)) := by
 have aT := acT h;have ap := h.1;clear h;refine bm (f := 36) Tryz.func36 rfl rfl rfl rfl ?_;(refine eF ?_);refine s8 14 (Tl k r) r _ [] ⟨0, 1, 0, dC _, rfl, rfl, rfl, rfl, rfl⟩ rfl ⟨rfl, rfl, rfl, trivial⟩ trivial rfl ?_;rintro m aL bd ⟨i, v, j, hi, rfl, hv, ae, rfl, rfl⟩ c0;clear c0
 by_cases q : i < r
 ·have bX : j < r := by omega
  have aM : 2 * v = 2 ^ (i + 1) := by rw [hv, oa, hA]
  obtain ⟨fw, b1⟩ := aej hi ap;rw [← hv] at fw b1;have jQ : (0 : Int) ≤ j ∧ j ≤ 28 := by omega
  clear hv;(refine bY ?_);exact ⟨r - (i + 1), _, [], by omega, ⟨i + 1, 2 * v, j + 1, by omega, rfl, aM, by omega, rfl, rfl⟩, rfl, ⟨rfl, rfl, rfl, trivial⟩, trivial, rfl⟩
 ·have bX : ¬ j < r := by omega
  have e : i = r := by omega
  rw [e] at hv;clear hi q e;(refine bY ?_)
  ((refine bc rfl (bf rfl aN) ?_))
  exact ah.aQ.of_eq (by rw [hv]; rfl)
theorem WW {P v : Int} (ej : 0 < P) : 2 * ((2 * v + P) / (2 * P) * P) ≤ 2 * v + P ∧ 2 * v + P < 2 * ((2 * v + P) / (2 * P) * P) + 2 * P := by
 have h1 := pZ (2 * v + P) (2 * P);have h2 := n9 (2 * v + P) (show 2 * P ≠ 0 by omega);have an := nF (2 * v + P) (show 0 < 2 * P by omega);have e : 2 * P * ((2 * v + P) / (2 * P)) = 2 * ((2 * v + P) / (2 * P) * P) := by rw [kv, hA P]
 omega
theorem Gs {a1 a2 b1 b2 q1 q2 : Int} {r : Nat} (ap : r ≤ 28) : w6 a1 a2 b1 b2 q1 q2 r = true ↔ eM r q1 q2 = true ∧ xm a1 a2 b1 b2 (2 * (2 ^ r * q1) - 2 ^ r) (2 * (2 ^ r * q2) - 2 ^ r) (2 * (2 ^ r * q1) + 2 ^ r) (2 * (2 ^ r * q2) + 2 ^ r) 0 = true := by
 unfold w6;have g1 : decide ((0 : Int) ≤ (r : Int)) = true := cw (by omega);have g2 : decide ((r : Int) ≤ 28) = true := cw (by omega);rw [g1, g2, kK, Bool.and_self, p0, dc]
end Go.Proofs.YtbcecodakfejaaaGreat
