/-
  My own texts, without what this claim does not need. My own text.
-/
import Derived.Test.YtpochbhajmbfdaaGreatProg
import Derived.ProofKit
import Derived.OpenShut
import Derived.Deep.DeepHandedRow
import Derived.Lib.LaidTab
import Derived.Lib.SmallJoins
import Derived.Test.YtpochbhajmbfdaaGreatSTurnedK7
set_option maxRecDepth 100000
set_option maxHeartbeats 64000000
set_option linter.unusedVariables false
set_option linter.unusedSimpArgs false
set_option linter.unusedSectionVars false
open Go.Proofs.Tryz renaming prog → aj
namespace Go.Proofs.YtpochbhajmbfdaaGreat
open Go.RowKit
def hg (k : Int) (r : Nat) : Prop := r ≤ 28 ∧ ((k < 0 ∧ r = 0) ∨ (28 < k ∧ r = 28) ∨ (r : Int) = k)
theorem aaP (k : Int) : ∃ r, hg k r := by
 by_cases h : k < 0
 ·exact ⟨0, by omega, .inl ⟨h, rfl⟩⟩
 ·by_cases ar : 28 < k
  ·exact ⟨28, by omega, .inr (.inl ⟨ar, rfl⟩)⟩
  ·exact ⟨k.toNat, by omega, .inr (.inr (by omega))⟩
theorem wP {a b : Int} {w w' : World} (e : a = b) (h : Below w.heap.size w w') : hD (.int .i64 b) w (.returned (.int .i64 a)) w' := ⟨by rw [e], h⟩
theorem yD {a b : Bool} {w w' : World} (e : a = b) (h : Below w.heap.size w w') : hD (.bool b) w (.returned (.bool a)) w' := ⟨by rw [e], h⟩
theorem A7 (k : Int) (r : Nat) (w : World) (h : hg k r) : Calls aj 136 #[.int .i64 k] w (hD (.int .i64 r) w) := by
 have nT := Lib.hid h;clear h
 go_enter Tryz.func136, Tryz.ntmps136
 go_wp2
 all_goals
  go_ret
  refine wP ?_ (Below.refl _ _);have h1 := nT.out;unfold hg at h1;omega
theorem SQ (n : Int) (h : -9223372036854775808 ≤ n ∧ n ≤ 9223372036854775807) : wrap64 n = n := by unfold wrap64; omega
theorem JQ {r : Nat} (h : r ≤ 28) : (1 : Int) ≤ 2 ^ r ∧ (2 : Int) ^ r ≤ 268435456 := by
 have h1 := Nat.pow_le_pow_right (show 0 < 2 by decide) h;have h2 := Nat.pow_pos (show 0 < 2 by decide) (n := r);have e : ((2 : Int) ^ r) = ((2 ^ r : Nat) : Int) := by simp
 rw [show (2 : Nat) ^ 28 = 268435456 by decide] at h1;rw [e];omega
def cI (v : Int) (r : Nat) : Int := (2 * v + 2 ^ r) / (2 * 2 ^ r)
theorem Ye (v : Int) : cI v 0 = v := by unfold cI; omega
theorem Yd (v : Int) (r : Nat) : cI v (r + 1) = v / 2 ^ (r + 1) + v / 2 ^ r % 2 := by
 unfold cI;have hp : (0 : Int) < 2 ^ r := jM (by decide);rw [Int.pow_succ];generalize (2 : Int) ^ r = P at *
 have aG : (2 * v + P * 2) / (2 * (P * 2)) = (v + P) / (P * 2) := by
  rw [show 2 * v + P * 2 = 2 * (v + P) by omega, Int.mul_ediv_mul_of_pos _ _ (by decide)]
 rw [aG, ← yx (by omega), ← yx (by omega), show v + P = v + 1 * P by omega, Int.add_mul_ediv_right _ _ (by omega)];omega
theorem Vi (x : Int) : bits BinOp.and IntKind.i64 x 1 = x % 2 := by
 unfold bits
 have h : (BitVec.ofInt 64 x &&& BitVec.ofInt 64 1).toNat = (x % 2).toNat := by
  rw [BitVec.toNat_and, BitVec.toNat_ofInt, BitVec.toNat_ofInt, show ((1 : Int) % ((2 ^ 64 : Nat) : Int)).toNat = 1 by decide, Nat.and_one_is_mod];omega
 show IntKind.i64.wrap ((BitVec.ofInt 64 x &&& BitVec.ofInt 64 1).toNat : Int) = x % 2;rw [h];have h2 : ((x % 2).toNat : Int) = x % 2 := by omega
 rw [h2];rcases (show x % 2 = 0 ∨ x % 2 = 1 by omega) with e | e <;> rw [e] <;> decide
theorem agB {v : Int} (r : Nat) (v0 : -9223372036854775808 ≤ v) (v1 : v < 9223372036854775808) : wrap64 (v / 2 ^ (r + 1) + v / 2 ^ r % 2) = cI v (r + 1) := by
 rw [Yd];refine SQ _ ?_;have hp : (0 : Int) < 2 ^ r := jM (by decide);rw [Int.pow_succ, ← yx (by omega)]
 have h1 : -9223372036854775808 ≤ v / 2 ^ r := by
  rw [qG hp];have := qA (show (1 : Int) ≤ 2 ^ r by omega) (show (0 : Int) ≤ 9223372036854775808 by omega);omega
 have h2 : v / 2 ^ r ≤ 9223372036854775807 := by
  by_cases h : 0 ≤ v
  ·have := Int.ediv_le_self (2 ^ r) h;omega
  ·have := Int.ediv_neg_of_neg_of_pos (show v < 0 by omega) hp;omega
 generalize v / 2 ^ r = q at *;omega
theorem XS (v k : Int) (w : World) (h : hg k 0) : Calls aj 72 #[.int .i64 v, .int .i64 k] w (hD (.int .i64 v) w) := by
 have nT := Lib.hid (fun w => A7 k 0 w h);clear h
 go_enter Tryz.func72, Tryz.ntmps72
 go_wp2_with (go_at_call 136; ((with_reducible refine (nT.out _).mono ?_); rintro e aT ⟨rfl, ab⟩))
 go_ret
 exact wP rfl (by (repeat first | with_reducible assumption))
theorem XR (v k : Int) (r : Nat) (w : World) (h : hg k (r + 1)) (v0 : -9223372036854775808 ≤ v) (v1 : v < 9223372036854775808) : Calls aj 72 #[.int .i64 v, .int .i64 k] w (hD (.int .i64 (cI v (r + 1))) w) := by
 have nT := Lib.hid (fun w => A7 k (r + 1) w h);have Ce := Lib.hid (agB r v0 v1);have al : r < 28 := by unfold hg at h; omega
 clear h v0 v1
 go_enter Tryz.func72, Tryz.ntmps72
 go_wp2_with (go_at_call 136; ((with_reducible refine (nT.out _).mono ?_); rintro e aT ⟨rfl, ab⟩))
 go_region
 go_wp2
 go_ret
 exact wP (by rw [Vi]; exact Ce.out) (by (repeat first | with_reducible assumption | with_reducible refine Below.drew ?_))
theorem XQ (v k : Int) (r : Nat) (w : World) (h : hg k r) (v0 : -9223372036854775808 ≤ v) (v1 : v < 9223372036854775808) : Calls aj 72 #[.int .i64 v, .int .i64 k] w (hD (.int .i64 (cI v r)) w) := by
 rcases r with _ | r
 ·rw [Ye]; exact XS v k w h
 ·exact XR v k r w h v0 v1
theorem ahr {r : Nat} (h : r ≤ 28) : wrap64 (2 ^ r) = 2 ^ r := SQ _ (by have := JQ h; omega)
theorem agl (k : Int) (r : Nat) (w : World) (h : hg k r) : Calls aj 78 #[.int .i64 k] w (hD (.int .i64 (2 ^ r)) w) := by
 have nT := Lib.hid (fun w => A7 k r w h);have al : r ≤ 28 := h.1;clear h
 go_enter Tryz.func78, Tryz.ntmps78
 go_wp2_with (go_at_call 136; ((with_reducible refine (nT.out _).mono ?_); rintro e aT ⟨rfl, ab⟩))
 go_ret
 exact wP (ahr al) (by (repeat first | with_reducible assumption))
def TQ (m : Int) (w : World) (e : Ending) (w' : World) : Prop := ∃ b, e = .returned (.func (Fn.func 196) #[] #[.pointer (some ⟨b, 0, none⟩)]) ∧ w'.cell? ⟨b, 0, none⟩ = some (.int .i64 m) ∧ Below w.heap.size w w'
theorem Qj (k : Int) (r : Nat) (w : World) (h : hg k r) : Calls aj 146 #[.int .i64 k] w (TQ (134217728 / 2 ^ r) w) := by
 have nT := Lib.hid (fun w => A7 k r w h);have al : r ≤ 28 := h.1;clear h
 go_enter Tryz.func146, Tryz.ntmps146
 go_wp2_with (go_at_call 136; ((with_reducible refine (nT.out _).mono ?_); rintro e aT ⟨rfl, ab⟩))
 go_ret
 exact ⟨_, rfl, by go_simp, by (repeat first | with_reducible assumption | with_reducible refine c7 ?_ _)⟩
def wi (m n : Int) : Bool := decide (-m ≤ n) && decide (n ≤ m)
theorem ER (b : Nat) (m n : Int) (w : World) (ak : w.cell? ⟨b, 0, none⟩ = some (.int .i64 m)) (m0 : 0 ≤ m) (m1 : m ≤ 134217728) : Calls aj 196 #[.int .i64 n, .pointer (some ⟨b, 0, none⟩)] w (hD (.bool (wi m n)) w) := by
 go_enter Tryz.func196, Tryz.ntmps196
 go_wp2
 ·go_ret
  exact yD (by unfold wi; rw [bF (show -m ≤ n by assumption)]; rfl) (Below.refl _ _)
 ·go_ret
  exact yD (by unfold wi; rw [b5 (show ¬ (-m ≤ n) by omega)]; rfl) (Below.refl _ _)
def e4 (r : Nat) (x y : Int) : Bool := wi (134217728 / 2 ^ r) x && wi (134217728 / 2 ^ r) y
theorem Hk (r : Nat) : (0 : Int) ≤ 134217728 / 2 ^ r ∧ (134217728 : Int) / 2 ^ r ≤ 134217728 := by
 have hp : (0 : Int) < 2 ^ r := jM (by decide);exact ⟨qE (by decide) (by omega), Int.ediv_le_self _ (by decide)⟩
theorem SO (r : Nat) (n : Int) : wi (134217728 / 2 ^ r) n = decide (-134217728 ≤ 2 ^ r * n ∧ 2 ^ r * n ≤ 134217728) := by
 have hp : (0 : Int) < 2 ^ r := jM (by decide);unfold wi;rw [mC, eh, cL, cL, cL, kf];generalize (2 : Int) ^ r = P at *;have h1 := qG (a := n) (b := 134217728) hp;have h2 := qG (a := -n) (b := 134217728) hp;rw [Int.neg_mul] at h2
 constructor
 ·intro ⟨q1, q2⟩;exact ⟨by have := h2.1 (by omega); omega, h1.1 q2⟩
 ·intro ⟨q1, q2⟩;exact ⟨by have := h2.2 (by omega); omega, h1.2 q2⟩
theorem Ei (r : Nat) (x y : Int) : e4 r x y = true ↔ (-134217728 ≤ 2 ^ r * x ∧ 2 ^ r * x ≤ 134217728) ∧ (-134217728 ≤ 2 ^ r * y ∧ 2 ^ r * y ≤ 134217728) := by
 unfold e4;rw [SO, SO, eh, cL, cL]
theorem Tz (x y k : Int) (r : Nat) (w : World) (h : hg k r) : Calls aj 77 #[.agg #[.int .i64 x, .int .i64 y], .int .i64 k] w (hD (.bool (e4 r x y)) w) := by
 have nT := Lib.hid (fun w => Qj k r w h);obtain ⟨m0, m1⟩ := Hk r;have Cf := Lib.hid (show e4 r x y = (wi (134217728 / 2 ^ r) x && wi (134217728 / 2 ^ r) y) from rfl);clear h;generalize (134217728 : Int) / 2 ^ r = M at *;have yY := Lib.hid m0;have yZ := Lib.hid m1;clear m0 m1
 go_enter Tryz.func77, Tryz.ntmps77
 go_wp2_with (first
  | (go_at_call 146; ((with_reducible refine (nT.out _).mono ?_); rintro e aT ⟨b, rfl, ak, ab⟩; have gI : ah aT (w.heap.size) (.int .i64 x) (.int .i64 y) := (by (repeat first | focus ((with_reducible refine ah.new ?_); simp; done) | with_reducible refine ah.call ?_ ab)); obtain ⟨⟨mi, mj⟩, mm, mn⟩ := id gI))
  | (go_at_call 196; ((with_reducible refine (ER b M x _ ak yY.out yZ.out).mono ?_); rintro e w2 ⟨rfl, b7⟩; have hH := (b7.cell (p := ⟨b, 0, none⟩) (World.block_lt_of_cell? _ _ ak)).trans ak; clear ak; have jy : ah w2 (w.heap.size) (.int .i64 x) (.int .i64 y) := (by (repeat first | with_reducible assumption | with_reducible refine ah.call ?_ b7)); obtain ⟨⟨pY, p7⟩, qd, qf⟩ := id jy))
  | (go_at_call 196; ((with_reducible refine (ER b M y _ hH yY.out yZ.out).mono ?_); rintro e w3 ⟨rfl, c9⟩)))
 ·go_ret
  exact yD (by rw [Cf.out]; simp_all) (by (repeat first | with_reducible exact Below.refl _ _ | with_reducible refine c7 ?_ _ | with_reducible refine cc ?_ c9 | with_reducible refine cc ?_ b7 | with_reducible refine cc ?_ ab))
 ·go_ret
  exact yD (by rw [Cf.out]; simp_all) (by (repeat first | with_reducible exact Below.refl _ _ | with_reducible refine c7 ?_ _ | with_reducible refine cc ?_ b7 | with_reducible refine cc ?_ ab))
theorem XP (k : Int) (w : World) : Calls aj 88 #[.int .i64 k] w (hD (.bool (decide (0 ≤ k) && decide (k ≤ 28))) w) := by
 go_enter Tryz.func88, Tryz.ntmps88
 go_wp2
 ·go_ret
  exact yD (by rw [bF (show 0 ≤ k by assumption)]; rfl) (Below.refl _ _)
 ·go_ret
  exact yD (by rw [b5 (show ¬ (0 ≤ k) by omega)]; rfl) (Below.refl _ _)
theorem F7 (n m : Int) (w : World) : Calls aj 285 #[.int .i64 n, .int .i64 m] w (hD (.int .i64 (gj n m)) w) := by
 go_enter Tryz.func285, Tryz.ntmps285
 go_wp2
 all_goals
  go_ret
  refine wP ?_ (Below.refl _ _);unfold gj
  repeat' split
  all_goals omega
def mz (x y x' y' : Int) : Int := if x = x' then gj y y' else gj x x'
theorem XO (x y x' y' : Int) (w : World) : Calls aj 261 #[.agg #[.int .i64 x, .int .i64 y], .agg #[.int .i64 x', .int .i64 y']] w (hD (.int .i64 (mz x y x' y')) w) := by
 have aP := Lib.hid (fun w => F7 x x' w);have b6 := Lib.hid (fun w => F7 y y' w);have oP : Hid (x = x' → gj y y' = mz x y x' y') := fun h => by unfold mz; rw [if_pos h]
 have lL : Hid (¬ (x = x') → gj x x' = mz x y x' y') := fun h => by unfold mz; rw [if_neg h]
 go_enter Tryz.func261, Tryz.ntmps261
 go_wp2_with (first
  | (go_at_call 285; ((with_reducible refine (aP.out _).mono ?_); rintro e aT ⟨rfl, ab⟩))
  | (go_at_call 285; ((with_reducible refine (b6.out _).mono ?_); rintro e aT ⟨rfl, ab⟩)))
 ·go_ret
  exact wP (lL.out (by simpa using ‹(x != x') = true›)) (by (repeat first | with_reducible exact Below.refl _ _ | with_reducible refine c7 ?_ _ | with_reducible refine cc ?_ ab))
 ·go_ret
  exact wP (oP.out (by simpa using ‹(x != x') = false›)) (by (repeat first | with_reducible exact Below.refl _ _ | with_reducible refine c7 ?_ _ | with_reducible refine cc ?_ ab))
end Go.Proofs.YtpochbhajmbfdaaGreat
namespace Go.Proofs.YtpochbhajmbfdaaGreat
open Go.RowKit
attribute [local go_sem ↓] Go.wp_at_zero Go.wp_at_succ
end Go.Proofs.YtpochbhajmbfdaaGreat
namespace Go.Proofs.YtpochbhajmbfdaaGreat
open Go.RowKit
attribute [local go_sem ↓] Go.wp_at_zero Go.wp_at_succ
def TX (s : Bool) (z : Int) (w : World) (e : Ending) (w' : World) : Prop := ∃ H L, e = .returned (.tuple #[.agg #[.int .i64 H, .int .u64 L], .bool s]) ∧ bz H L z ∧ Below w.heap.size w w'
def vo (v : Int) (b : Bool) (w : World) (e : Ending) (w' : World) : Prop := e = .returned (.tuple #[.int .i64 v, .bool b]) ∧ Below w.heap.size w w'
def T5 (w : World) (s : Bool) (z : Int) (u v : Value) (W : World) : Prop := ∃ g sC sD, u = .pointer (some ⟨g, 0, none⟩) ∧ v = .bool s ∧ bz sC sD z ∧ ah W g (.int .i64 sC) (.int .u64 sD) ∧ Below w.heap.size w W
theorem Kn (aI ea ar cF k : Int) (r : Nat) (s : Bool) (z v : Int) (b : Bool) (w : World) (h : hg k r)
  (KS : ∀ w, Calls aj 240 #[.agg #[.int .i64 aI, .int .u64 ea, .int .i64 ar, .int .u64 cF], .int .i64 r] w (TX s z w))
  (hv : (s = false ∧ v = 0 ∧ b = false) ∨ (s = true ∧ small z = false ∧ v = 0 ∧ b = false) ∨ (s = true ∧ small z = true ∧ wi (134217728 / 2 ^ r) z = false ∧ v = 0 ∧ b = false) ∨ (s = true ∧ small z = true ∧ wi (134217728 / 2 ^ r) z = true ∧ v = z ∧ b = true)) :
  Calls aj 215 #[.agg #[.int .i64 aI, .int .u64 ea, .int .i64 ar, .int .u64 cF], .int .i64 k] w (vo v b w) := by
 have nU := Lib.hid (fun w => A7 k r w h);have Ga := Lib.hid (fun w => Qj k r w h);have Ce := Lib.hid KS;obtain ⟨m0, m1⟩ := Hk r;clear h KS;generalize (134217728 : Int) / 2 ^ r = M at *;have yY := Lib.hid m0;have yZ := Lib.hid m1;have r9 := Lib.hid hv;clear m0 m1 hv
 go_enter Tryz.func215, Tryz.ntmps215
 go_upto_region 1 with fail
 have fg : dB (w.alloc (.cells #[.int .i64 aI, .int .u64 ea, .int .i64 ar, .int .u64 cF] 161)) w.heap.size (.int .i64 aI) (.int .u64 ea) (.int .i64 ar) (.int .u64 cF) := (by (repeat first | focus ((with_reducible refine dB.new ?_); simp; done)));have GP : Below w.heap.size w (w.alloc (.cells #[.int .i64 aI, .int .u64 ea, .int .i64 ar, .int .u64 cF] 161)) := (by (repeat first | with_reducible exact Below.refl _ _ | with_reducible refine c7 ?_ _))
 go_cut [6, 7] (fun u v fM => T5 w s z u v fM)
 case first =>
  clear r9 Ga
  go_region_held3 (fun w' => w'.cell? ⟨w.heap.size, 0, none⟩ = some (.int .i64 aI) ∧ w'.cell? ⟨w.heap.size, 1, none⟩ = some (.int .u64 ea) ∧ w'.cell? ⟨w.heap.size, 2, none⟩ = some (.int .i64 ar) ∧ w'.cell? ⟨w.heap.size, 3, none⟩ = some (.int .u64 cF))
   (((refine dB.cs ?_); ((repeat first | with_reducible assumption | with_reducible refine dB.alloc ?_ _ | with_reducible refine dB.drew ?_ | focus ((with_reducible refine dB.set ?_ _ ?_); rotate_left; omega) | with_reducible refine dB.call ?_ b7 | with_reducible refine dB.call ?_ bE); done)))
   (first
    | (go_at_call 136; ((with_reducible refine (nU.out _).mono ?_); rintro e aT ⟨rfl, bE⟩; have IK := Below.size bE; (try simp at IK)))
    | (go_at_call 240; ((with_reducible refine (Ce.out _).mono ?_); rintro e w2 ⟨tA, tB, rfl, hu, b7⟩; have AA := Below.size b7; (try simp at AA); (try ((refine lP (p := ah w2 (w.heap.size + 1) (.int .i64 0) (.int .u64 0)) ?_ ?_); (repeat first | focus ((with_reducible refine ah.new ?_); simp; done) | with_reducible refine ah.alloc ?_ _ | with_reducible refine ah.drew ?_ | with_reducible refine ah.call ?_ b7 | with_reducible refine ah.call ?_ bE); intro r1; obtain ⟨⟨VL, Wt⟩, Xx, X0⟩ := id r1; have abw := ah.lt r1; have acG := iX (ah.lt r1); have ab8 := iY (ah.lt r1))); (try ((refine lP (p := ah w2 (aT.heap.size) (.int .i64 0) (.int .u64 0)) ?_ ?_); (repeat first | focus ((with_reducible refine ah.new ?_); simp; done) | with_reducible refine ah.alloc ?_ _ | with_reducible refine ah.drew ?_ | with_reducible refine ah.call ?_ b7 | with_reducible refine ah.call ?_ bE); intro r2; obtain ⟨⟨VM, Wu⟩, Xy, X1⟩ := id r2; have abx := ah.lt r2; have acH := iX (ah.lt r2); have ab9 := iY (ah.lt r2))))))
  all_goals
   go_wp2_with fail
   go_meet
   refine ⟨_, tA, tB, rfl, rfl, hu, ?_, ?_⟩
   ·(repeat first | focus ((with_reducible refine ah.new ?_); simp; done) | with_reducible refine ah.put ?_ | focus ((with_reducible apply fE.of); with_reducible assumption))
   ·(repeat first | with_reducible assumption | with_reducible refine c7 ?_ _ | focus ((with_reducible refine eV ?_ _ _ _ ?_); rotate_left; omega) | with_reducible refine Below.drew ?_ | with_reducible refine cc ?_ b7 | with_reducible refine cc ?_ bE)
 case rest =>
  obtain ⟨g, sC, sD, rfl, rfl, ax, rf, gY⟩ := hcut;clear fg GP Ce nU;obtain ⟨⟨SR, c0⟩, dm, la⟩ := id rf;rcases r9.out with ⟨rfl, rfl, rfl⟩ | ⟨rfl, q, rfl, rfl⟩ | ⟨rfl, q, bT, rfl, rfl⟩ | ⟨rfl, q, bT, rfl, rfl⟩
  ·clear r9
   go_wp2
   go_ret2
   exact ⟨rfl, by (repeat first | with_reducible assumption)⟩
  ·have oN : Hid (∀ w, Calls aj 241 #[.agg #[.int .i64 sC, .int .u64 sD]] w (vo 0 false w)) := fun w => (Gs sC sD z w ax).mono fun e w' k => by unfold xh at k; rw [q] at k; exact k
   clear r9 q
   go_wp2_with (first
    | (go_at_call 241; ((with_reducible refine (oN.out _).mono ?_); rintro e fD ⟨rfl, fa⟩)))
   go_ret2
   exact ⟨rfl, by (repeat first | with_reducible assumption | with_reducible refine cc ?_ fa)⟩
  ·have oN : Hid (∀ w, Calls aj 241 #[.agg #[.int .i64 sC, .int .u64 sD]] w (vo z true w)) := fun w => (Gs sC sD z w ax).mono fun e w' k => by unfold xh at k; rw [q] at k; exact k
   have F9 : Hid (∀ b w, w.cell? ⟨b, 0, none⟩ = some (.int .i64 M) → Calls aj 196 #[.int .i64 z, .pointer (some ⟨b, 0, none⟩)] w (hD (.bool false) w)) := fun b w ak => by have := ER b M z w ak yY.out yZ.out; rw [bT] at this; exact this
   clear r9 q bT
   go_wp2_with (first
    | (go_at_call 241; ((with_reducible refine (oN.out _).mono ?_); rintro e fD ⟨rfl, fa⟩))
    | (go_at_call 146; ((with_reducible refine (Ga.out _).mono ?_); rintro e jc ⟨b, rfl, ak, hX⟩))
    | (go_at_call 196; ((with_reducible refine (F9.out _ _ ak).mono ?_); rintro e ahl ⟨rfl, HV⟩)))
   go_ret2
   exact ⟨rfl, by (repeat first | with_reducible assumption | with_reducible refine cc ?_ HV | with_reducible refine cc ?_ hX | with_reducible refine cc ?_ fa)⟩
  ·have oN : Hid (∀ w, Calls aj 241 #[.agg #[.int .i64 sC, .int .u64 sD]] w (vo v true w)) := fun w => (Gs sC sD v w ax).mono fun e w' k => by unfold xh at k; rw [q] at k; exact k
   have F9 : Hid (∀ b w, w.cell? ⟨b, 0, none⟩ = some (.int .i64 M) → Calls aj 196 #[.int .i64 v, .pointer (some ⟨b, 0, none⟩)] w (hD (.bool true) w)) := fun b w ak => by have := ER b M v w ak yY.out yZ.out; rw [bT] at this; exact this
   clear r9 q bT
   go_wp2_with (first
    | (go_at_call 241; ((with_reducible refine (oN.out _).mono ?_); rintro e fD ⟨rfl, fa⟩))
    | (go_at_call 146; ((with_reducible refine (Ga.out _).mono ?_); rintro e jc ⟨b, rfl, ak, hX⟩))
    | (go_at_call 196; ((with_reducible refine (F9.out _ _ ak).mono ?_); rintro e ahl ⟨rfl, HV⟩)))
   go_ret2
   exact ⟨rfl, by (repeat first | with_reducible assumption | with_reducible refine cc ?_ HV | with_reducible refine cc ?_ hX | with_reducible refine cc ?_ fa)⟩
theorem ahn {r : Nat} {z : Int} (h : wi (134217728 / 2 ^ r) z = true) : small z = true := by
 obtain ⟨m0, m1⟩ := Hk r;unfold wi at h;rw [eh, cL, cL] at h;unfold small;rw [cL];omega
theorem agx (aI ea n ar cF d k : Int) (r : Nat) (w : World) (h : hg k r) (H : bz aI ea n) (cn : bz ar cF d) (hd : ¬ (0 < d)) :
  Calls aj 215 #[.agg #[.int .i64 aI, .int .u64 ea, .int .i64 ar, .int .u64 cF], .int .i64 k] w (vo 0 false w) :=
 Kn aI ea ar cF k r false 0 0 false w h (fun w => (T6 aI ea n ar cF d r w H cn (.inl hd)).mono fun e w' ⟨he, ab⟩ => ⟨0, 0, he, pb, ab⟩) (.inl ⟨rfl, rfl, rfl⟩)
theorem agy (aI ea n ar cF d k : Int) (r : Nat) (w : World) (h : hg k r) (H : bz aI ea n) (cn : bz ar cF d) (hd : 0 < d) (aw : wi (134217728 / 2 ^ r) (lG n d r) = false) :
  Calls aj 215 #[.agg #[.int .i64 aI, .int .u64 ea, .int .i64 ar, .int .u64 cF], .int .i64 k] w (vo 0 false w) :=
 Kn aI ea ar cF k r true (lG n d r) 0 false w h (fun w => (K9 aI ea n ar cF d r w H cn hd (by have := h.1; omega)).mono fun e w' k => k)
  (by
   cases hs : small (lG n d r)
   ·exact .inr (.inl ⟨rfl, rfl, rfl, rfl⟩)
   ·exact .inr (.inr (.inl ⟨rfl, rfl, aw, rfl, rfl⟩)))
theorem agz (aI ea n ar cF d k : Int) (r : Nat) (w : World) (h : hg k r) (H : bz aI ea n) (cn : bz ar cF d) (hd : 0 < d) (aw : wi (134217728 / 2 ^ r) (lG n d r) = true) :
  Calls aj 215 #[.agg #[.int .i64 aI, .int .u64 ea, .int .i64 ar, .int .u64 cF], .int .i64 k] w (vo (lG n d r) true w) :=
 Kn aI ea ar cF k r true (lG n d r) _ true w h (fun w => (K9 aI ea n ar cF d r w H cn hd (by have := h.1; omega)).mono fun e w' k => k)
  (.inr (.inr (.inr ⟨rfl, ahn aw, aw, rfl, rfl⟩)))
end Go.Proofs.YtpochbhajmbfdaaGreat
namespace Go.Proofs.YtpochbhajmbfdaaGreat
open Go.RowKit
theorem QU {v k : Int} {r : Nat} (h : hg k r) (v0 : -9223372036854775808 ≤ v) (v1 : v < 9223372036854775808) : aY aj 72 [aR v, aR k] (aR (cI v r)) :=
 nI [.int .i64 v, .int .i64 k] (.int .i64 (cI v r)) rfl rfl rfl rfl rfl fun W => XQ v k r W h v0 v1
theorem Q3 {k : Int} {r : Nat} (h : hg k r) : aY aj 78 [aR k] (aR (2 ^ r)) :=
 nI [.int .i64 k] (.int .i64 (2 ^ r)) rfl rfl rfl rfl rfl fun W => agl k r W h
theorem aeo {k : Int} : aY aj 88 [aR k] (bG (decide (0 ≤ k) && decide (k ≤ 28))) :=
 nI [.int .i64 k] (.bool (decide (0 ≤ k) && decide (k ≤ 28))) rfl rfl rfl rfl rfl fun W => XP k W
theorem Bd {x y k : Int} {r : Nat} {b : Bool} (h : hg k r) (ab : e4 r x y = b) : aY aj 77 [bi x y, aR k] (bG b) := by
 subst ab;exact nI [.agg #[.int .i64 x, .int .i64 y], .int .i64 k] (.bool (e4 r x y)) rfl rfl rfl rfl rfl fun W => Tz x y k r W h
theorem aen {x y x' y' : Int} : aY aj 261 [bi x y, bi x' y'] (aR (mz x y x' y')) :=
 nI [.agg #[.int .i64 x, .int .i64 y], .agg #[.int .i64 x', .int .i64 y']] (.int .i64 (mz x y x' y')) rfl rfl rfl rfl rfl fun W => XO x y x' y' W
theorem QT {x y k : Int} {r : Nat} (h : hg k r) (SR : -9223372036854775808 ≤ x) (c0 : x < 9223372036854775808) (oK : -9223372036854775808 ≤ y) (l8 : y < 9223372036854775808) : aY aj 32 [bi x y, aR k] (bi (cI x r) (cI y r)) := by
 refine cq (f := 32) Tryz.func32 rfl rfl rfl rfl ?_;(repeat first | (with_reducible apply az); exact rfl | refine dP rfl rfl rfl rfl (by (first | exact QU h SR c0 | exact QU h oK l8)) rfl ?_ | (with_reducible apply iJ); kernel_rfl | (with_reducible apply iL); kernel_rfl; kernel_rfl; exact rfl | (with_reducible first | apply bQ | apply bI | apply bO | apply aA | apply cf))
 ((refine bY rfl (fc rfl rfl rfl bf) ?_))
 exact ai.bo.refl _
theorem tc {x y k : Int} {r : Nat} (h : hg k r) (ab : e4 r x y = true) : aY aj 37 [bi x y, aR k] (bi (2 ^ r * x) (2 ^ r * y)) := by
 obtain ⟨⟨q1, q2⟩, cr, eE⟩ := (Ei r x y).1 ab;have aP := Bd h ab;have b6 := Q3 h;clear h ab;generalize (2 : Int) ^ r = P at *;refine cq (f := 37) Tryz.func37 rfl rfl rfl rfl ?_;(repeat first | (with_reducible apply az); exact rfl | (with_reducible apply sj); (iterate 3 exact rfl); (exact cZ (by omega)); exact rfl | refine e2 rfl rfl rfl (by (exact b6)) rfl ?_ | refine dP rfl rfl rfl rfl (by (exact aP)) rfl ?_ | (with_reducible first | apply bQ | apply bI | apply bO | apply aA | apply cf | apply e3) | (with_reducible apply ib); exact rfl)
 ((refine bY rfl (fc rfl rfl rfl bf) ?_))
 exact ai.bo.refl _
theorem ad1 {x y k : Int} {r : Nat} (h : hg k r) (ab : e4 r x y = true) : aY aj 225 [bi x y, aR k] (.dd [.agg [.c (.int .i64 (2 * (2 ^ r * x) - 2 ^ r)), .c (.int .i64 (2 * (2 ^ r * y) - 2 ^ r))], .agg [.c (.int .i64 (2 * (2 ^ r * x) + 2 ^ r)), .c (.int .i64 (2 * (2 ^ r * y) + 2 ^ r))]]) := by
 obtain ⟨⟨q1, q2⟩, cr, eE⟩ := (Ei r x y).1 ab;obtain ⟨lZ, Bh⟩ := JQ h.1;have aP := Bd h ab;have b6 := Q3 h;have fo := tc h ab;clear h ab;generalize (2 : Int) ^ r = P at *;generalize P * x = X at *;generalize P * y = Y at *;refine cq (f := 225) Tryz.func225 rfl rfl rfl rfl ?_;(repeat first | (with_reducible apply az); exact rfl | (with_reducible apply fh); (iterate 3 exact rfl); (exact cZ (by omega)); exact rfl | (with_reducible apply nx); (iterate 3 exact rfl); (exact cZ (by omega)); exact rfl | (with_reducible apply sj); (iterate 3 exact rfl); (exact cZ (by omega)); exact rfl | refine e2 rfl rfl rfl (by (exact b6)) rfl ?_ | refine dP rfl rfl rfl rfl (by (first | exact aP | exact fo)) rfl ?_ | (with_reducible apply iJ); kernel_rfl | (with_reducible apply iL); kernel_rfl; kernel_rfl; exact rfl | (with_reducible first | apply bQ | apply bI | apply bO | apply aA | apply cf | apply e3) | (with_reducible apply ib); exact rfl)
 ((refine bY rfl (fc rfl rfl rfl (fc rfl rfl rfl bf)) ?_))
 exact ai.bo.refl _
def tz (n d : Int) (r : Nat) : Bool := decide (0 < d) && wi (134217728 / 2 ^ r) (lG n d r)
def FH (n d : Int) (r : Nat) : Int := if tz n d r then lG n d r else 0
theorem Q4 {n d k : Int} {r : Nat} (h : hg k r) (f : fits n = true) (g : fits d = true) : aY aj 215 [fv n d, aR k] (.dd [.one (.c (.int .i64 (FH n d r))), .one (.c (.bool (tz n d r)))]) := by
 refine nI [fx n d, .int .i64 k] (.tuple #[.int .i64 (FH n d r), .bool (tz n d r)]) rfl rfl rfl rfl rfl fun W => ?_;unfold FH tz
 by_cases hd : 0 < d
 ·rw [bF hd, qH];cases hw : wi (134217728 / 2 ^ r) (lG n d r) with
  | true => exact agz _ _ n _ _ d k r W h (pc f) (pc g) hd hw
  | false => exact agy _ _ n _ _ d k r W h (pc f) (pc g) hd hw
 ·rw [b5 hd, Bool.false_and];exact agx _ _ n _ _ d k r W h (pc f) (pc g) hd
theorem adE {n d n' d' k : Int} {r : Nat} {b : Bool} (h : hg k r) (f : fits n = true) (g : fits d = true) (ll : fits n' = true) (jD : fits d' = true) (ab : (tz n d r && tz n' d' r) = b) :
  aY aj 170 [fv n d, fv n' d', aR k] (.dd [.agg [.c (.int .i64 (if b then lG n d r else 0)), .c (.int .i64 (if b then lG n' d' r else 0))], .one (.c (.bool b))]) := by
 have aP := Q4 h f g;have b6 := Q4 h ll jD;clear h f g ll jD;unfold FH at aP b6;cases q1 : tz n d r <;> cases q2 : tz n' d' r <;> rw [q1] at aP <;> rw [q2] at b6 <;> rw [q1, q2] at ab <;> subst ab <;> clear q1 q2
 all_goals
  generalize lG n d r = X at *;generalize lG n' d' r = Y at *;refine cq (f := 170) Tryz.func170 rfl rfl rfl rfl ?_;(repeat first | (with_reducible apply az); exact rfl | refine dP rfl rfl rfl rfl (by (first | exact aP | exact b6)) rfl ?_ | (with_reducible first | apply bQ | apply bI | apply bO | apply aA | apply cf | apply e3 | apply fV) | (with_reducible apply iK); exact rfl | (with_reducible apply ib); exact rfl)
  ((refine bY rfl (fc rfl rfl rfl (bD rfl bf)) ?_))
  exact ai.bo.refl _
end Go.Proofs.YtpochbhajmbfdaaGreat
namespace Go.Proofs.YtpochbhajmbfdaaGreat
abbrev dw := Int × Int × Int
def my (x y z w : Int) : Bool := decide (x < z) || (decide (x = z) && decide (y < w))
theorem pr {x y z w : Int} : my x y z w = true ↔ x < z ∨ (x = z ∧ y < w) := by
 unfold my; simp
def u0 (l : List dw) (x y : Int) : List dw := l.filter fun e => my e.1 e.2.1 x y
def Fc (l : List dw) (x y : Int) : List dw := l.filter fun e => my x y e.1 e.2.1
def te (l : List dw) (x y v : Int) : List dw := u0 l x y ++ (x, y, v) :: Fc l x y
def ul (l : List dw) (x y : Int) : Int := match l.findIdx? fun e => decide (e.1 = x) && decide (e.2.1 = y) with
 | some k => k
 | none => -1
def kr (l : List dw) : Prop := l.Pairwise fun a b => my a.1 a.2.1 b.1 b.2.1 = true
theorem adB {a b c d e f : Int} (h1 : my a b c d = true) (h2 : my c d e f = true) : my a b e f = true := by
 rw [pr] at *; omega
theorem aeZ {l : List dw} (h : kr l) (x y v : Int) : kr (te l x y v) := by
 unfold te u0 Fc kr;rw [List.pairwise_append, jv];refine ⟨h.filter _, ⟨fun e he => ?_, h.filter _⟩, fun a aI b ab => ?_⟩
 ·exact (tg.1 he).2
 ·have h1 := (tg.1 aI).2;rcases gS.1 ab with rfl | ab
  ·exact h1
  ·exact adB h1 (tg.1 ab).2
def hW (l : List dw) (x y : Int) : Bool := l.any fun e => decide (e.1 = x) && decide (e.2.1 = y)
theorem Np (l : List dw) (x y : Int) : decide (0 ≤ ul l x y) = hW l x y := by
 unfold ul hW;cases h : l.findIdx? fun e => decide (e.1 = x) && decide (e.2.1 = y) with
 | none =>
  rw [List.findIdx?_eq_none_iff] at h
  have : (l.any fun e => decide (e.1 = x) && decide (e.2.1 = y)) = false := by
   rw [List.any_eq_false]; intro e he; rw [h e he]; decide
  rw [this]; rfl
 | some k =>
  have aJ := List.findIdx?_eq_some_iff_getElem.1 h;obtain ⟨ae, h1, _⟩ := aJ;have : (l.any fun e => decide (e.1 = x) && decide (e.2.1 = y)) = true := List.any_eq_true.2 ⟨l[k], List.getElem_mem ae, h1⟩;rw [this]; simp
theorem X7 {l : List dw} {x y : Int} (h : 0 ≤ ul l x y) : ∃ k v, ul l x y = (k : Nat) ∧ k < l.length ∧ l[k]? = some (x, y, v) := by
 unfold ul at h ⊢;cases aw : l.findIdx? fun e => decide (e.1 = x) && decide (e.2.1 = y) with
 | none => rw [aw] at h; simp at h
 | some k =>
  obtain ⟨ae, h1, _⟩ := List.findIdx?_eq_some_iff_getElem.1 aw;simp only [eh, cL] at h1;refine ⟨k, l[k].2.2, rfl, ae, ?_⟩;rw [cj ae];congr 1;exact Prod.ext h1.1 (Prod.ext h1.2 rfl)
def oJ (l : List dw) (x y : Int) : Int := match l.findIdx? fun e => decide (e.1 = x) && decide (e.2.1 = y) with
 | some k => (l.getD k (0, 0, 0)).2.2
 | none => 0
theorem ahj {l : List dw} {x y v : Int} {k : Nat} (h : ul l x y = k) (ap : l[k]? = some (x, y, v)) : oJ l x y = v := by
 unfold ul at h;unfold oJ;cases aw : l.findIdx? fun e => decide (e.1 = x) && decide (e.2.1 = y) with
 | none => rw [aw] at h; simp at h
 | some j =>
  rw [aw] at h;have : j = k := by simp at h; omega
  subst this;simp only [rG, ap]; rfl
theorem ahh {l : List dw} {x y : Int} (h : hW l x y = false) : oJ l x y = 0 := by
 have h2 := Np l x y;rw [h] at h2;unfold ul at h2;unfold oJ;cases aw : l.findIdx? fun e => decide (e.1 = x) && decide (e.2.1 = y) with
 | none => rfl
 | some j => rw [aw] at h2; simp at h2
theorem aeX (l : List dw) (x y : Int) : (u0 l x y).length ≤ l.length := List.length_filter_le _ _
theorem SA {l : List dw} (h : kr l) {x y v : Int} (hm : (x, y, v) ∈ l) : hW l x y = true ∧ oJ l x y = v := by
 have aW : hW l x y = true := List.any_eq_true.2 ⟨_, hm, by simp⟩;have ax := Np l x y;rw [aW] at ax;obtain ⟨k, u, h1, h2, ao⟩ := X7 (of_decide_eq_true ax);refine ⟨aW, ?_⟩;rw [ahj h1 ao];obtain ⟨j, af⟩ := kA hm;have DV := (bP.1 af).1;have hU : l[k] = (x, y, u) := (bP.1 ao).2;have lQ : l[j] = (x, y, v) := (bP.1 af).2;unfold kr at h;rw [List.pairwise_iff_getElem] at h;rcases Nat.lt_trichotomy k j with q | q | q
 ·have := h k j h2 DV q;rw [hU, lQ, pr] at this;simp at this
 ·subst q;rw [hU] at lQ;cases lQ; rfl
 ·have := h j k DV h2 q;rw [hU, lQ, pr] at this;simp at this
end Go.Proofs.YtpochbhajmbfdaaGreat
namespace Go.Proofs.YtpochbhajmbfdaaGreat
open Go.RowKit
def er : List dw → List AC
 | [] => []
 | e :: l => .c (.int .i64 e.1) :: .c (.int .i64 e.2.1) :: .c (.int .i64 e.2.2) :: er l
theorem Hc : ∀ (l : List dw) (i : Nat) (e : dw), l[i]? = some e → ((er l).drop (i * 3)).take 3 = [.c (.int .i64 e.1), .c (.int .i64 e.2.1), .c (.int .i64 e.2.2)]
 | [], i, p, h => by simp at h
 | q :: l, 0, p, h => by simp at h; subst h; simp [er]
 | q :: l, i + 1, p, h => by
  have e : (i + 1) * 3 = i * 3 + 1 + 1 + 1 := by omega
  rw [e];simp only [er, List.drop_succ_cons];exact Hc l i p (by simpa using h)
theorem MR {l : List dw} {j : Int} {i : Nat} {x y v : Int} (af : j = i) (h : l[i]? = some (x, y, v)) : ((er l).drop (j.toNat * 3)).take 3 = [.c (.int .i64 x), .c (.int .i64 y), .c (.int .i64 v)] := by
 subst af;exact Hc l i (x, y, v) h
theorem zA : ∀ (l : List dw), (er l).length = l.length * 3
 | [] => rfl
 | p :: l => by simp only [er, lB, zA l]; omega
theorem zz : ∀ (l m : List dw), er (l ++ m) = er l ++ er m
 | [], _ => rfl
 | p :: l, m => by simp only [List.cons_append, er, zz l m]
theorem MN : ∀ (l : List dw), (er l).all AC.bd = true
 | [] => rfl
 | p :: l => by simp only [er, kF, MN l]; rfl
abbrev EG (x y : Int) : List AC := [.c (.int .i64 x), .c (.int .i64 y)]
abbrev pG (k : Nat) : ai := .w (.one (.own k 0))
def l4 (n : Int) : Int := if n < 1 then 1 else if 1024 < n then 1024 else n
def lz (l : List aq) (x y : Int) : Int := match l.findIdx? fun e => decide (e.1 = x) && decide (e.2 = y) with
 | some k => k
 | none => -1
def y4 (P : Program) (f : FuncId) (args : List ai) (r : bS) (post : ai → bS → Prop) : Prop :=
 ∀ i, dk P f args cm (bH i r) fun v aK aC => ∃ ba, aK = cm ∧ aC = bH i ba ∧ post v ba
theorem Ry {args : List ai} (aI : args.all ai.bd = true) : args.map (ai.bc fun j => j) = args := by
 rw [cB] at aI
 conv => rhs; rw [← List.map_id args]
 exact oD fun x aa => u6 (aI x aa)
theorem afg {P : Program} {f : FuncId} {args : List ai} {r : bS} {post : ai → bS → Prop} (aI : args.all ai.bd = true) (hp : ∀ v ba, post v ba → v.bd = true)
  (h : dk P f args cm (bH 0 r) fun v aK aC => ∃ ba, aK = cm ∧ aC = bH 0 ba ∧ post v ba) : y4 P f args r post := by
 intro i;have h1 := h.bc (bM := fun j => j) (cb := swp 0 i) (iE := swp 0 i) (fun _ => rfl) (nk _ _) (nk _ _);rw [Ry aI, show Mem.bc (fun j => j) cm = cm from rfl, Bp] at h1;refine ⟨fun U ad W vs cA ez dX => (h1.call U ad W vs cA ez dX).mono ?_⟩;rintro e bn ⟨v, cN, aK, aC, bg, cK, db, ⟨cJ, m2, eZ, ⟨ba, rfl, rfl, an⟩, rfl, rfl, rfl⟩, q⟩;rw [show Mem.bc (fun j => j) cm = cm from rfl, Bp, u6 (hp _ _ an)] at q;exact ⟨v, cJ, cm, bH i ba, bg, cK, db, ⟨ba, rfl, rfl, an⟩, q⟩
theorem NR {P : Program} {fn : Func} {l : List ResultVar} {xs : List bK} {R : aL} {s : aE} {r ba : bS} {post : ai → bS → Prop} (al : fn.results = l.toArray) (h : l.map (iZ P s) = xs.map some) (hi : R 0 = some ba) (aa : (packed xs).bd = true)
  (hp : post (packed xs) ba) : uw P fn cm (bH 0 r) (fun v aK aC => ∃ ba, aK = cm ∧ aC = bH 0 ba ∧ post v ba) R s := by
 refine ⟨xs, packed xs, cm, bH 0 ba, by rw [al]; exact h, .refl _, ⟨ba, rfl, rfl, hp⟩, fun k c h => (by cases h), fun i q h => ?_, fun j af => absurd af (ai.dI aa j), fun k c x j h => (by cases h), fun k c h => (by cases h), fun i q h => ?_⟩
 ·obtain ⟨rfl, rfl⟩ := gg h; exact hi
 ·obtain ⟨rfl, rfl⟩ := gg h; exact ⟨ba, by unfold bH; exact cw _ _ _⟩
section
variable {P : Program} {R : aL} {s : aE} {ops : Array Oper} {dr : Option (List Nat)} {ty : Nat} {pos : String} {after : Array Edge} {guard : Option (Nat × Bool)} {K : aL → aE → Prop} {rest : List Oper}
theorem uY (s : aE) : s.over cm = s := by
 show ({ s with mem := b9 (fun _ => none) s.mem } : aE) = s;rw [QJ]
theorem Ol (i : Nat) {dst : Option Nat} {f : FuncId} {g : Operand} {aS : Array TypeId} {l : List Operand} {args : List ai} {r : bS} {post : ai → bS → Prop} [E : Enters P f] (hw : want ops ⟨dst, .call ⟨.value g, l.toArray, aS⟩, ty, pos, after, guard⟩ s = some true) (hm : dE dr ⟨dst, .call ⟨.value g, l.toArray, aS⟩, ty, pos, after, guard⟩ = true)
  (ax : s.look g = some (aU (.func (.func f) #[] #[]))) (aI : l.map s.look = args.map some) (hp : y4 P f args r post) (hi : R i = some r) (et : args.all ai.bd = true) (hd : li dst s.n = true)
  (h : ∀ v ba, post v ba → cQ P ops dr K rest (bJ R i ba) (s.put dst v)) : cQ P ops dr K (⟨dst, .call ⟨.value g, l.toArray, aS⟩, ty, pos, after, guard⟩ :: rest) R s := by
 refine wk hw hm ax aI (hp i) (fun x aa j af => absurd af (ai.dI (cB.1 et x aa) j)) (fun k' au ar => by cases ar) (fun fS ba ar => ?_) (fun k' au x j ar aa af => by cases ar) hd ?_
 ·obtain ⟨rfl, rfl⟩ := gg ar; exact hi
 ·rintro v aK aC ⟨ba, rfl, rfl, an⟩;refine ⟨fun k' c ar => (by cases ar), ?_⟩;rw [show b9 (bH i ba) R = bJ R i ba from wJ R i ba, uY];exact h v ba an
theorem Aq {x : Operand} {t f iw off : Nat} {r : bS} (i : Nat) [S : nm P t f iw] {d : Nat} (hi : R i = some r) (hw : want ops ⟨some d, .fieldAddr t x f, ty, pos, after, guard⟩ s = some true) (aa : s.look x = some (aU (jQ r.v off))) (aD : 0 < r.n) (al : u5 ops dr (some d) = true) (hd : Nat.blt d s.n = true) (h : cQ P ops dr K rest R (s.put (some d) (aU (jQ r.v (off + iw))))) : cQ P ops dr K (⟨some d, .fieldAddr t x f, ty, pos, after, guard⟩ :: rest) R s :=
 Au hw (.n7 i r off t f iw x hi aD rfl aa S.h) rfl al hd h
end
structure K7 (W bn : World) (r ba : bS) (U : Nat → Prop) : Prop where
 grown : W.grownBy bn r.v.ownBlock
 row : ∃ xs, bn.ownsRow 0 ba.e ba.sz ba.v ba.n xs ∧ b3 U id W ba.aZ xs
 p5 : ∀ y ∈ ba.aZ, y.bd = true
 ahI : ∀ g, ba.v.ownBlock = some g → r.v.ownBlock = some g ∨ W.heap.size ≤ g
theorem b3.Kv {U : Nat → Prop} {ad bg : Nat → Nat} {W : World} {xs : List AC} {vs : List Value} (ak : ∀ y ∈ xs, y.bd = true) (h : b3 U ad W xs vs) : b3 U bg W xs vs := h.xA ak fun b ab _ => ⟨ab, rfl⟩
theorem ks.Kv {U : Nat → Prop} {ad : Nat → Nat} {W : World} {args : List ai} {vs : List Value} (ak : args.all ai.bd = true) (h : ks U ad W args vs) : ks U id W args vs :=
 ⟨h.1, fun i x v aa hv => Rel.OD (ai.dI (cB.1 ak x (dL aa))) (h.2 i x v aa hv)⟩
theorem abq {U : Nat → Prop} {W bn : World} {row : Option Nat} (ax : W.grownBy bn row) (al : ∀ g, row = some g → ¬ U g) : ∀ b, U b → b < W.heap.size → (U b ∧ b < W.heap.size) ∧ bn.heap[b]? = W.heap[b]? := fun b ab ap =>
 ⟨⟨ab, ap⟩, ax.block b ap fun e => al b e.symm ab⟩
theorem afh {P : Program} {f : FuncId} {args : List ai} {r : bS} {post : ai → bS → Prop} (et : args.all ai.bd = true) (b4 : 0 < r.sz) (x4 : ∀ ck ba, post ck ba → 0 < ba.sz)
  (h : ∀ (U : Nat → Prop) (W : World) (vs : List Value) (xs : List Value), W.ownsRow 0 r.e r.sz r.v r.n xs → b3 U id W r.aZ xs → (∀ y ∈ r.aZ, y.bd = true) → (∀ g, r.v.ownBlock = some g → ¬ U g) → ks U id W args vs →
   Calls P f vs.toArray W fun e bn => ∃ v ck ba, e = .returned v ∧ post ck ba ∧ K7 W bn r ba U ∧ dn U id W ck v ∧ ck.bd = true) : y4 P f args r post := by
 intro i;refine ⟨fun U ad W vs cA ez dX => ?_⟩;obtain ⟨o5, cW, ZG⟩ := cA.rows i r (by unfold bH; exact cw _ _ _);obtain ⟨xs, aB, ap⟩ := o5.row b4;have we := fun g ax => ZG g (.inl ax);refine (h U W vs xs aB (ap.Kv cW) cW (fun g ax => (we g ax).1) (dX.Kv et)).mono ?_;rintro e bn ⟨v, ck, ba, rfl, hp, ⟨jj, ⟨aZ, hn, fb⟩, sG, o0⟩, qs, oh⟩;have Pc := abq jj fun g ax => (we g ax).1
 have fq : ∀ b, ew ad cm (bH i r) b ↔ r.v.ownBlock = some b := fun b => by
  constructor
  ·rintro (⟨k, cs, ae, _⟩ | ⟨j, q, af, ax⟩)
   ·cases ae
   ·obtain ⟨rfl, rfl⟩ := gg af; exact bS.pq ax b4
  ·intro ax; exact .inr ⟨i, r, by unfold bH; exact cw _ _ _, .inl ax⟩
 refine ⟨v, ck, cm, bH i ba, ad, fun b => U b ∧ b < W.heap.size, rfl, ⟨ba, rfl, rfl, hp⟩, ⟨fun k cs ae => (by cases ae), fun k cs x j ae => (by cases ae), fun k k' cs au ae => (by cases ae), fun j q af => ?_, fun j k q bT af ae lq => ?_⟩, ?_, fun j af => absurd af (ai.dI oh j), fun k cs ae => (by cases ae), fun j q af => ?_, fun b ab => .inl ab.1, ?_, ⟨jj.os, jj.tape, jj.output, jj.size, fun b ab => jj.block b ab.1 fun e => ab.2 ((fq b).2 e.symm)⟩⟩
 ·obtain ⟨rfl, rfl⟩ := gg af;refine ⟨.inl ⟨x4 _ _ hp, aZ, hn, fb.xA sG Pc⟩, sG, fun g ax => ⟨fun hu => ?_, fun k cs ae => (by cases ae)⟩⟩;rcases o0 g (bS.pq ax (x4 _ _ hp)) with q | q
  ·exact (we g q).1 hu.1
  ·omega
 ·obtain ⟨rfl, _⟩ := gg af;obtain ⟨rfl, _⟩ := gg ae;exact absurd rfl lq
 ·exact qs.map Pc fun j af => absurd af (ai.dI oh j)
 ·obtain ⟨rfl, rfl⟩ := gg af;exact ⟨ba, by unfold bH; exact cw _ _ _⟩
 ·rintro b (⟨k, cs, ae, _⟩ | ⟨j, q, af, ax⟩)
  ·cases ae
  ·obtain ⟨rfl, rfl⟩ := gg af;rcases o0 b (bS.pq ax (x4 _ _ hp)) with z | z
   ·exact .inl ((fq b).2 z)
   ·exact .inr z
theorem Kd (i : Nat) {P : Program} {R : aL} {s : aE} {c : Code} {Q : Exit → aL → aE → Prop} {r : bS} (hi : R i = some r) (h : ∀ A k, r.v = .slice A r.n k → r.n ≤ k → k ≤ maxLen → (0 < r.n → ∃ g, A = some ⟨g, 0, none⟩) → r.aZ.length = r.n * r.sz → fO P c Q R s) (b4 : 0 < r.sz := by first | decide | exact jL _) : fO P c Q R s := by
 rintro ok bq b0 a w ⟨A, ad, ay⟩;obtain ⟨xs, aB, ap⟩ := (ay.rows i r hi).cells b4;have hlen : r.aZ.length = r.n * r.sz := ap.1.trans aB.1;rcases aB.2 with ⟨e, dl⟩ | ⟨g, cap, cur, e, _, _, eX, j3, _⟩
 ·exact h none 0 (by rw [e, dl]) (by omega) (eF _) (fun h => by omega) hlen ok bq b0 a w ⟨A, ad, ay⟩
 ·exact h _ cap e eX j3 (fun _ => ⟨g, rfl⟩) hlen ok bq b0 a w ⟨A, ad, ay⟩
theorem Rel.afo {B : e8} {A : Nat → Prop} {s : aE} {ad : Nat → Nat} {a : Act} {w : World} {k : Nat} {cs ds : List AC} (h : Rel B A s ad a w) (ae : s.mem k = some cs) (al : ∀ vs, b3 (s.free A ad) ad w cs vs → b3 (s.free A ad) ad w ds vs) : Rel B A (s.ep k ds) ad a w := by
 obtain ⟨vs, ty, g1, g2, _⟩ := h.dG k cs ae;have := h.set ae (al vs g2);rwa [setRow_self w (ad k) vs.toArray ty (0, 0) g1] at this
theorem Fa {x y : Int} {b : Bool} (ab : cG x y = b) : aY aj 58 [bi x y] (bG b) := by
 have cs : (x ≤ 134217728 ∧ y ≤ 134217728 ∧ -134217728 ≤ x ∧ -134217728 ≤ y ∧ b = true) ∨ (x ≤ 134217728 ∧ y ≤ 134217728 ∧ -134217728 ≤ x ∧ ¬ -134217728 ≤ y ∧ b = false) ∨ (x ≤ 134217728 ∧ y ≤ 134217728 ∧ ¬ -134217728 ≤ x ∧ b = false) ∨ (x ≤ 134217728 ∧ ¬ y ≤ 134217728 ∧ b = false) ∨ (¬ x ≤ 134217728 ∧ b = false) := by
  rw [← ab]; unfold cG
  by_cases q1 : x ≤ 134217728 <;> by_cases q2 : y ≤ 134217728 <;> by_cases cr : -134217728 ≤ x <;> by_cases eE : -134217728 ≤ y <;> simp [q1, q2, cr, eE]
 clear ab;rcases cs with ⟨q1, q2, cr, eE, rfl⟩ | ⟨q1, q2, cr, eE, rfl⟩ | ⟨q1, q2, cr, rfl⟩ | ⟨q1, q2, rfl⟩ | ⟨q1, rfl⟩
 all_goals
  refine cq (f := 58) Tryz.func58 rfl rfl rfl rfl ?_;(repeat first | (with_reducible apply az); exact rfl | (with_reducible apply dO (c := true)); exact rfl; exact rfl; (exact bF (by omega)) | (with_reducible apply dO (c := false)); exact rfl; exact rfl; (exact b5 (by omega)) | (with_reducible first | apply bQ | apply bI | apply bO | apply aA | apply cf))
  ((refine bY rfl (bD rfl bf) ?_))
  first | exact ai.bo.refl _ | exact ai.bo.of_eq (by rw [bF eE]; rfl) | exact ai.bo.of_eq (by rw [b5 eE]; rfl)
def vQ (n : Int) : Bool := decide (-134217728 ≤ n) && decide (n ≤ 134217728)
theorem QR {n : Int} {b : Bool} (ab : vQ n = b) : aY aj 216 [aR n] (bG b) := by
 have cs : (-134217728 ≤ n ∧ n ≤ 134217728 ∧ b = true) ∨ (-134217728 ≤ n ∧ ¬ n ≤ 134217728 ∧ b = false) ∨ (¬ -134217728 ≤ n ∧ b = false) := by
  rw [← ab]; unfold vQ
  by_cases h1 : -134217728 ≤ n <;> by_cases h2 : n ≤ 134217728 <;> simp [h1, h2]
 clear ab;rcases cs with ⟨h1, h2, rfl⟩ | ⟨h1, h2, rfl⟩ | ⟨h1, rfl⟩
 all_goals
  refine cq (f := 216) Tryz.func216 rfl rfl rfl rfl ?_;(repeat first | (with_reducible apply az); exact rfl | (with_reducible apply dO (c := true)); exact rfl; exact rfl; (exact bF (by omega)) | (with_reducible apply dO (c := false)); exact rfl; exact rfl; (exact b5 (by omega)) | (with_reducible first | apply bQ | apply bI | apply bO | apply aA | apply cf))
  ((refine bY rfl (bD rfl bf) ?_))
  first | exact ai.bo.refl _ | exact ai.bo.of_eq (by rw [bF h2]; rfl) | exact ai.bo.of_eq (by rw [b5 h2]; rfl)
theorem afe (x y : Int) : cG x y = (vQ x && vQ y) := by
 unfold cG vQ;rw [mC];simp only [eh, cL];omega
theorem lE {x y : Int} (h : cG x y = true) : ev x y = true := by rw [tm] at h; rw [Rx]; omega
theorem pt {x y : Int} {b : Bool} (ab : cG x y = b) : aY aj 171 [bi x y] (bG b) := by
 have aP := QR (n := x) rfl;have b6 := QR (n := y) rfl;rw [afe] at ab;cases q1 : vQ x <;> cases q2 : vQ y <;> rw [q1] at aP <;> rw [q2] at b6 <;> rw [q1, q2] at ab <;> subst ab <;> clear q1 q2
 all_goals
  refine cq (f := 171) Tryz.func171 rfl rfl rfl rfl ?_;(repeat first | (with_reducible apply az); exact rfl | refine e2 rfl rfl rfl (by (first | exact aP | exact b6)) rfl ?_ | (with_reducible first | apply bQ | apply bI | apply bO | apply aA | apply cf))
  ((refine bY rfl (bD rfl bf) ?_))
  exact ai.bo.refl _
theorem adF {n m : Int} : aY aj 285 [aR n, aR m] (aR (gj n m)) :=
 nI [.int .i64 n, .int .i64 m] (.int .i64 (gj n m)) rfl rfl rfl rfl rfl fun W => F7 n m W
abbrev ki (n d : Int) (o : Bool) : ai := .w (.agg [.c (.int .i64 n), .c (.int .i64 d), .c (.bool o)])
abbrev u7 (x : h6) : ai := ki x.n x.d x.own
def me (x : h6) : Prop := (-2000000000 ≤ x.n ∧ x.n ≤ 2000000000) ∧ 0 < x.d ∧ x.d ≤ 2000000000
theorem acz {x y : Int} (h1 : -2000000000 ≤ x) (h2 : x ≤ 2000000000) (ao : 0 ≤ y) (aH : y ≤ 2000000000) : -4000000000000000000 ≤ x * y ∧ x * y ≤ 4000000000000000000 := by
 have a1 : x * y ≤ 2000000000 * y := qB h2 ao;have a2 : -2000000000 * y ≤ x * y := qB h1 ao;omega
theorem LV {x y : h6} (aa : me x) (ag : me y) : IntKind.i64.wrap (x.n * y.d) = x.n * y.d := by
 obtain ⟨⟨a1, a2⟩, a3, a4⟩ := aa;obtain ⟨⟨b1, b2⟩, ey, dQ⟩ := ag;have := acz a1 a2 (by omega : (0 : Int) ≤ y.d) dQ;exact cZ (by omega)
theorem aeE {n d m e c : Int} {o q : Bool} (aP : aY aj 285 [aR (n * e), aR (m * d)] (aR c)) (aT : IntKind.i64.wrap (n * e) = n * e) (w2 : IntKind.i64.wrap (m * d) = m * d) : aY aj 284 [ki n d o, ki m e q] (aR c) := by
 refine cq (f := 284) Tryz.func284 rfl rfl rfl rfl ?_;(repeat first | (with_reducible apply az); exact rfl | (with_reducible apply sj); (iterate 3 exact rfl); (assumption); exact rfl | refine dP rfl rfl rfl rfl (by (exact aP)) rfl ?_ | (with_reducible first | apply bQ | apply bI | apply bO | apply aA | apply cf))
 ((refine bY rfl (bD rfl bf) ?_))
 exact ai.bo.refl _
theorem JM {x y : h6} (aa : me x) (ag : me y) : aY aj 284 [u7 x, u7 y] (aR (hT x y)) :=
 aeE adF (LV aa ag) (LV ag aa)
theorem aex {n d m e c : Int} {o q : Bool} {cN cJ : Int} {gH : Bool} (aP : aY aj 284 [ki n d o, ki m e q] (aR c)) (cs : (0 < c ∧ cN = n ∧ cJ = d ∧ gH = o) ∨ (¬ 0 < c ∧ c = 0 ∧ q = true ∧ cN = n ∧ cJ = d ∧ gH = o) ∨ (¬ 0 < c ∧ c = 0 ∧ q = false ∧ cN = m ∧ cJ = e ∧ gH = q) ∨ (¬ 0 < c ∧ ¬ c = 0 ∧ cN = m ∧ cJ = e ∧ gH = q)) : aY aj 294 [ki n d o, ki m e q] (ki cN cJ gH) := by
 rcases cs with ⟨q1, rfl, rfl, rfl⟩ | ⟨q1, q2, rfl, rfl, rfl, rfl⟩ | ⟨q1, q2, rfl, rfl, rfl, rfl⟩ | ⟨q1, q2, rfl, rfl, rfl⟩
 all_goals
  refine cq (f := 294) Tryz.func294 rfl rfl rfl rfl ?_;(repeat first | (with_reducible apply az); exact rfl | refine dP rfl rfl rfl rfl (by (exact aP)) rfl ?_ | (with_reducible apply dO (c := true)); exact rfl; exact rfl; (exact bF (by omega)) | (with_reducible apply dO (c := false)); exact rfl; exact rfl; (exact b5 (by omega)) | (with_reducible first | apply bQ | apply bI | apply bO | apply aA | apply cf | apply e3 | apply fV) | (with_reducible apply iK); exact rfl | (with_reducible apply ib); exact rfl)
  ((refine bY rfl (fc rfl rfl rfl bf) ?_))
  exact ai.bo.refl _
theorem aew {x y : h6} (aa : me x) (ag : me y) : aY aj 294 [u7 x, u7 y] (u7 (rv x y)) := by
 refine aex (JM aa ag) ?_;rcases Pd x y with ⟨e, h⟩ | ⟨e, h⟩ <;> rw [e]
 ·by_cases h1 : 0 < hT x y
  ·exact .inl ⟨h1, rfl, rfl, rfl⟩
  ·rcases h with h | ⟨h, k⟩
   ·exact absurd h h1
   ·exact .inr (.inl ⟨h1, h, k, rfl, rfl, rfl⟩)
 ·have h1 : ¬ 0 < hT x y := fun k => h (.inl k)
  by_cases h2 : hT x y = 0
  ·refine .inr (.inr (.inl ⟨h1, h2, ?_, rfl, rfl, rfl⟩));cases ag : y.own with
   | false => rfl
   | true => exact absurd (.inr ⟨h2, ag⟩) h
  ·exact .inr (.inr (.inr ⟨h1, h2, rfl, rfl, rfl⟩))
theorem ael {n d m e c : Int} {o q : Bool} {cN cJ : Int} {gH : Bool} (aP : aY aj 284 [ki n d o, ki m e q] (aR c)) (cs : (c < 0 ∧ cN = n ∧ cJ = d ∧ gH = o) ∨ (¬ c < 0 ∧ c = 0 ∧ q = true ∧ cN = n ∧ cJ = d ∧ gH = o) ∨ (¬ c < 0 ∧ c = 0 ∧ q = false ∧ cN = m ∧ cJ = e ∧ gH = q) ∨ (¬ c < 0 ∧ ¬ c = 0 ∧ cN = m ∧ cJ = e ∧ gH = q)) : aY aj 295 [ki n d o, ki m e q] (ki cN cJ gH) := by
 rcases cs with ⟨q1, rfl, rfl, rfl⟩ | ⟨q1, q2, rfl, rfl, rfl, rfl⟩ | ⟨q1, q2, rfl, rfl, rfl, rfl⟩ | ⟨q1, q2, rfl, rfl, rfl⟩
 all_goals
  refine cq (f := 295) Tryz.func295 rfl rfl rfl rfl ?_;(repeat first | (with_reducible apply az); exact rfl | refine dP rfl rfl rfl rfl (by (exact aP)) rfl ?_ | (with_reducible apply dO (c := true)); exact rfl; exact rfl; (exact bF (by omega)) | (with_reducible apply dO (c := false)); exact rfl; exact rfl; (exact b5 (by omega)) | (with_reducible first | apply bQ | apply bI | apply bO | apply aA | apply cf | apply e3 | apply fV) | (with_reducible apply iK); exact rfl | (with_reducible apply ib); exact rfl)
  ((refine bY rfl (fc rfl rfl rfl bf) ?_))
  exact ai.bo.refl _
theorem aek {x y : h6} (aa : me x) (ag : me y) : aY aj 295 [u7 x, u7 y] (u7 (q9 x y)) := by
 refine ael (JM aa ag) ?_;rcases MJ x y with ⟨e, h⟩ | ⟨e, h⟩ <;> rw [e]
 ·by_cases h1 : hT x y < 0
  ·exact .inl ⟨h1, rfl, rfl, rfl⟩
  ·rcases h with h | ⟨h, k⟩
   ·exact absurd h h1
   ·exact .inr (.inl ⟨h1, h, k, rfl, rfl, rfl⟩)
 ·have h1 : ¬ hT x y < 0 := fun k => h (.inl k)
  by_cases h2 : hT x y = 0
  ·refine .inr (.inr (.inl ⟨h1, h2, ?_, rfl, rfl, rfl⟩));cases ag : y.own with
   | false => rfl
   | true => exact absurd (.inr ⟨h2, ag⟩) h
  ·exact .inr (.inr (.inr ⟨h1, h2, rfl, rfl, rfl⟩))
abbrev hf (a1 a2 b1 b2 n d : Int) (o : Bool) (m e : Int) (q : Bool) : ai := .w (.agg [.c (.int .i64 a1), .c (.int .i64 a2), .c (.int .i64 b1), .c (.int .i64 b2), .c (.int .i64 n), .c (.int .i64 d), .c (.bool o), .c (.int .i64 m), .c (.int .i64 e), .c (.bool q)])
abbrev FU (a1 a2 b1 b2 : Int) (p : Pa) : ai := hf a1 a2 b1 b2 p.f.n p.f.d p.f.own p.t.n p.t.d p.t.own
def y2 (p : Pa) : Prop := me p.f ∧ me p.t
theorem aev {a1 a2 b1 b2 n d m e u v : Int} {o q w : Bool} {n' d' aK bu : Int} {cR bT : Bool} (hu : -1100000000 ≤ u ∧ u ≤ 1100000000) (hv : -1100000000 ≤ v ∧ v ≤ 1100000000)
  (cs : (0 < v - u ∧ aY aj 294 [ki n d o, ki (-u) (v - u) w] (ki n' d' cR) ∧ aK = m ∧ bu = e ∧ bT = q) ∨ (¬ 0 < v - u ∧ v - u < 0 ∧ aY aj 295 [ki m e q, ki u (-(v - u)) w] (ki aK bu bT) ∧ n' = n ∧ d' = d ∧ cR = o)
   ∨ (¬ 0 < v - u ∧ ¬ v - u < 0 ∧ u < 0 ∧ n' = 1 ∧ d' = 1 ∧ cR = false ∧ aK = 0 ∧ bu = 1 ∧ bT = false) ∨ (¬ 0 < v - u ∧ ¬ v - u < 0 ∧ ¬ u < 0 ∧ u = 0 ∧ w = false ∧ n' = 1 ∧ d' = 1 ∧ cR = false ∧ aK = 0 ∧ bu = 1 ∧ bT = false)
   ∨ (¬ 0 < v - u ∧ ¬ v - u < 0 ∧ ¬ u < 0 ∧ u = 0 ∧ w = true ∧ n' = n ∧ d' = d ∧ cR = o ∧ aK = m ∧ bu = e ∧ bT = q) ∨ (¬ 0 < v - u ∧ ¬ v - u < 0 ∧ ¬ u < 0 ∧ ¬ u = 0 ∧ n' = n ∧ d' = d ∧ cR = o ∧ aK = m ∧ bu = e ∧ bT = q)) :
  aY aj 283 [hf a1 a2 b1 b2 n d o m e q, aR u, aR v, bG w] (hf a1 a2 b1 b2 n' d' cR aK bu bT) := by
 rcases cs with ⟨q1, aP, rfl, rfl, rfl⟩ | ⟨q1, q2, aP, rfl, rfl, rfl⟩ | ⟨q1, q2, cr, rfl, rfl, rfl, rfl, rfl, rfl⟩ | ⟨q1, q2, cr, eE, rfl, rfl, rfl, rfl, rfl, rfl, rfl⟩ | ⟨q1, q2, cr, eE, rfl, rfl, rfl, rfl, rfl, rfl, rfl⟩ | ⟨q1, q2, cr, eE, rfl, rfl, rfl, rfl, rfl, rfl⟩
 ·refine cq (f := 283) Tryz.func283 rfl rfl rfl rfl ?_;(repeat first | (with_reducible apply az); exact rfl | (with_reducible apply nx); (iterate 3 exact rfl); (exact cZ (by omega)); exact rfl | (with_reducible apply LG); exact rfl; exact rfl; (exact cZ (by omega)); exact rfl | refine dP rfl rfl rfl rfl (by (exact aP)) rfl ?_ | (with_reducible first | apply bQ | apply bI | apply bO | apply aA | apply cf | apply gW | apply nw) | (with_reducible apply gO); exact rfl; (exact bF (by omega)))
  ((refine bY rfl (fc rfl rfl rfl bf) ?_))
  exact ai.bo.refl _
 ·refine cq (f := 283) Tryz.func283 rfl rfl rfl rfl ?_;(repeat first | (with_reducible apply az); exact rfl | (with_reducible apply nx); (iterate 3 exact rfl); (exact cZ (by omega)); exact rfl | (with_reducible apply LG); exact rfl; exact rfl; (exact cZ (by omega)); exact rfl | refine dP rfl rfl rfl rfl (by (exact aP)) rfl ?_ | (with_reducible first | apply bQ | apply bI | apply bO | apply aA | apply cf | apply gW | apply nw) | (with_reducible apply gO); exact rfl; (exact bF (by omega)) | (with_reducible apply ia); exact rfl; (exact b5 (by omega)))
  ((refine bY rfl (fc rfl rfl rfl bf) ?_))
  exact ai.bo.refl _
 all_goals
  refine cq (f := 283) Tryz.func283 rfl rfl rfl rfl ?_;(repeat first | (with_reducible apply az); exact rfl | (with_reducible apply nx); (iterate 3 exact rfl); (exact cZ (by omega)); exact rfl | (with_reducible apply dO (c := true)); exact rfl; exact rfl; (exact bF (by omega)) | (with_reducible apply dO (c := false)); exact rfl; exact rfl; (exact b5 (by omega)) | (with_reducible first | apply bQ | apply bI | apply bO | apply aA | apply cf | apply e3 | apply gW | apply nw) | (with_reducible apply iK); exact rfl | (with_reducible apply ib); exact rfl | (with_reducible apply gO); exact rfl; (exact bF (by omega)) | (with_reducible apply ia); exact rfl; (exact b5 (by omega)))
  ((refine bY rfl (fc rfl rfl rfl bf) ?_))
  exact ai.bo.refl _
theorem abC {x y : h6} (aa : me x) (ag : me y) : me (rv x y) := by unfold rv; split <;> assumption
theorem W0 {x y : h6} (aa : me x) (ag : me y) : me (q9 x y) := by unfold q9; split <;> assumption
theorem Ex {p : Pa} {u v : Int} {w : Bool} (hp : y2 p) (hu : -900000000 ≤ u ∧ u ≤ 900000000) (hv : -900000000 ≤ v ∧ v ≤ 900000000) : y2 (ou p u v w) := by
 unfold ou
 by_cases h1 : 0 < v - u
 ·rw [if_pos h1]; exact ⟨abC hp.1 ⟨by simp only; omega, by simp only; omega⟩, hp.2⟩
 ·rw [if_neg h1]
  by_cases h2 : v - u < 0
  ·rw [if_pos h2]; exact ⟨hp.1, W0 hp.2 ⟨by simp only; omega, by simp only; omega⟩⟩
  ·rw [if_neg h2]
   split
   ·exact ⟨⟨by decide, by decide⟩, ⟨by decide, by decide⟩⟩
   ·exact hp
theorem E9 {a1 a2 b1 b2 u v : Int} {w : Bool} {p : Pa} (hp : y2 p) (hu : -900000000 ≤ u ∧ u ≤ 900000000) (hv : -900000000 ≤ v ∧ v ≤ 900000000) : aY aj 283 [FU a1 a2 b1 b2 p, aR u, aR v, bG w] (FU a1 a2 b1 b2 (ou p u v w)) := by
 refine aev (by omega) (by omega) ?_;unfold ou
 by_cases h1 : 0 < v - u
 ·rw [if_pos h1];exact .inl ⟨h1, aew hp.1 (y := ⟨-u, v - u, w⟩) ⟨by simp only; omega, by simp only; omega⟩, rfl, rfl, rfl⟩
 ·rw [if_neg h1]
  by_cases h2 : v - u < 0
  ·rw [if_pos h2];exact .inr (.inl ⟨h1, h2, aek hp.2 (y := ⟨u, -(v - u), w⟩) ⟨by simp only; omega, by simp only; omega⟩, rfl, rfl, rfl⟩)
  ·rw [if_neg h2]
   by_cases ao : u < 0
   ·rw [if_pos (.inl ao)];exact .inr (.inr (.inl ⟨h1, h2, ao, rfl, rfl, rfl, rfl, rfl, rfl⟩))
   ·by_cases aH : u = 0
    ·cases w with
     | false => rw [if_pos (.inr ⟨aH, rfl⟩)]; exact .inr (.inr (.inr (.inl ⟨h1, h2, ao, aH, rfl, rfl, rfl, rfl, rfl, rfl, rfl⟩)))
     | true => rw [if_neg (by simp [ao])]; exact .inr (.inr (.inr (.inr (.inl ⟨h1, h2, ao, aH, rfl, rfl, rfl, rfl, rfl, rfl, rfl⟩))))
    ·rw [if_neg (by simp [ao, aH])];exact .inr (.inr (.inr (.inr (.inr ⟨h1, h2, ao, aH, rfl, rfl, rfl, rfl, rfl, rfl⟩))))
instance ajq : KU aj 287 4 false 1 := ⟨by kernel_rfl⟩
abbrev va (l1 l2 h1 h2 : Int) (o p : Bool) : ai := .w (.agg [.c (.int .i64 l1), .c (.int .i64 l2), .c (.int .i64 h1), .c (.int .i64 h2), .c (.bool o), .c (.bool p)])
def tS (n : Int) : Bool := decide (-536870912 ≤ n) && decide (n ≤ 536870912)
theorem Ma {n : Int} : tS n = true ↔ -536870912 ≤ n ∧ n ≤ 536870912 := by unfold tS; simp
def tU (x y : Int) : Bool := tS x && tS y
theorem C1 {x y : Int} : tU x y = true ↔ (-536870912 ≤ x ∧ x ≤ 536870912) ∧ -536870912 ≤ y ∧ y ≤ 536870912 := by unfold tU; rw [eh, Ma, Ma]
def Et (k : Int) : Bool := decide (0 ≤ k) && decide (k ≤ 2)
theorem aei {a1 a2 b1 b2 l1 l2 h1 h2 n d m e n' d' aK bu : Int} {o p q r bT ba : Bool} (aI : -134217728 ≤ a1 ∧ a1 ≤ 134217728) (ab : -134217728 ≤ b1 ∧ b1 ≤ 134217728) (ap : -536870912 ≤ l1 ∧ l1 ≤ 536870912)
  (aP : aY aj 283 [hf a1 a2 b1 b2 n d q m e r, aR (2 * a1 - l1), aR (2 * b1 - l1), bG o] (hf a1 a2 b1 b2 n' d' bT aK bu ba)) : aY aj 252 [va l1 l2 h1 h2 o p, hf a1 a2 b1 b2 n d q m e r] (hf a1 a2 b1 b2 n' d' bT aK bu ba) := by
 refine cq (f := 252) Tryz.func252 rfl rfl rfl rfl ?_;(repeat first | (with_reducible apply az); exact rfl | (with_reducible apply nx); (iterate 3 exact rfl); (exact cZ (by omega)); exact rfl | (with_reducible apply sj); (iterate 3 exact rfl); (exact cZ (by omega)); exact rfl | refine n2 rfl rfl rfl rfl rfl rfl (by (exact aP)) rfl ?_ | (with_reducible first | apply bQ | apply bI | apply bO | apply aA | apply cf))
 ((refine bY rfl (fc rfl rfl rfl bf) ?_))
 exact ai.bo.refl _
theorem aeh {a1 a2 b1 b2 l1 l2 h1 h2 n d m e n' d' aK bu : Int} {o p q r bT ba : Bool} (aI : -134217728 ≤ a2 ∧ a2 ≤ 134217728) (ab : -134217728 ≤ b2 ∧ b2 ≤ 134217728) (ap : -536870912 ≤ l2 ∧ l2 ≤ 536870912)
  (aP : aY aj 283 [hf a1 a2 b1 b2 n d q m e r, aR (2 * a2 - l2), aR (2 * b2 - l2), bG o] (hf a1 a2 b1 b2 n' d' bT aK bu ba)) : aY aj 253 [va l1 l2 h1 h2 o p, hf a1 a2 b1 b2 n d q m e r] (hf a1 a2 b1 b2 n' d' bT aK bu ba) := by
 refine cq (f := 253) Tryz.func253 rfl rfl rfl rfl ?_;(repeat first | (with_reducible apply az); exact rfl | (with_reducible apply nx); (iterate 3 exact rfl); (exact cZ (by omega)); exact rfl | (with_reducible apply sj); (iterate 3 exact rfl); (exact cZ (by omega)); exact rfl | refine n2 rfl rfl rfl rfl rfl rfl (by (exact aP)) rfl ?_ | (with_reducible first | apply bQ | apply bI | apply bO | apply aA | apply cf))
 ((refine bY rfl (fc rfl rfl rfl bf) ?_))
 exact ai.bo.refl _
theorem aej {a1 a2 b1 b2 l1 l2 h1 h2 n d m e n' d' aK bu : Int} {o p q r bT ba : Bool} (aI : -134217728 ≤ a1 ∧ a1 ≤ 134217728) (ab : -134217728 ≤ b1 ∧ b1 ≤ 134217728) (ap : -536870912 ≤ h1 ∧ h1 ≤ 536870912)
  (aP : aY aj 283 [hf a1 a2 b1 b2 n d q m e r, aR (h1 - 2 * a1), aR (h1 - 2 * b1), bG p] (hf a1 a2 b1 b2 n' d' bT aK bu ba)) : aY aj 254 [va l1 l2 h1 h2 o p, hf a1 a2 b1 b2 n d q m e r] (hf a1 a2 b1 b2 n' d' bT aK bu ba) := by
 refine cq (f := 254) Tryz.func254 rfl rfl rfl rfl ?_;(repeat first | (with_reducible apply az); exact rfl | (with_reducible apply nx); (iterate 3 exact rfl); (exact cZ (by omega)); exact rfl | (with_reducible apply sj); (iterate 3 exact rfl); (exact cZ (by omega)); exact rfl | refine n2 rfl rfl rfl rfl rfl rfl (by (exact aP)) rfl ?_ | (with_reducible first | apply bQ | apply bI | apply bO | apply aA | apply cf))
 ((refine bY rfl (fc rfl rfl rfl bf) ?_))
 exact ai.bo.refl _
theorem aeg {a1 a2 b1 b2 l1 l2 h1 h2 n d m e n' d' aK bu : Int} {o p q r bT ba : Bool} (aI : -134217728 ≤ a2 ∧ a2 ≤ 134217728) (ab : -134217728 ≤ b2 ∧ b2 ≤ 134217728) (ap : -536870912 ≤ h2 ∧ h2 ≤ 536870912)
  (aP : aY aj 283 [hf a1 a2 b1 b2 n d q m e r, aR (h2 - 2 * a2), aR (h2 - 2 * b2), bG p] (hf a1 a2 b1 b2 n' d' bT aK bu ba)) : aY aj 255 [va l1 l2 h1 h2 o p, hf a1 a2 b1 b2 n d q m e r] (hf a1 a2 b1 b2 n' d' bT aK bu ba) := by
 refine cq (f := 255) Tryz.func255 rfl rfl rfl rfl ?_;(repeat first | (with_reducible apply az); exact rfl | (with_reducible apply nx); (iterate 3 exact rfl); (exact cZ (by omega)); exact rfl | (with_reducible apply sj); (iterate 3 exact rfl); (exact cZ (by omega)); exact rfl | refine n2 rfl rfl rfl rfl rfl rfl (by (exact aP)) rfl ?_ | (with_reducible first | apply bQ | apply bI | apply bO | apply aA | apply cf))
 ((refine bY rfl (fc rfl rfl rfl bf) ?_))
 exact ai.bo.refl _
theorem ad5 {a1 a2 b1 b2 : Int} : aY aj 251 [bi a1 a2, bi b1 b2] (FU a1 a2 b1 b2 vz) := by
 refine cq (f := 251) Tryz.func251 rfl rfl rfl rfl ?_;(repeat first | (with_reducible apply az); exact rfl | (with_reducible first | apply bQ | apply bI | apply bO | apply aA | apply cf))
 ((refine bY rfl (fc rfl rfl rfl bf) ?_))
 exact ai.bo.refl _
theorem aeq {a1 a2 b1 b2 n d m e c : Int} {o q r : Bool} (aP : aY aj 284 [ki n d o, ki m e q] (aR c)) (cs : (c < 0 ∧ r = true) ∨ (¬ c < 0 ∧ c = 0 ∧ o = true ∧ r = q) ∨ (¬ c < 0 ∧ c = 0 ∧ o = false ∧ r = false) ∨ (¬ c < 0 ∧ ¬ c = 0 ∧ r = false)) : aY aj 256 [hf a1 a2 b1 b2 n d o m e q] (bG r) := by
 rcases cs with ⟨q1, rfl⟩ | ⟨q1, q2, rfl, rfl⟩ | ⟨q1, q2, rfl, rfl⟩ | ⟨q1, q2, rfl⟩
 all_goals
  refine cq (f := 256) Tryz.func256 rfl rfl rfl rfl ?_;(repeat first | (with_reducible apply az); exact rfl | refine dP rfl rfl rfl rfl (by (exact aP)) rfl ?_ | (with_reducible apply dO (c := true)); exact rfl; exact rfl; (exact bF (by omega)) | (with_reducible apply dO (c := false)); exact rfl; exact rfl; (exact b5 (by omega)) | (with_reducible first | apply bQ | apply bI | apply bO | apply aA | apply cf))
  ((refine bY rfl (bD rfl bf) ?_))
  exact ai.bo.refl _
theorem aep {a1 a2 b1 b2 : Int} {p : Pa} (hp : y2 p) : aY aj 256 [FU a1 a2 b1 b2 p] (bG (xp p)) := by
 refine aeq (JM hp.1 hp.2) ?_;unfold xp
 by_cases h1 : hT p.f p.t < 0
 ·exact .inl ⟨h1, by rw [bF h1]; rfl⟩
 ·rw [b5 h1]
  by_cases h2 : hT p.f p.t = 0
  ·rw [bF h2];cases ao : p.f.own with
   | true => exact .inr (.inl ⟨h1, h2, rfl, rfl⟩)
   | false => exact .inr (.inr (.inl ⟨h1, h2, rfl, rfl⟩))
  ·exact .inr (.inr (.inr ⟨h1, h2, by rw [b5 h2]; rfl⟩))
theorem QS {n : Int} {b : Bool} (ab : tS n = b) : aY aj 282 [aR n] (bG b) := by
 have cs : (-536870912 ≤ n ∧ n ≤ 536870912 ∧ b = true) ∨ (-536870912 ≤ n ∧ ¬ n ≤ 536870912 ∧ b = false) ∨ (¬ -536870912 ≤ n ∧ b = false) := by
  rw [← ab]; unfold tS
  by_cases h1 : -536870912 ≤ n <;> by_cases h2 : n ≤ 536870912 <;> simp [h1, h2]
 clear ab;rcases cs with ⟨h1, h2, rfl⟩ | ⟨h1, h2, rfl⟩ | ⟨h1, rfl⟩
 all_goals
  refine cq (f := 282) Tryz.func282 rfl rfl rfl rfl ?_;(repeat first | (with_reducible apply az); exact rfl | (with_reducible apply dO (c := true)); exact rfl; exact rfl; (exact bF (by omega)) | (with_reducible apply dO (c := false)); exact rfl; exact rfl; (exact b5 (by omega)) | (with_reducible first | apply bQ | apply bI | apply bO | apply aA | apply cf))
  ((refine bY rfl (bD rfl bf) ?_))
  first | exact ai.bo.refl _ | exact ai.bo.of_eq (by rw [bF h2]; rfl) | exact ai.bo.of_eq (by rw [b5 h2]; rfl)
theorem E8 {x y : Int} {b : Bool} (ab : tU x y = b) : aY aj 249 [bi x y] (bG b) := by
 have aP := QS (n := x) rfl;have b6 := QS (n := y) rfl;unfold tU at ab;cases q1 : tS x <;> cases q2 : tS y <;> rw [q1] at aP <;> rw [q2] at b6 <;> rw [q1, q2] at ab <;> subst ab <;> clear q1 q2
 all_goals
  refine cq (f := 249) Tryz.func249 rfl rfl rfl rfl ?_;(repeat first | (with_reducible apply az); exact rfl | refine e2 rfl rfl rfl (by (first | exact aP | exact b6)) rfl ?_ | (with_reducible first | apply bQ | apply bI | apply bO | apply aA | apply cf))
  ((refine bY rfl (bD rfl bf) ?_))
  exact ai.bo.refl _
theorem QW {k : Int} {b : Bool} (ab : Et k = b) : aY aj 250 [aR k] (bG b) := by
 have cs : (k = 0 ∧ b = true) ∨ (¬ k = 0 ∧ k = 1 ∧ b = true) ∨ (¬ k = 0 ∧ ¬ k = 1 ∧ k = 2 ∧ b = true) ∨ (¬ k = 0 ∧ ¬ k = 1 ∧ ¬ k = 2 ∧ b = false) := by
  rw [← ab]; unfold Et
  by_cases h1 : k = 0
  ·exact .inl ⟨h1, by subst h1; rfl⟩
  ·by_cases h2 : k = 1
   ·exact .inr (.inl ⟨h1, h2, by subst h2; rfl⟩)
   ·by_cases ao : k = 2
    ·exact .inr (.inr (.inl ⟨h1, h2, ao, by subst ao; rfl⟩))
    ·refine .inr (.inr (.inr ⟨h1, h2, ao, ?_⟩));rw [Bool.and_eq_false_iff, l0, l0];omega
 clear ab;rcases cs with ⟨h1, rfl⟩ | ⟨h1, h2, rfl⟩ | ⟨h1, h2, ao, rfl⟩ | ⟨h1, h2, ao, rfl⟩
 all_goals
  refine cq (f := 250) Tryz.func250 rfl rfl rfl rfl ?_;(repeat first | (with_reducible apply az); exact rfl | (with_reducible apply dO (c := true)); exact rfl; exact rfl; (exact bF (by omega)) | (with_reducible apply dO (c := false)); exact rfl; exact rfl; (exact b5 (by omega)) | (with_reducible first | apply bQ | apply bI | apply bO | apply aA | apply cf))
  ((refine bY rfl (bD rfl bf) ?_))
  first | exact ai.bo.refl _ | exact ai.bo.of_eq (by rw [bF ao]; rfl) | exact ai.bo.of_eq (by rw [b5 ao]; rfl)
theorem adR {a1 a2 b1 b2 l1 l2 h1 h2 k : Int} {o p r : Bool} {fT d1 m1 aG fC d2 m2 aM s5 d3 m3 cD s6 d4 m4 eR : Int} {q1 cN q2 cJ cr gH eE pA : Bool} (bl : aY aj 171 [bi a1 a2] (bG true)) (eZ : aY aj 171 [bi b1 b2] (bG true)) (vj : aY aj 249 [bi l1 l2] (bG true)) (xb : aY aj 249 [bi h1 h2] (bG true)) (Gg : aY aj 250 [aR k] (bG true))
  (Hf : (!decide (k = 2)) = o) (sw : decide (k = 1) = p) (b0 : aY aj 251 [bi a1 a2, bi b1 b2] (hf a1 a2 b1 b2 0 1 true 1 1 true))
  (aP : aY aj 252 [va l1 l2 h1 h2 o p, hf a1 a2 b1 b2 0 1 true 1 1 true] (hf a1 a2 b1 b2 fT d1 q1 m1 aG cN))
  (b6 : aY aj 253 [va l1 l2 h1 h2 o p, hf a1 a2 b1 b2 fT d1 q1 m1 aG cN] (hf a1 a2 b1 b2 fC d2 q2 m2 aM cJ))
  (fo : aY aj 254 [va l1 l2 h1 h2 o p, hf a1 a2 b1 b2 fC d2 q2 m2 aM cJ] (hf a1 a2 b1 b2 s5 d3 cr m3 cD gH))
  (nS : aY aj 255 [va l1 l2 h1 h2 o p, hf a1 a2 b1 b2 s5 d3 cr m3 cD gH] (hf a1 a2 b1 b2 s6 d4 eE m4 eR pA))
  (H1 : aY aj 256 [hf a1 a2 b1 b2 s6 d4 eE m4 eR pA] (bG r)) :
  aY aj 226 [bi a1 a2, bi b1 b2, bi l1 l2, bi h1 h2, aR k] (bG r) := by
 subst Hf;subst sw;refine cq (f := 226) Tryz.func226 rfl rfl rfl rfl ?_;(repeat first | (with_reducible apply az); exact rfl | (with_reducible apply zf); (iterate 4 exact rfl) | refine e2 rfl rfl rfl (by (first | exact bl | exact eZ | exact vj | exact xb | exact Gg)) rfl ?_ | refine dP rfl rfl rfl rfl (by (exact b0)) rfl ?_ | (with_reducible first | apply bQ | apply bI | apply bO | apply aA | apply e3 | apply gW) | (with_reducible apply ib); exact rfl);refine Vl 5 ?_;(repeat first | (with_reducible apply az); exact rfl | (with_reducible apply fh); (iterate 3 exact rfl); (exact cZ (by omega)); exact rfl | (with_reducible apply UX); (iterate 3 exact rfl); (decide); (decide); (rfl); exact rfl | refine e2 rfl rfl rfl (by (exact H1)) rfl ?_ | refine UI (bs := [_]) (args := [_]) rfl rfl rfl rfl (by (first | exact aP | exact b6 | exact fo | exact nS)) rfl ?_ | (with_reducible first | apply bQ | apply bI | apply bO | apply aA | apply cf | apply e3 | apply gW | apply nw | apply vy | apply vC | apply vB | apply afF) | (with_reducible apply iK); exact rfl | (with_reducible apply ib); exact rfl)
 ((refine bY rfl (bD rfl bf) ?_))
 exact ai.bo.refl _
def cz (a1 a2 b1 b2 l1 l2 h1 h2 k : Int) : Pa := tW (2 * a1 - l1) (2 * b1 - l1) (2 * a2 - l2) (2 * b2 - l2) (h1 - 2 * a1) (h1 - 2 * b1) (h2 - 2 * a2) (h2 - 2 * b2) (!decide (k = 2)) (decide (k = 1))
def yh (a1 a2 b1 b2 l1 l2 h1 h2 k : Int) : Bool := cG a1 a2 && cG b1 b2 && tU l1 l2 && tU h1 h2 && Et k
def uM (a1 a2 b1 b2 l1 l2 h1 h2 k : Int) : Bool := yh a1 a2 b1 b2 l1 l2 h1 h2 k && xp (cz a1 a2 b1 b2 l1 l2 h1 h2 k)
theorem adS {a1 a2 b1 b2 l1 l2 h1 h2 k : Int} {cN cJ gH pA yy : Bool} (bl : aY aj 171 [bi a1 a2] (bG cN)) (eZ : aY aj 171 [bi b1 b2] (bG cJ)) (vj : aY aj 249 [bi l1 l2] (bG gH)) (xb : aY aj 249 [bi h1 h2] (bG pA)) (Gg : aY aj 250 [aR k] (bG yy)) (h : (cN && cJ && gH && pA && yy) = false) :
  aY aj 226 [bi a1 a2, bi b1 b2, bi l1 l2, bi h1 h2, aR k] (bG false) := by
 have cs : cN = false ∨ (cN = true ∧ cJ = false) ∨ (cN = true ∧ cJ = true ∧ gH = false) ∨ (cN = true ∧ cJ = true ∧ gH = true ∧ pA = false) ∨ (cN = true ∧ cJ = true ∧ gH = true ∧ pA = true ∧ yy = false) := by
  cases cN <;> cases cJ <;> cases gH <;> cases pA <;> cases yy <;> simp_all
 clear h;rcases cs with rfl | ⟨rfl, rfl⟩ | ⟨rfl, rfl, rfl⟩ | ⟨rfl, rfl, rfl, rfl⟩ | ⟨rfl, rfl, rfl, rfl, rfl⟩
 all_goals
  refine cq (f := 226) Tryz.func226 rfl rfl rfl rfl ?_;(repeat first | (with_reducible apply az); exact rfl | refine e2 rfl rfl rfl (by (first | exact bl | exact eZ | exact vj | exact xb | exact Gg)) rfl ?_ | (with_reducible first | apply bQ | apply bI | apply bO | apply aA | apply cf | apply fV) | (with_reducible apply iK); exact rfl)
  ((refine bY rfl (bD rfl bf) ?_))
  exact ai.bo.refl _
theorem Lx : y2 vz := ⟨⟨by decide, by decide⟩, ⟨by decide, by decide⟩⟩
theorem adQ {a1 a2 b1 b2 l1 l2 h1 h2 k : Int} : aY aj 226 [bi a1 a2, bi b1 b2, bi l1 l2, bi h1 h2, aR k] (bG (uM a1 a2 b1 b2 l1 l2 h1 h2 k)) := by
 unfold uM;cases al : yh a1 a2 b1 b2 l1 l2 h1 h2 k with
 | false => exact adS (pt rfl) (pt rfl) (E8 rfl) (E8 rfl) (QW rfl) al
 | true =>
  rw [qH];unfold yh at al;simp only [eh] at al;obtain ⟨⟨⟨⟨tn, tp⟩, jP⟩, jO⟩, afC⟩ := al;have Eg := tm.1 tn;have Eh := tm.1 tp;have OE := C1.1 jP;have bW := C1.1 jO;unfold cz tW;have o1 := Ex (u := 2 * a1 - l1) (v := 2 * b1 - l1) (w := !decide (k = 2)) Lx (by omega) (by omega);have o2 := Ex (u := 2 * a2 - l2) (v := 2 * b2 - l2) (w := !decide (k = 2)) o1 (by omega) (by omega);have Qs := Ex (u := h1 - 2 * a1) (v := h1 - 2 * b1) (w := decide (k = 1)) o2 (by omega) (by omega);have adf := Ex (u := h2 - 2 * a2) (v := h2 - 2 * b2) (w := decide (k = 1)) Qs (by omega) (by omega);exact adR (pt tn) (pt tp) (E8 jP) (E8 jO) (QW afC) rfl rfl ad5 (aei Eg.1 Eh.1 OE.1 (E9 Lx (by omega) (by omega))) (aeh Eg.2 Eh.2 OE.2 (E9 o1 (by omega) (by omega))) (aej Eg.1 Eh.1 bW.1 (E9 o2 (by omega) (by omega))) (aeg Eg.2 Eh.2 bW.2 (E9 Qs (by omega) (by omega))) (aep adf)
theorem QO {a1 a2 b1 b2 x y k : Int} {cN cJ : Bool} (pL : aY aj 88 [aR k] (bG cN)) (yV : aY aj 77 [bi x y, aR k] (bG cJ)) (h : (cN && cJ) = false) : aY aj 178 [bi a1 a2, bi b1 b2, bi x y, aR k] (bG false) := by
 have cs : cN = false ∨ (cN = true ∧ cJ = false) := by cases cN <;> cases cJ <;> simp_all
 clear h;rcases cs with rfl | ⟨rfl, rfl⟩
 all_goals
  refine cq (f := 178) Tryz.func178 rfl rfl rfl rfl ?_;(repeat first | (with_reducible apply az); exact rfl | refine e2 rfl rfl rfl (by (exact pL)) rfl ?_ | refine dP rfl rfl rfl rfl (by (exact yV)) rfl ?_ | (with_reducible first | apply bQ | apply bI | apply bO | apply aA | apply cf | apply fV) | (with_reducible apply iK); exact rfl)
  ((refine bY rfl (bD rfl bf) ?_))
  exact ai.bo.refl _
theorem adM {a1 a2 b1 b2 x y k l1 l2 h1 h2 : Int} {r : Bool} (pL : aY aj 88 [aR k] (bG true)) (yV : aY aj 77 [bi x y, aR k] (bG true)) (Ts : aY aj 225 [bi x y, aR k] (.dd [.agg [.c (.int .i64 l1), .c (.int .i64 l2)], .agg [.c (.int .i64 h1), .c (.int .i64 h2)]])) (M : aY aj 226 [bi a1 a2, bi b1 b2, bi l1 l2, bi h1 h2, aR 0] (bG r)) : aY aj 178 [bi a1 a2, bi b1 b2, bi x y, aR k] (bG r) := by
 refine cq (f := 178) Tryz.func178 rfl rfl rfl rfl ?_;(repeat first | (with_reducible apply az); exact rfl | refine e2 rfl rfl rfl (by (exact pL)) rfl ?_ | refine dP rfl rfl rfl rfl (by (first | exact yV | exact Ts)) rfl ?_ | refine UH rfl rfl rfl rfl rfl rfl rfl (by (exact M)) rfl ?_ | (with_reducible first | apply bQ | apply bI | apply bO | apply aA | apply cf | apply e3) | (with_reducible apply ib); exact rfl)
 ((refine bY rfl (bD rfl bf) ?_))
 exact ai.bo.refl _
def sM (a1 a2 b1 b2 x y k : Int) : Bool := decide (0 ≤ k) && decide (k ≤ 28) && e4 k.toNat x y && uM a1 a2 b1 b2 (2 * (2 ^ k.toNat * x) - 2 ^ k.toNat) (2 * (2 ^ k.toNat * y) - 2 ^ k.toNat) (2 * (2 ^ k.toNat * x) + 2 ^ k.toNat) (2 * (2 ^ k.toNat * y) + 2 ^ k.toNat) 0
theorem aaQ {k : Int} (h : (decide (0 ≤ k) && decide (k ≤ 28)) = true) : hg k k.toNat := by
 simp only [eh, cL] at h;unfold hg;omega
theorem adL {a1 a2 b1 b2 x y k : Int} : aY aj 178 [bi a1 a2, bi b1 b2, bi x y, aR k] (bG (sM a1 a2 b1 b2 x y k)) := by
 unfold sM;have pL := aeo (k := k);cases ae : (decide (0 ≤ k) && decide (k ≤ 28)) with
 | false =>
  rw [ae] at pL;obtain ⟨r, al⟩ := aaP k;exact QO pL (Bd al rfl) rfl
 | true =>
  rw [ae] at pL;have al := aaQ ae;cases hi : e4 k.toNat x y with
  | false => exact QO pL (Bd al hi) rfl
  | true => exact adM pL (Bd al hi) (ad1 al hi) adQ
end Go.Proofs.YtpochbhajmbfdaaGreat
namespace Go.Proofs.YtpochbhajmbfdaaGreat
def Gh (a1 a2 b1 b2 l1 l2 h1 h2 k : Int) : Prop := Met (2 * a1 - l1) (2 * b1 - l1) (2 * a2 - l2) (2 * b2 - l2) (h1 - 2 * a1) (h1 - 2 * b1) (h2 - 2 * a2) (h2 - 2 * b2) (!decide (k = 2)) (decide (k = 1))
theorem AY {a1 a2 b1 b2 l1 l2 h1 h2 k : Int} : uM a1 a2 b1 b2 l1 l2 h1 h2 k = true ↔ yh a1 a2 b1 b2 l1 l2 h1 h2 k = true ∧ Gh a1 a2 b1 b2 l1 l2 h1 h2 k := by
 unfold uM cz Gh;rw [eh, We]
theorem Jh {a1 a2 b1 b2 l1 l2 h1 h2 k : Int} : yh a1 a2 b1 b2 l1 l2 h1 h2 k = true ↔ cG a1 a2 = true ∧ cG b1 b2 = true ∧ tU l1 l2 = true ∧ tU h1 h2 = true ∧ Et k = true := by
 unfold yh;simp only [eh, and_assoc]
theorem D4 {u v n d : Int} {o : Bool} (h : iH u v o n d) : iH v u o (d - n) d := by
 unfold iH at *;have e : v * (d - (d - n)) + u * (d - n) = u * (d - n) + v * n := by grind
 rw [e]; exact h
theorem PJ {cH v1 cC v2 im v3 kh v4 : Int} {o p : Bool} (h : Met cH v1 cC v2 im v3 kh v4 o p) : Met v1 cH v2 cC v3 im v4 kh o p := by
 obtain ⟨n, d, hd, aD, g1, g2, g3, g4⟩ := h;exact ⟨d - n, d, hd, by omega, D4 g1, D4 g2, D4 g3, D4 g4⟩
theorem acf (a1 a2 b1 b2 l1 l2 h1 h2 k : Int) : uM b1 b2 a1 a2 l1 l2 h1 h2 k = uM a1 a2 b1 b2 l1 l2 h1 h2 k := by
 rw [mC, AY, AY, Jh, Jh];unfold Gh;exact ⟨fun ⟨⟨cN, cJ, gH⟩, h⟩ => ⟨⟨cJ, cN, gH⟩, PJ h⟩, fun ⟨⟨cN, cJ, gH⟩, h⟩ => ⟨⟨cJ, cN, gH⟩, PJ h⟩⟩
end Go.Proofs.YtpochbhajmbfdaaGreat
namespace Go.Proofs.YtpochbhajmbfdaaGreat
open Go.ChangeShapes Go.WideShapes Go.ChangeAt Go.RowKit Go.Joins
theorem adx : ownKnob aj.godebug = none := by kernel_rfl
def xJ (P : Program) : Nat → TypeId → Bool
 | 0, _ => false
 | d + 1, t => match P.underlying t with
  | some .bool | some (.int _) | some .string => true
  | some (.struct fs) => fs.toList.all fun f => xJ P d f.type
  | some (.array _ e) => xJ P d e
  | _ => false
theorem mapM_flat {α β : Type} {f g : α → Option (β × List MemPlace)} : ∀ (l : List α) (xs : List (β × List MemPlace)), l.mapM f = some xs → (∀ a ∈ l, ∀ x, f a = some x → x.2 = [] ∧ g a = some (x.1, [])) → xs.flatMap (·.2) = [] ∧ l.mapM g = some xs
 | [], xs, h, _ => by cases h; exact ⟨rfl, rfl⟩
 | a :: l, xs, h, ae => by
  rw [List.mapM_cons] at h;cases aI : f a with
  | none => rw [aI] at h; cases h
  | some b =>
   rw [aI] at h;cases ap : l.mapM f with
   | none => rw [ap] at h; cases h
   | some bs =>
    rw [ap] at h;cases h;obtain ⟨h1, h2⟩ := ae a (by simp) b aI;obtain ⟨ao, aH⟩ := mapM_flat l bs ap fun a' hV => ae a' (by simp [hV]);refine ⟨by simp [h1]; intro a' bR ln; have := List.flatMap_eq_nil_iff.1 ao _ ln; exact this, ?_⟩;rw [List.mapM_cons, h2, aH];obtain ⟨b1, b2⟩ := b;simp only at h1;subst h1;rfl
section
variable {H : Type} {enc : TypeId × Value → H} {P : Program}
theorem Na : ∀ (d : Nat) (t : TypeId), xJ P d t = true → ∀ (fz : Nat) (w : World) (base : Nat) (sp : Nat → Bool) (held : Bool) (cs : List Value) (x : DataW H × List MemPlace), DataW.trod enc P w base sp held fz t cs = some x →
  x.2 = [] ∧ ∀ (w' : World) (pW : Nat) (qM : Nat → Bool) (qk : Bool), DataW.trod enc P w' pW qM qk fz t cs = some (x.1, [])
 | 0, _, h, _, _, _, _, _, _, _, _ => by cases h
 | d + 1, t, aw, 0, _, _, _, _, _, _, h => by simp [DataW.trod] at h
 | d + 1, t, aw, fz + 1, w, base, sp, held, cs, x, h => by
  have bW := fun oG (aaa : xJ P d oG = true) => Na d oG aaa fz;rw [DataW.trod_step] at h;simp only [DataW.trod_step];unfold xJ at aw;unfold DataW.trodStep at h ⊢;cases hu : P.underlying t with
  | none => rw [hu] at aw; cases aw
  | some D =>
   rw [hu] at aw h;cases D with
   | bool =>
    match cs, h with
    | [.bool b], h => cases h; exact ⟨rfl, fun _ _ _ _ => rfl⟩
   | int k =>
    match cs, h with
    | [.int k' n], h =>
     simp only at h ⊢
     split at h
     ·rename_i ak; cases h; exact ⟨rfl, fun _ _ _ _ => by rw [if_pos ak]⟩
     ·cases h
   | string =>
    match cs, h with
    | [.string s], h =>
     simp only at h ⊢
     split at h
     ·rename_i ak; cases h; exact ⟨rfl, fun _ _ _ _ => by rw [if_pos ak]⟩
     ·cases h
   | struct fs =>
    simp only at h ⊢ aw
    split at h
    ·rename_i ak;simp only [Option.map_eq_some_iff] at h;obtain ⟨xs, aa, rfl⟩ := h;have di := cB.1 aw;refine ⟨?_, fun w' pW qM qk => ?_⟩
     ·exact (mapM_flat (g := fun f => DataW.trod enc P w base sp held fz f.type ((cs.drop f.offset).take (P.cellsOf f.type))) _ _ aa fun f mq y ag => ⟨(bW f.type (di f mq) w base sp held _ y ag).1, (bW f.type (di f mq) w base sp held _ y ag).2 w base sp held⟩).1
     ·have := mapM_flat (g := fun f => DataW.trod enc P w' pW qM qk fz f.type ((cs.drop f.offset).take (P.cellsOf f.type))) _ _ aa fun f mq y ag => ⟨(bW f.type (di f mq) w base sp held _ y ag).1, (bW f.type (di f mq) w base sp held _ y ag).2 w' pW qM qk⟩;rw [if_pos ak, this.2];simp only [hy, this.1]
    ·cases h
   | array n e =>
    simp only at h ⊢ aw
    split at h
    ·rename_i ak;simp only [Option.map_eq_some_iff] at h;obtain ⟨xs, aa, rfl⟩ := h;refine ⟨?_, fun w' pW qM qk => ?_⟩
     ·exact (mapM_flat (g := fun i => DataW.trod enc P w base sp held fz e ((cs.drop (i * P.cellsOf e)).take (P.cellsOf e))) _ _ aa fun f _ y ag => ⟨(bW e aw w base sp held _ y ag).1, (bW e aw w base sp held _ y ag).2 w base sp held⟩).1
     ·have := mapM_flat (g := fun i => DataW.trod enc P w' pW qM qk fz e ((cs.drop (i * P.cellsOf e)).take (P.cellsOf e))) _ _ aa fun f _ y ag => ⟨(bW e aw w base sp held _ y ag).1, (bW e aw w base sp held _ y ag).2 w' pW qM qk⟩;rw [if_pos ak, this.2];simp only [hy, this.1]
    ·cases h
   | _ => cases aw
theorem M8 {d : Nat} {t : TypeId} (aw : xJ P d t = true) {w : World} {base : Nat} {sp : Nat → Bool} {held : Bool} {v : Value} {D : DataW H} {p : List MemPlace} (h : DataW.Trod enc P w base sp held t v D p) :
  p = [] ∧ ∀ (w' : World) (pW : Nat) (qM : Nat → Bool) (qk : Bool), DataW.Trod enc P w' pW qM qk t v D [] := by
 obtain ⟨fz, h⟩ := h;obtain ⟨h1, h2⟩ := Na d t aw fz w base sp held _ _ h;exact ⟨h1, fun w' pW qM qk => ⟨fz, h2 w' pW qM qk⟩⟩
end
section
variable {P : Program} {W : World} {r : Reach} {b : Nat} {t : TypeId} {v : Value}
theorem QA {k : IntKind} (hu : P.underlying t = some (.int k)) (h : Cell.okWide P W r b t v) : ∃ n, v = .int k n ∧ k.min ≤ n ∧ n ≤ k.max := by
 unfold Cell.okWide Cell.ok at h;rw [hu] at h;cases v <;> simp only at h;rename_i k' n;obtain ⟨rfl, h⟩ := h;exact ⟨n, rfl, by simpa [IntKind.has] using h⟩
theorem QB {D : TypeDesc} (hu : P.underlying t = some D) (hs : ∀ fs, D ≠ .struct fs) (aI : ∀ n e, D ≠ .array n e) (h : Value.okWide P W r b t v) : Cell.okWide P W r b t v := by
 unfold Value.okWide at h;rw [hu] at h;cases D <;> first | exact h | exact absurd rfl (hs _) | exact absurd rfl (aI _ _)
end
end Go.Proofs.YtpochbhajmbfdaaGreat
namespace Go.Proofs.YtpochbhajmbfdaaGreat
open Go.RowKit
theorem Yc {P v : Int} (fp : 0 < P) : 2 * ((2 * v + P) / (2 * P) * P) ≤ 2 * v + P ∧ 2 * v + P < 2 * ((2 * v + P) / (2 * P) * P) + 2 * P := by
 have h1 := ti (2 * v + P) (2 * P);have h2 := pz (2 * v + P) (show 2 * P ≠ 0 by omega);have ao := oE (2 * v + P) (show 0 < 2 * P by omega);have e : 2 * P * ((2 * v + P) / (2 * P)) = 2 * ((2 * v + P) / (2 * P) * P) := by rw [lD, kf P]
 omega
theorem H8 {a1 a2 b1 b2 q1 q2 : Int} {r : Nat} (al : r ≤ 28) : sM a1 a2 b1 b2 q1 q2 r = true ↔ e4 r q1 q2 = true ∧ uM a1 a2 b1 b2 (2 * (2 ^ r * q1) - 2 ^ r) (2 * (2 ^ r * q2) - 2 ^ r) (2 * (2 ^ r * q1) + 2 ^ r) (2 * (2 ^ r * q2) + 2 ^ r) 0 = true := by
 unfold sM;have g1 : decide ((0 : Int) ≤ (r : Int)) = true := bF (by omega);have g2 : decide ((r : Int) ≤ 28) = true := bF (by omega);rw [g1, g2, k6, Bool.and_self, qH, eh]
theorem Zt {a1 a2 b1 b2 q1 q2 k : Int} : sM b1 b2 a1 a2 q1 q2 k = sM a1 a2 b1 b2 q1 q2 k := by unfold sM; rw [acf]
def qw (a1 a2 b1 b2 k : Int) (p : aq) : Bool := sM a1 a2 b1 b2 p.1 p.2 k
end Go.Proofs.YtpochbhajmbfdaaGreat
namespace Go.Proofs.YtpochbhajmbfdaaGreat
def ta (a b x zJ t : Rat) : Prop := -zJ ≤ 2 * a + t * (2 * (b - a)) - x ∧ 2 * a + t * (2 * (b - a)) - x ≤ zJ
def nH (S p q x u : Rat) : Prop := 2 * (S * x) - S ≤ 2 * (S * p + u * (S * q - S * p)) ∧ 2 * (S * p + u * (S * q - S * p)) < 2 * (S * x) + S
theorem Ql {a b p q x S d t1 t2 u : Rat} (h1 : ta a b (2 * (S * p)) (d * S) t1) (h2 : ta a b (2 * (S * q)) (d * S) t2) (kJ : 0 ≤ u) (cH : u ≤ 1) (hm : nH S p q x u) : ta a b (2 * (S * x)) ((d + 1) * S) (t1 + u * (t2 - t1)) := by
 obtain ⟨a1, a2⟩ := h1;obtain ⟨b1, b2⟩ := h2;obtain ⟨m1, m2⟩ := hm;have v0 : 0 ≤ 1 - u := by grind
 have bC := kG v0 (show 0 ≤ 2 * a + t1 * (2 * (b - a)) - 2 * (S * p) + d * S by grind);have cd := kG v0 (show 0 ≤ d * S - (2 * a + t1 * (2 * (b - a)) - 2 * (S * p)) by grind);have ie := kG kJ (show 0 ≤ 2 * a + t2 * (2 * (b - a)) - 2 * (S * q) + d * S by grind);have jI := kG kJ (show 0 ≤ d * S - (2 * a + t2 * (2 * (b - a)) - 2 * (S * q)) by grind)
 constructor
 ·grind
 ·grind
theorem Qm {a b x f g t : Rat} (xW : f ≤ g) (h : ta a b x f t) : ta a b x g t := by
 obtain ⟨h1, h2⟩ := h
 constructor <;> grind
abbrev br (n : Int) : Rat := (n : Rat)
def yo (a1 a2 b1 b2 S : Int) (zJ t : Rat) (v : aq) : Prop := ta (br a1) (br b1) (2 * (br S * br v.1)) zJ t ∧ ta (br a2) (br b2) (2 * (br S * br v.2)) zJ t
def qX (S : Int) (p q : aq) (u : Rat) (x : aq) : Prop := (0 ≤ u ∧ u ≤ 1) ∧ nH (br S) (br p.1) (br q.1) (br x.1) u ∧ nH (br S) (br p.2) (br q.2) (br x.2) u
theorem ac5 {a1 a2 b1 b2 S : Int} {d t1 t2 u : Rat} {p q x : aq} (h1 : yo a1 a2 b1 b2 S (d * br S) t1 p) (h2 : yo a1 a2 b1 b2 S (d * br S) t2 q) (hm : qX S p q u x) : yo a1 a2 b1 b2 S ((d + 1) * br S) (t1 + u * (t2 - t1)) x :=
 ⟨Ql h1.1 h2.1 hm.1.1 hm.1.2 hm.2.1, Ql h1.2 h2.2 hm.1.1 hm.1.2 hm.2.2⟩
theorem ac6 {a1 a2 b1 b2 S : Int} {f g t : Rat} {v : aq} (xW : f ≤ g) (h : yo a1 a2 b1 b2 S f t v) : yo a1 a2 b1 b2 S g t v := ⟨Qm xW h.1, Qm xW h.2⟩
theorem rM {a b : Int} : br a ≤ br b ↔ a ≤ b := Rat.intCast_le_intCast
theorem J1 {a b : Int} : br a < br b ↔ a < b := Rat.intCast_lt_intCast
theorem qJ {a : Int} (h : 0 < a) : 0 < br a := by have := J1.2 h; simpa [br] using this
theorem Fm {a b : Int} (h : a < b) : br a + 1 ≤ br b := by
 have := rM.2 (show a + 1 ≤ b from h);simpa [br, tl] using this
theorem PT {S p q x y : Int} {u w : Rat} (hS : 0 < S) (aa : nH (br S) (br p) (br q) (br x) u) (ag : nH (br S) (br p) (br q) (br y) w) (lv : x < y) (iy : p ≤ q) : u ≤ w := by
 have eH := qJ hS;obtain ⟨c0, dm⟩ := aa;obtain ⟨l8, rW⟩ := ag;have h1 := Fm lv;have h2 := rM.2 iy;have bC := kG (Rat.le_of_lt eH) (show 0 ≤ br y - (br x + 1) by grind);refine Rat.not_lt.1 fun aal => ?_;have cd := kG (show 0 ≤ u - w by grind) (kG (Rat.le_of_lt eH) (show 0 ≤ br q - br p by grind));grind
theorem PS {S p q x y : Int} {u w : Rat} (hS : 0 < S) (aa : nH (br S) (br p) (br q) (br x) u) (ag : nH (br S) (br p) (br q) (br y) w) (lv : y < x) (iy : q ≤ p) : u ≤ w := by
 have eH := qJ hS;obtain ⟨c0, dm⟩ := aa;obtain ⟨l8, rW⟩ := ag;have h1 := Fm lv;have h2 := rM.2 iy;have bC := kG (Rat.le_of_lt eH) (show 0 ≤ br x - (br y + 1) by grind);refine Rat.not_lt.1 fun aal => ?_;have cd := kG (show 0 ≤ u - w by grind) (kG (Rat.le_of_lt eH) (show 0 ≤ br p - br q by grind));grind
theorem EL {S p q x y : Int} {u w : Rat} (hS : 0 < S) (aa : nH (br S) (br p) (br q) (br x) u) (ag : nH (br S) (br p) (br q) (br y) w) (sQ : u ≤ w) (iy : p ≤ q) : x ≤ y := by
 have eH := qJ hS;obtain ⟨c0, dm⟩ := aa;obtain ⟨l8, rW⟩ := ag;refine Int.not_lt.1 fun IL => ?_;have h1 := Fm IL;have h2 := rM.2 iy;have bC := kG (Rat.le_of_lt eH) (show 0 ≤ br x - (br y + 1) by grind);have cd := kG (show 0 ≤ w - u by grind) (kG (Rat.le_of_lt eH) (show 0 ≤ br q - br p by grind));grind
theorem EK {S p q x y : Int} {u w : Rat} (hS : 0 < S) (aa : nH (br S) (br p) (br q) (br x) u) (ag : nH (br S) (br p) (br q) (br y) w) (sQ : u ≤ w) (iy : q ≤ p) : y ≤ x := by
 have eH := qJ hS;obtain ⟨c0, dm⟩ := aa;obtain ⟨l8, rW⟩ := ag;refine Int.not_lt.1 fun IL => ?_;have h1 := Fm IL;have h2 := rM.2 iy;have bC := kG (Rat.le_of_lt eH) (show 0 ≤ br y - (br x + 1) by grind);have cd := kG (show 0 ≤ w - u by grind) (kG (Rat.le_of_lt eH) (show 0 ≤ br p - br q by grind));grind
theorem PQ {S p q : Int} (hS : 0 < S) : nH (br S) (br p) (br q) (br p) 0 := by
 have eH := qJ hS
 constructor <;> grind
theorem PR {S p q : Int} (hS : 0 < S) : nH (br S) (br p) (br q) (br q) 1 := by
 have eH := qJ hS
 constructor <;> grind
theorem yj {S p q x : Int} {u : Rat} (hS : 0 < S) (aJ : 0 ≤ u) (h1 : u ≤ 1) (aa : nH (br S) (br p) (br q) (br x) u) : (p ≤ q → p ≤ x ∧ x ≤ q) ∧ (q ≤ p → q ≤ x ∧ x ≤ p) :=
 ⟨fun h => ⟨EL hS (PQ hS) aa aJ h, EL hS aa (PR hS) h1 h⟩, fun h => ⟨EK hS aa (PR hS) h1 h, EK hS (PQ hS) aa aJ h⟩⟩
theorem PK {S : Int} {p q x y : aq} {u w : Rat} (hS : 0 < S) (aa : qX S p q u x) (ag : qX S p q w y) (h : dN (decide (S * q.1 < S * p.1)) (decide (S * q.2 < S * p.2)) x y = true) : u ≤ w := by
 have aG : (S * q.1 < S * p.1) ↔ q.1 < p.1 := ⟨fun h => Int.lt_of_mul_lt_mul_left h (by omega), fun h => Int.mul_lt_mul_of_pos_left h hS⟩;have aM : (S * q.2 < S * p.2) ↔ q.2 < p.2 := ⟨fun h => Int.lt_of_mul_lt_mul_left h (by omega), fun h => Int.mul_lt_mul_of_pos_left h hS⟩;rw [xk] at h;simp only [cL, aG, aM] at h;rcases h with h | ⟨he, h⟩
 ·by_cases g : q.1 < p.1
  ·rw [if_pos g] at h; exact PS hS aa.2.1 ag.2.1 h (by omega)
  ·rw [if_neg g] at h; exact PT hS aa.2.1 ag.2.1 h (by omega)
 ·by_cases g : q.2 < p.2
  ·rw [if_pos g] at h; exact PS hS aa.2.2 ag.2.2 h (by omega)
  ·rw [if_neg g] at h; exact PT hS aa.2.2 ag.2.2 h (by omega)
theorem ZK {a b l n d u : Rat} (d0 : 0 < d) (hu : u * d = n) (h : 0 ≤ (2 * a - l) * (d - n) + (2 * b - l) * n) : l ≤ 2 * (a + u * (b - a)) := by
 subst hu;refine Rat.not_lt.1 fun bh => ?_;have k := Rat.mul_pos d0 (show 0 < l - 2 * (a + u * (b - a)) by grind);grind
theorem ZL {a b l n d u : Rat} (d0 : 0 < d) (hu : u * d = n) (h : 0 < (l - 2 * a) * (d - n) + (l - 2 * b) * n) : 2 * (a + u * (b - a)) < l := by
 subst hu;refine Rat.not_le.1 fun bh => ?_;have k := kG (Rat.le_of_lt d0) (show 0 ≤ 2 * (a + u * (b - a)) - l by grind);grind
theorem Fl {n d : Int} (hd : 0 < d) : br n / br d * br d = br n := Rat.div_mul_cancel (by have := qJ hd; grind)
theorem N7 {a b l : Int} {n d : Int} (hd : 0 < d) (h : iH (2 * a - l) (2 * b - l) true n d) : br l ≤ 2 * (br a + br n / br d * (br b - br a)) := by
 have h1 : 0 ≤ (2 * a - l) * (d - n) + (2 * b - l) * n := by rcases h with h | ⟨_, h⟩ <;> omega
 refine ZK (qJ hd) (Fl hd) ?_;have := rM.2 h1;simpa [br, tl, Rat.intCast_mul, Rat.intCast_sub] using this
theorem N8 {a b l : Int} {n d : Int} (hd : 0 < d) (h : iH (l - 2 * a) (l - 2 * b) false n d) : 2 * (br a + br n / br d * (br b - br a)) < br l := by
 have h1 : 0 < (l - 2 * a) * (d - n) + (l - 2 * b) * n := by
  rcases h with h | ⟨h, _⟩
  ·exact h
  ·cases h
 refine ZL (qJ hd) (Fl hd) ?_;have := J1.2 h1;simpa [br, tl, Rat.intCast_mul, Rat.intCast_sub] using this
theorem PI {r : Nat} (al : r ≤ 28) {p q x : aq} (h : qw (2 ^ r * p.1) (2 ^ r * p.2) (2 ^ r * q.1) (2 ^ r * q.2) r x = true) : e4 r x.1 x.2 = true ∧ ∃ u, qX (2 ^ r) p q u x := by
 unfold qw at h;rw [H8 al] at h;refine ⟨h.1, ?_⟩;obtain ⟨_, n, d, hd, ⟨Af, wb⟩, g1, g2, g3, g4⟩ := AY.1 h.2;have d0 := qJ hd;refine ⟨br n / br d, ⟨?_, ?_⟩, ⟨?_, ?_⟩, ?_, ?_⟩
 ·refine Rat.not_lt.1 fun bh => ?_;have k := Rat.mul_pos d0 (show 0 < -(br n / br d) by grind);have e := Fl (n := n) hd;have nc := rM.2 Af;have z : br 0 = 0 := by simp [br]
  rw [z] at nc;generalize br n / br d = u at *;grind
 ·refine Rat.not_lt.1 fun bh => ?_;have k := Rat.mul_pos d0 (show 0 < br n / br d - 1 by grind);have e := Fl (n := n) hd;have fT := rM.2 wb;generalize br n / br d = u at *;grind
 ·have := N7 hd g1;simpa [br, tl, Rat.intCast_mul, Rat.intCast_sub] using this
 ·have := N8 hd g3;simpa [br, tl, Rat.intCast_mul, Rat.intCast_sub] using this
 ·have := N7 hd g2;simpa [br, tl, Rat.intCast_mul, Rat.intCast_sub] using this
 ·have := N8 hd g4;simpa [br, tl, Rat.intCast_mul, Rat.intCast_sub] using this
def p8 (p q : aq) (out : List aq) (x : aq) : List aq := if x ≠ p ∧ x ≠ q ∧ out.getLast? ≠ some x then out ++ [x] else out
def MA (p q : aq) (l : List aq) : List aq := l.foldl (p8 p q) []
theorem OM {fx fy : Bool} {q : aq} : ∀ {l : List aq}, l.Pairwise (fun a b => dN fx fy b a = false) → (mv fx fy q l).Pairwise fun a b => dN fx fy b a = false
 | [], _ => by unfold mv; simp
 | p :: l, h => by
  have ak := jv.1 h;unfold mv
  split
  ·rename_i an;refine jv.2 ⟨fun r al => ?_, h⟩;rcases gS.1 al with rfl | al
   ·exact Lv an
   ·cases aW : dN fx fy r q with
    | false => rfl
    | true => have := ak.1 r al; rw [zb aW an] at this; cases this
  ·rename_i an;refine jv.2 ⟨fun r al => ?_, OM ak.2⟩;rcases gS.1 ((AH fx fy q l).mem_iff.1 al) with rfl | al
   ·simpa using an
   ·exact ak.1 r al
theorem agE (fx fy : Bool) (f : aq → Bool) (l : List aq) : (rS fx fy f l).Pairwise fun a b => dN fx fy b a = false := by
 have key : ∀ (l out : List aq), out.Pairwise (fun a b => dN fx fy b a = false) → (l.foldl (fun out q => if f q then mv fx fy q out else out) out).Pairwise fun a b => dN fx fy b a = false := by
  intro l
  induction l with
  | nil => intro out h; exact h
  | cons q l bW =>
   intro out h;rw [List.foldl_cons];refine bW _ ?_
   split
   ·exact OM h
   ·exact h
 exact key l [] .nil
theorem G4 {fx fy : Bool} {p q : aq} : ∀ (l out : List aq), jd fx fy out → (∀ a ∈ out, ∀ b ∈ l, dN fx fy b a = false) → l.Pairwise (fun a b => dN fx fy b a = false) → jd fx fy (l.foldl (p8 p q) out) ∧ (∀ x ∈ l.foldl (p8 p q) out, x ∈ out ∨ (x ∈ l ∧ x ≠ p ∧ x ≠ q)) ∧ (l.foldl (p8 p q) out).length ≤ out.length + l.length
 | [], out, h, _, _ => ⟨h, fun x aa => .inl aa, eb _⟩
 | x :: l, out, h, hw, ap => by
  have ak := jv.1 ap;rw [List.foldl_cons]
  by_cases aa : x ≠ p ∧ x ≠ q ∧ out.getLast? ≠ some x
  ·have e : p8 p q out x = out ++ [x] := by unfold p8; rw [if_pos aa]
   rw [e]
   have aI : jd fx fy (out ++ [x]) := by
    unfold jd;rw [List.pairwise_append];refine ⟨h, List.pairwise_singleton _ _, fun a aI b ab => ?_⟩;rw [js] at ab;subst ab;have h1 := hw a aI b (k2 ..)
    by_cases ln : a = b
    ·subst ln;rcases List.eq_nil_or_concat out with aJ | ⟨cR, z, aJ⟩
     ·subst aJ; cases aI
     ·rw [List.concat_eq_append] at aJ;subst aJ;have a6 : z ≠ a := fun aW => aa.2.2 (by rw [aW]; simp)
      have hV : a ∈ cR := by
       rcases kD.1 aI with ar | ar
       ·exact ar
       ·exact absurd (js.1 ar).symm a6
      have h2 := (List.pairwise_append.1 h).2.2 a hV z (js.2 rfl);have ao := hw z (by simp) a (k2 ..);rw [h2] at ao; cases ao
    ·exact (Gy ln).resolve_right (by rw [h1]; decide)
   obtain ⟨g1, g2, g3⟩ := G4 l (out ++ [x]) aI (fun a hV b ab => by
    rcases kD.1 hV with ar | ar
    ·exact hw a ar b (oA _ ab)
    ·rw [js.1 ar]; exact ak.1 b ab) ak.2
   refine ⟨g1, fun y ag => ?_, by rw [cX, List.length_singleton] at g3; simp only [lB]; omega⟩;rcases g2 y ag with ar | ar
   ·rcases kD.1 ar with ar | ar
    ·exact .inl ar
    ·rw [js.1 ar]; exact .inr ⟨k2 .., aa.1, aa.2.1⟩
   ·exact .inr ⟨oA _ ar.1, ar.2⟩
  ·have e : p8 p q out x = out := by unfold p8; rw [if_neg aa]
   rw [e];obtain ⟨g1, g2, g3⟩ := G4 l out h (fun a hV b ab => hw a hV b (oA _ ab)) ak.2;refine ⟨g1, fun y ag => ?_, by simp only [lB]; omega⟩;rcases g2 y ag with ar | ar
   ·exact .inl ar
   ·exact .inr ⟨oA _ ar.1, ar.2⟩
def sn (r : Nat) (l : List aq) (p q : aq) : List aq := MA p q (rS (decide ((2 : Int) ^ r * q.1 < 2 ^ r * p.1)) (decide ((2 : Int) ^ r * q.2 < 2 ^ r * p.2)) (qw (2 ^ r * p.1) (2 ^ r * p.2) (2 ^ r * q.1) (2 ^ r * q.2) r) l)
theorem CK {r : Nat} (al : r ≤ 28) (l : List aq) (p q : aq) : jd (decide ((2 : Int) ^ r * q.1 < 2 ^ r * p.1)) (decide ((2 : Int) ^ r * q.2 < 2 ^ r * p.2)) (sn r l p q) ∧ (∀ x ∈ sn r l p q, (x ≠ p ∧ x ≠ q) ∧ e4 r x.1 x.2 = true ∧ ∃ u, qX (2 ^ r) p q u x) ∧ (sn r l p q).length ≤ l.length := by
 obtain ⟨g1, g2, g3⟩ := G4 (p := p) (q := q) _ [] (List.Pairwise.nil : jd (decide ((2 : Int) ^ r * q.1 < 2 ^ r * p.1)) (decide ((2 : Int) ^ r * q.2 < 2 ^ r * p.2)) []) (fun a aI => by cases aI) (agE _ _ (qw (2 ^ r * p.1) (2 ^ r * p.2) (2 ^ r * q.1) (2 ^ r * q.2) r) l);refine ⟨g1, fun x aa => ?_, ?_⟩
 ·rcases g2 x aa with h | ⟨h1, h2⟩
  ·cases h
  ·have ao := (tg.1 ((FJ _ _ _ l).mem_iff.1 h1)).2;exact ⟨h2, PI al ao⟩
 ·refine lC g3 ?_;rw [List.length_nil, ju];exact agD _ _ _ l
def iv (R : aq → aq → Prop) : List aq → Prop
 | p :: q :: W => R p q ∧ iv R (q :: W)
 | _ => True
theorem GY {R : aq → aq → Prop} : ∀ {l : List aq}, l.Pairwise R → iv R l
 | [], _ => trivial
 | [_], _ => trivial
 | p :: q :: W, h => by
  have ak := jv.1 h;exact ⟨ak.1 q (k2 ..), GY ak.2⟩
theorem GX {R : aq → aq → Prop} {q : aq} {W : List aq} : ∀ {A : List aq}, iv R (A ++ [q]) → iv R (q :: W) → iv R (A ++ q :: W)
 | [], _, h => h
 | [a], h, ar => ⟨h.1, ar⟩
 | a :: b :: A, h, ar => ⟨h.1, GX (A := b :: A) h.2 ar⟩
theorem CL {r : Nat} (al : r ≤ 28) (l : List aq) (p q : aq) {R : aq → aq → Prop} (aJ : R p q) (h1 : ∀ x, (∃ u, qX (2 ^ r) p q u x) → R p x ∧ R x q) (h2 : ∀ x y u w, qX (2 ^ r) p q u x → qX (2 ^ r) p q w y → u ≤ w → R x y) : iv R (p :: (sn r l p q ++ [q])) := by
 obtain ⟨s1, s2, _⟩ := CK al l p q;have hS : (0 : Int) < 2 ^ r := jM (by decide);refine GY (jv.2 ⟨fun x aa => ?_, List.pairwise_append.2 ⟨s1.imp_of_mem fun {x y} aa ag lv => ?_, List.pairwise_singleton _ _, fun x aa y ag => ?_⟩⟩)
 ·rcases kD.1 aa with aa | aa
  ·exact (h1 x (s2 x aa).2.2).1
  ·rw [js.1 aa]; exact aJ
 ·obtain ⟨u, hu⟩ := (s2 x aa).2.2;obtain ⟨w, hw⟩ := (s2 y ag).2.2;exact h2 x y u w hu hw (PK hS hu hw lv)
 ·rw [js.1 ag]; exact (h1 x (s2 x aa).2.2).2
theorem Vj {r : Nat} (al : r ≤ 28) (l : List aq) (p q : aq) (h : p ≠ q) : iv (· ≠ ·) (p :: (sn r l p q ++ [q])) := by
 obtain ⟨s1, s2, _⟩ := CK al l p q;refine GY (jv.2 ⟨fun x aa => ?_, List.pairwise_append.2 ⟨s1.imp fun {x y} lv e => ?_, List.pairwise_singleton _ _, fun x aa y ag => ?_⟩⟩)
 ·rcases kD.1 aa with aa | aa
  ·exact fun e => (s2 x aa).1.1 e.symm
  ·rw [js.1 aa]; exact h
 ·subst e; rw [Lw] at lv; cases lv
 ·rw [js.1 ag]; exact (s2 x aa).1.2
def FK (V : List aq) (j : Nat) (l : List aq) : List aq := V.take (j + 1) ++ l ++ V.drop (j + 1)
def BE (D : List Int) (j : Nat) (n : Nat) : List Int := D.take j ++ List.replicate (n + 1) (D.getD j 0 + 1) ++ D.drop (j + 1)
theorem WS {V : List aq} {j : Nat} {p q : aq} (hp : V[j]? = some p) (an : V[j + 1]? = some q) : V.drop j = p :: q :: V.drop (j + 2) := by
 obtain ⟨h1, aG⟩ := bP.1 hp;obtain ⟨h2, aM⟩ := bP.1 an;rw [nL h1, aG, nL h2, aM]
end Go.Proofs.YtpochbhajmbfdaaGreat
namespace Go.Proofs.YtpochbhajmbfdaaGreat
open Go.RowKit
def pv (a b c d : Int) : Int := if ed a b c d = true then 0 else if a < c ∨ (a = c ∧ b < d) then -1 else 1
theorem aeB {a b c d : Int} : aY aj 242 [bi a b, bi c d] (aR (pv a b c d)) := by
 have cs : (ed a b c d = true ∧ pv a b c d = 0) ∨ (ed a b c d = false ∧ a < c ∧ pv a b c d = -1) ∨ (ed a b c d = false ∧ ¬ a < c ∧ a = c ∧ b < d ∧ pv a b c d = -1) ∨ (ed a b c d = false ∧ ¬ a < c ∧ a = c ∧ ¬ b < d ∧ pv a b c d = 1) ∨ (ed a b c d = false ∧ ¬ a < c ∧ ¬ a = c ∧ pv a b c d = 1) := by
  unfold pv;cases h : ed a b c d with
  | true => simp
  | false =>
   by_cases h1 : a < c <;> by_cases h2 : a = c <;> by_cases ao : b < d <;> simp [h1, h2, ao] <;> omega
 rcases cs with ⟨h1, h⟩ | ⟨h1, h2, h⟩ | ⟨h1, h2, ao, aH, h⟩ | ⟨h1, h2, ao, aH, h⟩ | ⟨h1, h2, ao, h⟩ <;> rw [h] <;> clear h
 all_goals
  refine cq (f := 242) Tryz.func242 rfl rfl rfl rfl ?_;(repeat first | (with_reducible apply az); exact rfl | (with_reducible apply xm); (iterate 4 exact rfl) | (with_reducible apply dO (c := true)); exact rfl; exact rfl; (exact bF (by omega)) | (with_reducible apply dO (c := false)); exact rfl; exact rfl; (exact b5 (by omega)) | (with_reducible first | apply bQ | apply bI | apply bO | apply aA | apply cf | apply e3 | apply fV | apply gW | apply nw | apply mM) | (with_reducible apply ib); exact rfl | (with_reducible apply gO); exact rfl; (first | assumption | exact bF (by omega)) | (with_reducible apply ia); exact rfl; (first | assumption | exact b5 (by omega)))
  ((refine bY rfl (bD rfl bf) ?_))
  exact ai.bo.refl _
theorem Q5 {n m : Int} (aJ : -9223372036854775808 ≤ n) (h1 : n < 9223372036854775808) (hK : -9223372036854775808 ≤ m) (bC : m < 9223372036854775808) : aY aj 222 [aR n, aR m] (rV (n * m)) :=
 nI [.int .i64 n, .int .i64 m] (fM (n * m)) rfl rfl rfl rfl rfl fun W => (Ud n m W aJ h1 hK bC).mono fun e w' h => af1 h
theorem Xi (a b c d a' bR c' d' : Int) (W : World) : (Op.equalIn 10000 216 (.agg #[.int .i64 a, .int .i64 b, .int .i64 c, .int .i64 d]) (.agg #[.int .i64 a', .int .i64 bR, .int .i64 c', .int .i64 d'])).run aj W = .ok (vN a b c d a' bR c' d') W := by
 unfold vN ed
 go_simp
 by_cases h1 : a = a' <;> by_cases h2 : b = bR <;> by_cases ao : c = c' <;> by_cases aH : d = d' <;> simp [h1, h2, ao, aH]
instance ajm : KQ aj 216 := ⟨by kernel_rfl, Xi⟩
theorem aeI {a b c d : Int} : (pv a b c d > 0 ↔ ¬ dy a b c d) := by
 unfold pv dy;cases h : ed a b c d with
 | true => rw [sx] at h; rw [if_pos rfl]; omega
 | false =>
  have : ¬ (a = c ∧ b = d) := fun k => by rw [sx.2 k] at h; cases h
  rw [if_neg (by simp)]
  split <;> omega
theorem JJ {a1 a2 b1 b2 : Int} : aY aj 217 [bi a1 a2, bi b1 b2] (.dd [.agg [.c (.int .i64 (eS a1 a2 b1 b2)), .c (.int .i64 (eA a1 a2 b1 b2))], .agg [.c (.int .i64 (eC a1 a2 b1 b2)), .c (.int .i64 (ef a1 a2 b1 b2))]]) := by
 have aP := aeB (a := a1) (b := a2) (c := b1) (d := b2);have h := aeI (a := a1) (b := a2) (c := b1) (d := b2)
 have cs : (pv a1 a2 b1 b2 > 0 ∧ eS a1 a2 b1 b2 = b1 ∧ eA a1 a2 b1 b2 = b2 ∧ eC a1 a2 b1 b2 = a1 ∧ ef a1 a2 b1 b2 = a2) ∨ (¬ pv a1 a2 b1 b2 > 0 ∧ eS a1 a2 b1 b2 = a1 ∧ eA a1 a2 b1 b2 = a2 ∧ eC a1 a2 b1 b2 = b1 ∧ ef a1 a2 b1 b2 = b2) := by
  rw [h];unfold eS eA eC ef
  by_cases k : dy a1 a2 b1 b2 <;> simp [k]
 clear h;generalize eS a1 a2 b1 b2 = l1 at *;generalize eA a1 a2 b1 b2 = l2 at *;generalize eC a1 a2 b1 b2 = h1 at *;generalize ef a1 a2 b1 b2 = h2 at *;generalize pv a1 a2 b1 b2 = c at *;rcases cs with ⟨q, rfl, rfl, rfl, rfl⟩ | ⟨q, rfl, rfl, rfl, rfl⟩
 all_goals
  refine cq (f := 217) Tryz.func217 rfl rfl rfl rfl ?_;(repeat first | (with_reducible apply az); exact rfl | refine dP rfl rfl rfl rfl (by (exact aP)) rfl ?_ | (with_reducible apply iJ); kernel_rfl | (with_reducible apply iL); kernel_rfl; kernel_rfl; exact rfl | (with_reducible first | apply bQ | apply bI | apply bO | apply aA | apply cf | apply e3 | apply fV) | (with_reducible apply gO); exact rfl; (exact bF (by omega)) | (with_reducible apply ia); exact rfl; (exact b5 (by omega)))
  ((refine bY rfl (fc rfl rfl rfl (fc rfl rfl rfl bf)) ?_))
  exact ai.bo.refl _
theorem E6 {a1 a2 b1 b2 : Int} : aY aj 172 [bi a1 a2, bi b1 b2] (jw (eS a1 a2 b1 b2) (eA a1 a2 b1 b2) (eC a1 a2 b1 b2) (ef a1 a2 b1 b2)) := by
 have aP := JJ (a1 := a1) (a2 := a2) (b1 := b1) (b2 := b2);generalize eS a1 a2 b1 b2 = l1 at *;generalize eA a1 a2 b1 b2 = l2 at *;generalize eC a1 a2 b1 b2 = h1 at *;generalize ef a1 a2 b1 b2 = h2 at *;refine cq (f := 172) Tryz.func172 rfl rfl rfl rfl ?_;(repeat first | (with_reducible apply az); exact rfl | refine dP rfl rfl rfl rfl (by (exact aP)) rfl ?_ | (with_reducible first | apply bQ | apply bI | apply bO | apply aA | apply cf))
 ((refine bY rfl (fc rfl rfl rfl bf) ?_))
 exact ai.bo.refl _
theorem E5 {s1 s2 bU bX p1 p2 : Int} (h1 : ev s1 s2 = true) (h2 : ev bU bX = true) (ao : ev p1 p2 = true) : aY aj 173 [jw s1 s2 bU bX, bi p1 p2] (aR (ct s1 s2 bU bX p1 p2)) := by
 have aP := QN h1 h2 ao;clear h1 h2 ao;generalize ct s1 s2 bU bX p1 p2 = c at *;refine cq (f := 173) Tryz.func173 rfl rfl rfl rfl ?_;(repeat first | (with_reducible apply az); exact rfl | refine kt rfl rfl rfl rfl rfl (by (exact aP)) rfl ?_ | (with_reducible first | apply bQ | apply bI | apply bO | apply aA | apply cf))
 ((refine bY rfl (bD rfl bf) ?_))
 exact ai.bo.refl _
theorem adr {s1 s2 bU bX p1 p2 : Int} (h1 : ev s1 s2 = true) (h2 : ev bU bX = true) (ao : ev p1 p2 = true) : E2 p1 p2 s1 s2 bU bX = decide (dx p1 p2 s1 s2 bU bX) := by
 rw [mC, cL];unfold E2 dx sX;rw [h1, h2, ao];simp only [qH, eh, cL, Yt]
 constructor
 ·rintro ⟨⟨a, b, c, d⟩, e⟩; exact ⟨e, a, b, c, d⟩
 ·rintro ⟨e, a, b, c, d⟩; exact ⟨⟨a, b, c, d⟩, e⟩
theorem QV {s1 s2 bU bX p1 p2 : Int} (h1 : ev s1 s2 = true) (h2 : ev bU bX = true) (ao : ev p1 p2 = true) : aY aj 219 [jw s1 s2 bU bX, bi p1 p2] (bG (decide (dx p1 p2 s1 s2 bU bX))) := by
 have aP := adW (adr h1 h2 ao);clear h1 h2 ao;generalize decide (dx p1 p2 s1 s2 bU bX) = c at *;refine cq (f := 219) Tryz.func219 rfl rfl rfl rfl ?_;(repeat first | (with_reducible apply az); exact rfl | refine kt rfl rfl rfl rfl rfl (by (exact aP)) rfl ?_ | (with_reducible first | apply bQ | apply bI | apply bO | apply aA | apply cf))
 ((refine bY rfl (bD rfl bf) ?_))
 exact ai.bo.refl _
theorem Q2 {m n : Int} {r : Bool} (al : decide (same m n) = r) : aY aj 175 [aR m, aR n] (bG r) := by
 have cs : (m > 0 ∧ n > 0 ∧ r = true) ∨ (m > 0 ∧ ¬ n > 0 ∧ ¬ m < 0 ∧ r = false) ∨ (¬ m > 0 ∧ m < 0 ∧ n < 0 ∧ r = true) ∨ (¬ m > 0 ∧ m < 0 ∧ ¬ n < 0 ∧ r = false) ∨ (¬ m > 0 ∧ ¬ m < 0 ∧ r = false) := by
  rw [← al];unfold same
  by_cases h1 : m > 0 <;> by_cases h2 : n > 0 <;> by_cases ao : m < 0 <;> by_cases aH : n < 0 <;> simp [h1, h2, ao, aH] <;> omega
 clear al;rcases cs with ⟨q1, q2, rfl⟩ | ⟨q1, q2, cr, rfl⟩ | ⟨q1, q2, cr, rfl⟩ | ⟨q1, q2, cr, rfl⟩ | ⟨q1, q2, rfl⟩
 all_goals
  refine cq (f := 175) Tryz.func175 rfl rfl rfl rfl ?_;(repeat first | (with_reducible apply az); exact rfl | (with_reducible apply dO (c := true)); exact rfl; exact rfl; (exact bF (by omega)) | (with_reducible apply dO (c := false)); exact rfl; exact rfl; (exact b5 (by omega)) | (with_reducible first | apply bQ | apply bI | apply bO | apply aA | apply cf))
  ((refine bY rfl (bD rfl bf) ?_))
  first | exact ai.bo.refl _ | exact ai.bo.of_eq (by rw [bF q2]; rfl) | exact ai.bo.of_eq (by rw [bF cr]; rfl) | exact ai.bo.of_eq (by rw [b5 cr]; rfl)
theorem CM {x A : Int} (h1 : -134217728 ≤ x) (h2 : x ≤ 134217728) (ao : -144115188075855872 ≤ A) (aH : A ≤ 144115188075855872) : -19342813113834066795298816 ≤ x * A ∧ x * A ≤ 19342813113834066795298816 := by
 have := Jv h1 h2 ao aH;omega
theorem Q6 {l h A B n d : Int} (ca : A ≠ B) (rs : -134217728 ≤ l) (l1 : l ≤ 134217728) (aJ : -134217728 ≤ h) (h1 : h ≤ 134217728) (b0 : -144115188075855872 ≤ A) (jU : A ≤ 144115188075855872) (bq : -144115188075855872 ≤ B) (kl : B ≤ 144115188075855872) (aD : jJ (h * A - l * B) (A - B) = n) (hd : iR (A - B) = d) : aY aj 176 [aR l, aR h, aR A, aR B] (fv n d) := by
 have b1 := CM aJ h1 b0 jU;have b2 := CM rs l1 bq kl;have qZ := Q5 (n := h) (m := A) (by omega) (by omega) (by omega) (by omega);have sd := Q5 (n := l) (m := B) (by omega) (by omega) (by omega) (by omega);have f1 : fits (h * A) = true := by unfold fits; rw [cL]; omega
 have f2 : fits (l * B) = true := by unfold fits; rw [cL]; omega
 have f3 : fits (h * A - l * B) = true := by unfold fits; rw [cL]; omega
 have f4 : fits (A - B) = true := by unfold fits; rw [cL]; omega
 have Lb := aeD f1 f2;have Lc := aeC (n := A - B) (by omega) (by omega);simp only [wf, f3, if_true] at Lb
 have Ld : aY aj 223 [rV (h * A - l * B), rV (A - B)] (.dd [Dq n d, .one (.c (.bool true))]) := by
  by_cases q : A - B < 0
  ·unfold jJ at aD;unfold iR at hd;rw [if_pos q] at aD hd;have g1 : fits (-(h * A - l * B)) = true := by unfold fits; rw [cL]; omega
   have g2 : fits (-(A - B)) = true := by unfold fits; rw [cL]; omega
   exact adO f3 f4 q (s := true) (by rw [g1, g2]; rfl) (by rw [if_pos rfl, aD]) (by rw [if_pos rfl, hd])
  ·unfold jJ at aD;unfold iR at hd;rw [if_neg q] at aD hd;have := adP f3 f4 (by omega);rw [aD, hd] at this;rw [aD, hd];exact this
 obtain ⟨D, kR⟩ : ∃ D, A - B = D := ⟨_, rfl⟩;have aT : IntKind.i64.wrap (A - B) = D := by rw [← kR]; exact cZ (by omega)
 rw [kR] at Lc Ld;clear f1 f2 f3 f4 b1 b2 aD hd kR b0 jU bq kl ca;generalize h * A - l * B = X at *;generalize h * A = Y at *;generalize l * B = Z at *;refine cq (f := 176) Tryz.func176 rfl rfl rfl rfl ?_;(repeat first | (with_reducible apply az); exact rfl | (with_reducible apply nx); (iterate 3 exact rfl); (assumption); exact rfl | refine e2 rfl rfl rfl (by (exact Lc)) rfl ?_ | refine dP rfl rfl rfl rfl (by (first | exact qZ | exact sd | exact Lb | exact Ld)) rfl ?_ | (with_reducible apply iJ); kernel_rfl | (with_reducible apply iL); kernel_rfl; kernel_rfl; exact rfl | (with_reducible first | apply bQ | apply bI | apply bO | apply aA | apply cf))
 ((refine bY rfl (fc rfl rfl rfl bf) ?_))
 exact ai.bo.refl _
instance ajn : KR aj 163 0 0 false 1 := ⟨by kernel_rfl⟩
abbrev ahf (k n d m e p1 p2 q1 q2 : Int) : ai := .w (.agg [.c (.int .i64 k), .c (.int .i64 (kV n)), .c (.int .u64 (k0 n)), .c (.int .i64 (kV d)), .c (.int .u64 (k0 d)), .c (.int .i64 (kV m)), .c (.int .u64 (k0 m)), .c (.int .i64 (kV e)), .c (.int .u64 (k0 e)), .c (.int .i64 p1), .c (.int .i64 p2), .c (.int .i64 q1), .c (.int .i64 q2)])
abbrev oI (M : fU) : ai := ahf M.k M.n M.d M.m M.e M.p1 M.p2 M.q1 M.q2
theorem aaC {s1 s2 bU bX t1 t2 t3 t4 f1 f2 g1 g2 c0 dm l8 rW : Int} {p q : Bool} {M : fU}
  (KY : aY aj 217 [bi s1 s2, bi t1 t2] (.dd [.agg [.c (.int .i64 c0), .c (.int .i64 dm)], .agg [.c (.int .i64 f1), .c (.int .i64 f2)]]))
  (KZ : aY aj 217 [bi bU bX, bi t3 t4] (.dd [.agg [.c (.int .i64 g1), .c (.int .i64 g2)], .agg [.c (.int .i64 l8), .c (.int .i64 rW)]]))
  (H1 : aY aj 219 [jw s1 s2 bU bX, bi f1 f2] (bG p)) (bZ : aY aj 219 [jw t1 t2 t3 t4, bi f1 f2] (bG q))
  (jW : aY aj 220 [aR f1] (fv f1 1)) (kn : aY aj 220 [aR f2] (fv f2 1))
  (jE : (if (p && q) = true then wu f1 f2 g1 g2 else ig) = M) : aY aj 174 [jw s1 s2 bU bX, jw t1 t2 t3 t4] (oI M) := by
 unfold wu at jE;have hp : (f1 = g1 ∧ f2 = g2) ↔ ed f1 f2 g1 g2 = true := sx.symm
 have cs : (p = false ∧ M = ig) ∨ (p = true ∧ q = false ∧ M = ig) ∨ (p = true ∧ q = true ∧ ed f1 f2 g1 g2 = true ∧ M = jr f1 1 f2 1) ∨ (p = true ∧ q = true ∧ ed f1 f2 g1 g2 = false ∧ M = tJ f1 f2 g1 g2) := by
  rw [← jE];cases an : ed f1 f2 g1 g2 <;> rw [an] at hp <;> cases p <;> cases q <;> simp [hp]
 clear jE hp;refine cq (f := 174) Tryz.func174 rfl rfl rfl rfl ?_;(repeat first | (with_reducible apply az); exact rfl | refine dP rfl rfl rfl rfl (by (first | exact KY | exact KZ)) rfl ?_ | (with_reducible first | apply bQ | apply bI | apply bO | apply aA));clear KY KZ;rcases cs with ⟨rfl, rfl⟩ | ⟨rfl, rfl, rfl⟩ | ⟨rfl, rfl, h, rfl⟩ | ⟨rfl, rfl, h, rfl⟩
 all_goals
  (repeat first | (with_reducible apply az); exact rfl | (with_reducible apply xm); (iterate 4 exact rfl) | refine e2 rfl rfl rfl (by (first | exact jW | exact kn)) rfl ?_ | refine dP rfl rfl rfl rfl (by (first | exact H1 | exact bZ)) rfl ?_ | (with_reducible apply iJ); kernel_rfl | (with_reducible apply iL); kernel_rfl; kernel_rfl; exact rfl | (with_reducible first | apply bQ | apply bI | apply bO | apply aA | apply cf | apply e3 | apply fV) | (with_reducible apply iK); exact rfl | (with_reducible apply ib); exact rfl | (with_reducible apply gO); exact rfl; (assumption) | (with_reducible apply ia); exact rfl; (assumption))
  ((refine bY rfl (fc rfl rfl rfl bf) ?_))
  first | exact ai.bo.refl _ | exact ai.bo.of_eq (by simp only [ig, z7, AU]; rfl) | exact ai.bo.of_eq (by simp only [tJ, z7, AU]; rfl)
theorem J0 {a1 a2 b1 b2 : Int} (h : cG a1 a2 = true) (k : cG b1 b2 = true) : cG (eC a1 a2 b1 b2) (ef a1 a2 b1 b2) = true := by
 rcases nF a1 a2 b1 b2 with ⟨_, _, ao, aH, _⟩ | ⟨_, _, ao, aH, _⟩ <;> rw [ao, aH] <;> assumption
theorem Rw {a1 a2 b1 b2 : Int} (h : cG a1 a2 = true) (k : cG b1 b2 = true) : cG (eS a1 a2 b1 b2) (eA a1 a2 b1 b2) = true := by
 rcases nF a1 a2 b1 b2 with ⟨ao, aH, _⟩ | ⟨ao, aH, _⟩ <;> rw [ao, aH] <;> assumption
theorem aer {s1 s2 bU bX t1 t2 t3 t4 : Int} (h1 : cG s1 s2 = true) (h2 : cG bU bX = true) (ao : cG t1 t2 = true) (aH : cG t3 t4 = true) : aY aj 174 [jw s1 s2 bU bX, jw t1 t2 t3 t4] (oI (inl s1 s2 bU bX t1 t2 t3 t4)) := by
 have aw := J0 h1 ao;have ab := tm.1 aw;refine aaC JJ JJ (QV (lE h1) (lE h2) (lE aw)) (QV (lE ao) (lE aH) (lE aw)) (QP (by omega) (by omega)) (QP (by omega) (by omega)) ?_;unfold inl;exact yb (by rw [eh, cL, cL])
theorem aea {a1 a2 b1 b2 c1 c2 d1 d2 : Int} (h : (cG a1 a2 && cG b1 b2 && cG c1 c2 && cG d1 d2) = false) : aY aj 119 [bi a1 a2, bi b1 b2, bi c1 c2, bi d1 d2] (oI ig) := by
 have bl := pt (x := a1) (y := a2) rfl;have eZ := pt (x := b1) (y := b2) rfl;have ko := pt (x := c1) (y := c2) rfl;have vl := pt (x := d1) (y := d2) rfl
 have cs : cG a1 a2 = false ∨ (cG a1 a2 = true ∧ cG b1 b2 = false) ∨ (cG a1 a2 = true ∧ cG b1 b2 = true ∧ cG c1 c2 = false) ∨ (cG a1 a2 = true ∧ cG b1 b2 = true ∧ cG c1 c2 = true ∧ cG d1 d2 = false) := by
  generalize cG a1 a2 = cN at *;generalize cG b1 b2 = cJ at *;generalize cG c1 c2 = gH at *;generalize cG d1 d2 = pA at *;cases cN <;> cases cJ <;> cases gH <;> cases pA <;> simp_all
 clear h;rcases cs with h1 | ⟨h1, h2⟩ | ⟨h1, h2, ao⟩ | ⟨h1, h2, ao, aH⟩ <;> simp only [*] at bl eZ ko vl
 all_goals
  refine cq (f := 119) Tryz.func119 rfl rfl rfl rfl ?_;(repeat first | (with_reducible apply az); exact rfl | refine e2 rfl rfl rfl (by (first | exact bl | exact eZ | exact ko | exact vl)) rfl ?_ | (with_reducible first | apply bQ | apply bI | apply bO | apply aA | apply cf | apply fV) | (with_reducible apply iK); exact rfl)
  ((refine bY rfl (fc rfl rfl rfl bf) ?_))
  exact ai.bo.of_eq (by simp only [ig, z7, AU]; rfl)
theorem V6 {a1 a2 b1 b2 c1 c2 d1 d2 s1 s2 bU bX t1 t2 t3 t4 A B C D n d m e : Int} {x y : Bool} {I M : fU}
  (bl : aY aj 171 [bi a1 a2] (bG true)) (eZ : aY aj 171 [bi b1 b2] (bG true)) (ko : aY aj 171 [bi c1 c2] (bG true)) (vl : aY aj 171 [bi d1 d2] (bG true))
  (kl : aY aj 172 [bi a1 a2, bi b1 b2] (jw s1 s2 bU bX)) (oL : aY aj 172 [bi c1 c2, bi d1 d2] (jw t1 t2 t3 t4))
  (dH : aY aj 173 [jw s1 s2 bU bX, bi t1 t2] (aR A)) (dZ : aY aj 173 [jw s1 s2 bU bX, bi t3 t4] (aR B))
  (pU : aY aj 173 [jw t1 t2 t3 t4, bi s1 s2] (aR C)) (vr : aY aj 173 [jw t1 t2 t3 t4, bi bU bX] (aR D))
  (vj : aY aj 175 [aR A, aR B] (bG x)) (xb : aY aj 175 [aR C, aR D] (bG y))
  (L : aY aj 174 [jw s1 s2 bU bX, jw t1 t2 t3 t4] (oI I))
  (sf : A ≠ B → aY aj 176 [aR t1, aR t3, aR A, aR B] (fv n d)) (vx : A ≠ B → aY aj 176 [aR t2, aR t4, aR A, aR B] (fv m e))
  (jE : (if A = B then I else if (x || y) = true then ig else jr n d m e) = M) : aY aj 119 [bi a1 a2, bi b1 b2, bi c1 c2, bi d1 d2] (oI M) := by
 have cs : (A = B ∧ M = I) ∨ (¬ A = B ∧ x = true ∧ M = ig) ∨ (¬ A = B ∧ x = false ∧ y = true ∧ M = ig) ∨ (¬ A = B ∧ x = false ∧ y = false ∧ M = jr n d m e) := by
  rw [← jE]
  by_cases h : A = B
  ·simp [h]
  ·cases x <;> cases y <;> simp [h]
 clear jE;refine cq (f := 119) Tryz.func119 rfl rfl rfl rfl ?_;(repeat first | (with_reducible apply az); exact rfl | refine e2 rfl rfl rfl (by (first | exact bl | exact eZ | exact ko | exact vl)) rfl ?_ | refine dP rfl rfl rfl rfl (by (first | exact kl | exact oL | exact dH | exact dZ)) rfl ?_ | (with_reducible apply iJ); kernel_rfl | (with_reducible apply iL); kernel_rfl; kernel_rfl; exact rfl | (with_reducible first | apply bQ | apply bI | apply bO | apply aA | apply e3 | apply gW) | (with_reducible apply ib); exact rfl);clear bl eZ ko vl kl oL dH dZ;rcases cs with ⟨h, rfl⟩ | ⟨h, rfl, rfl⟩ | ⟨h, rfl, rfl, rfl⟩ | ⟨h, rfl, rfl, rfl⟩
 ·clear sf vx;(repeat first | (with_reducible apply az); exact rfl | refine dP rfl rfl rfl rfl (by (exact L)) rfl ?_ | (with_reducible first | apply bQ | apply bI | apply bO | apply aA | apply cf | apply fV | apply mM) | (with_reducible apply gO); exact rfl; (exact bF (by omega)))
  ((refine bY rfl (fc rfl rfl rfl bf) ?_))
  exact ai.bo.refl _
 ·clear sf vx;(repeat first | (with_reducible apply az); exact rfl | refine dP rfl rfl rfl rfl (by (exact vj)) rfl ?_ | (with_reducible first | apply bQ | apply bI | apply bO | apply aA | apply cf | apply e3 | apply fV | apply mM) | (with_reducible apply iK); exact rfl | (with_reducible apply ia); exact rfl; (exact b5 (by omega)))
  ((refine bY rfl (fc rfl rfl rfl bf) ?_))
  exact ai.bo.of_eq (by simp only [ig, z7, AU]; rfl)
 ·clear sf vx;(repeat first | (with_reducible apply az); exact rfl | refine dP rfl rfl rfl rfl (by (first | exact pU | exact vr | exact vj | exact xb)) rfl ?_ | (with_reducible apply iJ); kernel_rfl | (with_reducible apply iL); kernel_rfl; kernel_rfl; exact rfl | (with_reducible first | apply bQ | apply bI | apply bO | apply aA | apply cf | apply fV | apply mM) | (with_reducible apply iK); exact rfl | (with_reducible apply ib); exact rfl | (with_reducible apply ia); exact rfl; (exact b5 (by omega)))
  ((refine bY rfl (fc rfl rfl rfl bf) ?_))
  exact ai.bo.of_eq (by simp only [ig, z7, AU]; rfl)
 ·have Uh := sf h;have Ui := vx h;clear sf vx;(repeat first | (with_reducible apply az); exact rfl | refine dP rfl rfl rfl rfl (by (first | exact pU | exact vr | exact vj | exact xb)) rfl ?_ | refine n2 rfl rfl rfl rfl rfl rfl (by (first | exact Uh | exact Ui)) rfl ?_ | (with_reducible apply iJ); kernel_rfl | (with_reducible apply iL); kernel_rfl; kernel_rfl; exact rfl | (with_reducible first | apply bQ | apply bI | apply bO | apply aA | apply cf | apply e3 | apply nw) | (with_reducible apply ib); exact rfl | (with_reducible apply ia); exact rfl; (exact b5 (by omega)))
  ((refine bY rfl (fc rfl rfl rfl bf) ?_))
  exact ai.bo.refl _
theorem EM {x y : Int} (h1 : -268435456 ≤ x) (h2 : x ≤ 268435456) (ao : -268435456 ≤ y) (aH : y ≤ 268435456) : -72057594037927936 ≤ x * y ∧ x * y ≤ 72057594037927936 := by
 have := Jv h1 h2 ao aH;omega
theorem Mk {o1 o2 a1 a2 b1 b2 : Int} (h1 : cG o1 o2 = true) (h2 : cG a1 a2 = true) (ao : cG b1 b2 = true) : -144115188075855872 ≤ ct o1 o2 a1 a2 b1 b2 ∧ ct o1 o2 a1 a2 b1 b2 ≤ 144115188075855872 := by
 rw [tm] at h1 h2 ao;have m1 := EM (x := a1 - o1) (y := b2 - o2) (by omega) (by omega) (by omega) (by omega);have m2 := EM (x := a2 - o2) (y := b1 - o1) (by omega) (by omega) (by omega) (by omega);unfold ct;omega
def rz (a1 a2 b1 b2 c1 c2 d1 d2 : Int) : fU := if (cG a1 a2 && cG b1 b2 && cG c1 c2 && cG d1 d2) = true then hL a1 a2 b1 b2 c1 c2 d1 d2 else ig
theorem aeb {a1 a2 b1 b2 c1 c2 d1 d2 : Int} (aI : cG a1 a2 = true) (ab : cG b1 b2 = true) (ak : cG c1 c2 = true) (hd : cG d1 d2 = true) : aY aj 119 [bi a1 a2, bi b1 b2, bi c1 c2, bi d1 d2] (oI (hL a1 a2 b1 b2 c1 c2 d1 d2)) := by
 have bl := pt aI;have eZ := pt ab;have ko := pt ak;have vl := pt hd;have kl := E6 (a1 := a1) (a2 := a2) (b1 := b1) (b2 := b2);have oL := E6 (a1 := c1) (a2 := c2) (b1 := d1) (b2 := d2);have q1 := Rw aI ab;have q2 := J0 aI ab;have cr := Rw ak hd;have eE := J0 ak hd;have l1 := yd a1 a2 b1 b2;have l2 := yd c1 c2 d1 d2;rw [← acj];generalize eS a1 a2 b1 b2 = s1 at *;generalize eA a1 a2 b1 b2 = s2 at *;generalize eC a1 a2 b1 b2 = bU at *;generalize ef a1 a2 b1 b2 = bX at *;generalize eS c1 c2 d1 d2 = t1 at *;generalize eA c1 c2 d1 d2 = t2 at *;generalize eC c1 c2 d1 d2 = t3 at *;generalize ef c1 c2 d1 d2 = t4 at *;have bC := Mk q1 q2 cr;have cd := Mk q1 q2 eE;have i3 := tm.1 cr;have i4 := tm.1 eE
 refine V6 bl eZ ko vl kl oL (E5 (lE q1) (lE q2) (lE cr)) (E5 (lE q1) (lE q2) (lE eE)) (E5 (lE cr) (lE eE) (lE q1)) (E5 (lE cr) (lE eE) (lE q2)) (Q2 rfl) (Q2 rfl) (aer q1 q2 cr eE)
  (fun ca => Q6 ca i3.1.1 i3.1.2 i4.1.1 i4.1.2 bC.1 bC.2 cd.1 cd.2 rfl rfl) (fun ca => Q6 ca i3.2.1 i3.2.2 i4.2.1 i4.2.2 bC.1 bC.2 cd.1 cd.2 rfl rfl) ?_
 rw [← aci l1 l2];unfold Ji
 by_cases h : ct s1 s2 bU bX t1 t2 = ct s1 s2 bU bX t3 t4
 ·rw [if_pos h, if_pos h]
 ·rw [if_neg h, if_neg h];exact yb (by rw [rK, cL, cL])
theorem JI {a1 a2 b1 b2 c1 c2 d1 d2 : Int} : aY aj 119 [bi a1 a2, bi b1 b2, bi c1 c2, bi d1 d2] (oI (rz a1 a2 b1 b2 c1 c2 d1 d2)) := by
 unfold rz
 by_cases h : (cG a1 a2 && cG b1 b2 && cG c1 c2 && cG d1 d2) = true
 ·rw [if_pos h];simp only [eh] at h;exact aeb h.1.1.1 h.1.1.2 h.1.2 h.2
 ·rw [if_neg h];exact aea (by simpa using h)
def He (M : fU) (a1 a2 b1 b2 c1 c2 d1 d2 : Int) : Bool :=
 if M.k = 1 then ed a1 a2 c1 c2 || ed a1 a2 d1 d2 || ed b1 b2 c1 c2 || ed b1 b2 d1 d2
 else if M.k = 2 then vN (eS a1 a2 b1 b2) (eA a1 a2 b1 b2) (eC a1 a2 b1 b2) (ef a1 a2 b1 b2) (eS c1 c2 d1 d2) (eA c1 c2 d1 d2) (eC c1 c2 d1 d2) (ef c1 c2 d1 d2)
 else true
theorem Vz {a1 a2 b1 b2 c1 c2 d1 d2 s1 s2 bU bX t1 t2 t3 t4 : Int} {M : fU} {r : Bool} (aP : aY aj 119 [bi a1 a2, bi b1 b2, bi c1 c2, bi d1 d2] (oI M))
  (kl : aY aj 172 [bi a1 a2, bi b1 b2] (jw s1 s2 bU bX)) (oL : aY aj 172 [bi c1 c2, bi d1 d2] (jw t1 t2 t3 t4))
  (al : (if M.k = 1 then ed a1 a2 c1 c2 || ed a1 a2 d1 d2 || ed b1 b2 c1 c2 || ed b1 b2 d1 d2 else if M.k = 2 then vN s1 s2 bU bX t1 t2 t3 t4 else true) = r) : aY aj 185 [bi a1 a2, bi b1 b2, bi c1 c2, bi d1 d2] (bG r) := by
 obtain ⟨k, n, d, m, e, p1, p2, q1, q2⟩ := M;simp only at al aP
 have cs : (k = 1 ∧ ed a1 a2 c1 c2 = true ∧ r = true) ∨ (k = 1 ∧ ed a1 a2 c1 c2 = false ∧ ed a1 a2 d1 d2 = true ∧ r = true) ∨ (k = 1 ∧ ed a1 a2 c1 c2 = false ∧ ed a1 a2 d1 d2 = false ∧ ed b1 b2 c1 c2 = true ∧ r = true) ∨ (k = 1 ∧ ed a1 a2 c1 c2 = false ∧ ed a1 a2 d1 d2 = false ∧ ed b1 b2 c1 c2 = false ∧ r = ed b1 b2 d1 d2) ∨ (¬ k = 1 ∧ k = 2 ∧ r = vN s1 s2 bU bX t1 t2 t3 t4) ∨ (¬ k = 1 ∧ ¬ k = 2 ∧ r = true) := by
  rw [← al]
  by_cases h1 : k = 1
  ·rw [if_pos h1];cases ed a1 a2 c1 c2 <;> cases ed a1 a2 d1 d2 <;> cases ed b1 b2 c1 c2 <;> simp [h1]
  ·rw [if_neg h1]
   by_cases h2 : k = 2
   ·rw [if_pos h2]; simp [h2]
   ·rw [if_neg h2]; simp [h1, h2]
 clear al;refine cq (f := 185) Tryz.func185 rfl rfl rfl rfl ?_;(repeat first | (with_reducible apply az); exact rfl | (with_reducible apply UQ); (iterate 4 exact rfl) | refine n2 rfl rfl rfl rfl rfl rfl (by (exact aP)) rfl ?_ | (with_reducible first | apply bQ | apply bI | apply bO | apply aA | apply gW));clear aP;rcases cs with ⟨h1, h2, rfl⟩ | ⟨h1, h2, ao, rfl⟩ | ⟨h1, h2, ao, aH, rfl⟩ | ⟨h1, h2, ao, aH, rfl⟩ | ⟨h1, h2, rfl⟩ | ⟨h1, h2, rfl⟩
 all_goals
  (repeat first | (with_reducible apply az); exact rfl | (with_reducible apply xm); (iterate 4 exact rfl) | (with_reducible apply UL); (iterate 4 exact rfl) | refine dP rfl rfl rfl rfl (by (first | exact kl | exact oL)) rfl ?_ | (with_reducible apply dO (c := true)); exact rfl; exact rfl; (assumption) | (with_reducible apply dO (c := false)); exact rfl; exact rfl; (assumption) | (with_reducible apply iJ); kernel_rfl | (with_reducible apply iL); kernel_rfl; kernel_rfl; exact rfl | (with_reducible first | apply bQ | apply bI | apply bO | apply aA | apply cf | apply e3 | apply fV | apply nw | apply mM) | (with_reducible apply gO); exact rfl; (exact bF (by omega)) | (with_reducible apply ia); exact rfl; (exact b5 (by omega)))
  ((refine bY rfl (bD rfl bf) ?_))
  first | exact ai.bo.refl _ | exact ai.bo.of_eq (by rw [h2]; rfl) | exact ai.bo.of_eq (by rw [ao]; rfl) | exact ai.bo.of_eq (by rw [aH]; rfl)
theorem ad9 {a1 a2 b1 b2 c1 c2 d1 d2 : Int} : aY aj 185 [bi a1 a2, bi b1 b2, bi c1 c2, bi d1 d2] (bG (He (rz a1 a2 b1 b2 c1 c2 d1 d2) a1 a2 b1 b2 c1 c2 d1 d2)) :=
 Vz JI E6 E6 rfl
end Go.Proofs.YtpochbhajmbfdaaGreat
