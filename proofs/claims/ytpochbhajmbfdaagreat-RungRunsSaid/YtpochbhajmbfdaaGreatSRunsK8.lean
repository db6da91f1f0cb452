/-
  My own texts, without what this claim does not need. My own text.
-/
import Derived.Test.YtpochbhajmbfdaaGreatProg
import Derived.ProofKit
import Derived.OpenShut
import Derived.Deep.DeepHandedRow
import Derived.Lib.LaidTab
import Derived.Lib.SmallJoins
import Derived.Test.YtpochbhajmbfdaaGreatSRunsK7
set_option maxRecDepth 100000
set_option maxHeartbeats 64000000
set_option linter.unusedVariables false
set_option linter.unusedSimpArgs false
set_option linter.unusedSectionVars false
open Go.Proofs.Tryz renaming prog → aj
namespace Go.Proofs.YtpochbhajmbfdaaGreat
open Go.RowKit
def gR (k : Int) (r : Nat) : Prop := r ≤ 28 ∧ ((k < 0 ∧ r = 0) ∨ (28 < k ∧ r = 28) ∨ (r : Int) = k)
theorem ZH (k : Int) : ∃ r, gR k r := by
 by_cases h : k < 0
 ·exact ⟨0, by omega, .inl ⟨h, rfl⟩⟩
 ·by_cases aF : 28 < k
  ·exact ⟨28, by omega, .inr (.inl ⟨aF, rfl⟩)⟩
  ·exact ⟨k.toNat, by omega, .inr (.inr (by omega))⟩
theorem v7 {a b : Int} {w w' : World} (e : a = b) (h : Below w.heap.size w w') : hj (.int .i64 b) w (.returned (.int .i64 a)) w' := ⟨by rw [e], h⟩
theorem xV {a b : Bool} {w w' : World} (e : a = b) (h : Below w.heap.size w w') : hj (.bool b) w (.returned (.bool a)) w' := ⟨by rw [e], h⟩
theorem Am (k : Int) (r : Nat) (w : World) (h : gR k r) : Calls aj 136 #[.int .i64 k] w (hj (.int .i64 r) w) := by
 have nJ := Lib.hid h;clear h
 go_enter Tryz.func136, Tryz.ntmps136
 go_wp2
 all_goals
  go_ret
  refine v7 ?_ (Below.refl _ _);have h1 := nJ.out;unfold gR at h1;omega
theorem RQ (n : Int) (h : -9223372036854775808 ≤ n ∧ n ≤ 9223372036854775807) : wrap64 n = n := by unfold wrap64; omega
theorem I1 {r : Nat} (h : r ≤ 28) : (1 : Int) ≤ 2 ^ r ∧ (2 : Int) ^ r ≤ 268435456 := by
 have h1 := Nat.pow_le_pow_right (show 0 < 2 by decide) h;have h2 := Nat.pow_pos (show 0 < 2 by decide) (n := r);have e : ((2 : Int) ^ r) = ((2 ^ r : Nat) : Int) := by simp
 rw [show (2 : Nat) ^ 28 = 268435456 by decide] at h1;rw [e];omega
def cJ (v : Int) (r : Nat) : Int := (2 * v + 2 ^ r) / (2 * 2 ^ r)
theorem Xd (v : Int) : cJ v 0 = v := by unfold cJ; omega
theorem Xc (v : Int) (r : Nat) : cJ v (r + 1) = v / 2 ^ (r + 1) + v / 2 ^ r % 2 := by
 unfold cJ;have hp : (0 : Int) < 2 ^ r := kb (by decide);rw [Int.pow_succ];generalize (2 : Int) ^ r = P at *
 have aG : (2 * v + P * 2) / (2 * (P * 2)) = (v + P) / (P * 2) := by
  rw [show 2 * v + P * 2 = 2 * (v + P) by omega, Int.mul_ediv_mul_of_pos _ _ (by decide)]
 rw [aG, ← xS (by omega), ← xS (by omega), show v + P = v + 1 * P by omega, Int.add_mul_ediv_right _ _ (by omega)];omega
theorem Ug (x : Int) : bits BinOp.and IntKind.i64 x 1 = x % 2 := by
 unfold bits
 have h : (BitVec.ofInt 64 x &&& BitVec.ofInt 64 1).toNat = (x % 2).toNat := by
  rw [BitVec.toNat_and, BitVec.toNat_ofInt, BitVec.toNat_ofInt, show ((1 : Int) % ((2 ^ 64 : Nat) : Int)).toNat = 1 by decide, Nat.and_one_is_mod];omega
 show IntKind.i64.wrap ((BitVec.ofInt 64 x &&& BitVec.ofInt 64 1).toNat : Int) = x % 2;rw [h];have h2 : ((x % 2).toNat : Int) = x % 2 := by omega
 rw [h2];rcases (show x % 2 = 0 ∨ x % 2 = 1 by omega) with e | e <;> rw [e] <;> decide
theorem afm {v : Int} (r : Nat) (v0 : -9223372036854775808 ≤ v) (v1 : v < 9223372036854775808) : wrap64 (v / 2 ^ (r + 1) + v / 2 ^ r % 2) = cJ v (r + 1) := by
 rw [Xc];refine RQ _ ?_;have hp : (0 : Int) < 2 ^ r := kb (by decide);rw [Int.pow_succ, ← xS (by omega)]
 have h1 : -9223372036854775808 ≤ v / 2 ^ r := by
  rw [ql hp];have := rp (show (1 : Int) ≤ 2 ^ r by omega) (show (0 : Int) ≤ 9223372036854775808 by omega);omega
 have h2 : v / 2 ^ r ≤ 9223372036854775807 := by
  by_cases h : 0 ≤ v
  ·have := Int.ediv_le_self (2 ^ r) h;omega
  ·have := Int.ediv_neg_of_neg_of_pos (show v < 0 by omega) hp;omega
 generalize v / 2 ^ r = q at *;omega
theorem WR (v k : Int) (w : World) (h : gR k 0) : Calls aj 72 #[.int .i64 v, .int .i64 k] w (hj (.int .i64 v) w) := by
 have nJ := Lib.hid (fun w => Am k 0 w h);clear h
 go_enter Tryz.func72, Tryz.ntmps72
 go_wp2_with (go_at_call 136; ((with_reducible refine (nJ.out _).mono ?_); rintro e aP ⟨rfl, ab⟩))
 go_ret
 exact v7 rfl (by (repeat first | with_reducible assumption))
theorem WQ (v k : Int) (r : Nat) (w : World) (h : gR k (r + 1)) (v0 : -9223372036854775808 ≤ v) (v1 : v < 9223372036854775808) : Calls aj 72 #[.int .i64 v, .int .i64 k] w (hj (.int .i64 (cJ v (r + 1))) w) := by
 have nJ := Lib.hid (fun w => Am k (r + 1) w h);have Bz := Lib.hid (afm r v0 v1);have ap : r < 28 := by unfold gR at h; omega
 clear h v0 v1
 go_enter Tryz.func72, Tryz.ntmps72
 go_wp2_with (go_at_call 136; ((with_reducible refine (nJ.out _).mono ?_); rintro e aP ⟨rfl, ab⟩))
 go_region
 go_wp2
 go_ret
 exact v7 (by rw [Ug]; exact Bz.out) (by (repeat first | with_reducible assumption | with_reducible refine Below.drew ?_))
theorem WO (v k : Int) (r : Nat) (w : World) (h : gR k r) (v0 : -9223372036854775808 ≤ v) (v1 : v < 9223372036854775808) : Calls aj 72 #[.int .i64 v, .int .i64 k] w (hj (.int .i64 (cJ v r)) w) := by
 rcases r with _ | r
 ·rw [Xd]; exact WR v k w h
 ·exact WQ v k r w h v0 v1
theorem af9 {r : Nat} (h : r ≤ 28) : wrap64 (2 ^ r) = 2 ^ r := RQ _ (by have := I1 h; omega)
theorem ae6 (k : Int) (r : Nat) (w : World) (h : gR k r) : Calls aj 78 #[.int .i64 k] w (hj (.int .i64 (2 ^ r)) w) := by
 have nJ := Lib.hid (fun w => Am k r w h);have ap : r ≤ 28 := h.1;clear h
 go_enter Tryz.func78, Tryz.ntmps78
 go_wp2_with (go_at_call 136; ((with_reducible refine (nJ.out _).mono ?_); rintro e aP ⟨rfl, ab⟩))
 go_ret
 exact v7 (af9 ap) (by (repeat first | with_reducible assumption))
def SS (m : Int) (w : World) (e : Ending) (w' : World) : Prop := ∃ b, e = .returned (.func (Fn.func 196) #[] #[.pointer (some ⟨b, 0, none⟩)]) ∧ w'.cell? ⟨b, 0, none⟩ = some (.int .i64 m) ∧ Below w.heap.size w w'
theorem Pb (k : Int) (r : Nat) (w : World) (h : gR k r) : Calls aj 146 #[.int .i64 k] w (SS (134217728 / 2 ^ r) w) := by
 have nJ := Lib.hid (fun w => Am k r w h);have ap : r ≤ 28 := h.1;clear h
 go_enter Tryz.func146, Tryz.ntmps146
 go_wp2_with (go_at_call 136; ((with_reducible refine (nJ.out _).mono ?_); rintro e aP ⟨rfl, ab⟩))
 go_ret
 exact ⟨_, rfl, by go_simp, by (repeat first | with_reducible assumption | with_reducible refine c6 ?_ _)⟩
def wi (m n : Int) : Bool := decide (-m ≤ n) && decide (n ≤ m)
theorem D3 (b : Nat) (m n : Int) (w : World) (ak : w.cell? ⟨b, 0, none⟩ = some (.int .i64 m)) (m0 : 0 ≤ m) (m1 : m ≤ 134217728) : Calls aj 196 #[.int .i64 n, .pointer (some ⟨b, 0, none⟩)] w (hj (.bool (wi m n)) w) := by
 go_enter Tryz.func196, Tryz.ntmps196
 go_wp2
 ·go_ret
  exact xV (by unfold wi; rw [bg (show -m ≤ n by assumption)]; rfl) (Below.refl _ _)
 ·go_ret
  exact xV (by unfold wi; rw [bl (show ¬ (-m ≤ n) by omega)]; rfl) (Below.refl _ _)
def e3 (r : Nat) (x y : Int) : Bool := wi (134217728 / 2 ^ r) x && wi (134217728 / 2 ^ r) y
theorem Gy (r : Nat) : (0 : Int) ≤ 134217728 / 2 ^ r ∧ (134217728 : Int) / 2 ^ r ≤ 134217728 := by
 have hp : (0 : Int) < 2 ^ r := kb (by decide);exact ⟨qj (by decide) (by omega), Int.ediv_le_self _ (by decide)⟩
theorem RO (r : Nat) (n : Int) : wi (134217728 / 2 ^ r) n = decide (-134217728 ≤ 2 ^ r * n ∧ 2 ^ r * n ≤ 134217728) := by
 have hp : (0 : Int) < 2 ^ r := kb (by decide);unfold wi;rw [sR, eo, c0, c0, c0, ka];generalize (2 : Int) ^ r = P at *;have h1 := ql (a := n) (b := 134217728) hp;have h2 := ql (a := -n) (b := 134217728) hp;rw [Int.neg_mul] at h2
 constructor
 ·intro ⟨q1, q2⟩;exact ⟨by have := h2.1 (by omega); omega, h1.1 q2⟩
 ·intro ⟨q1, q2⟩;exact ⟨by have := h2.2 (by omega); omega, h1.2 q2⟩
theorem Du (r : Nat) (x y : Int) : e3 r x y = true ↔ (-134217728 ≤ 2 ^ r * x ∧ 2 ^ r * x ≤ 134217728) ∧ (-134217728 ≤ 2 ^ r * y ∧ 2 ^ r * y ≤ 134217728) := by
 unfold e3;rw [RO, RO, eo, c0, c0]
theorem Sy (x y k : Int) (r : Nat) (w : World) (h : gR k r) : Calls aj 77 #[.agg #[.int .i64 x, .int .i64 y], .int .i64 k] w (hj (.bool (e3 r x y)) w) := by
 have nJ := Lib.hid (fun w => Pb k r w h);obtain ⟨m0, m1⟩ := Gy r;have BA := Lib.hid (show e3 r x y = (wi (134217728 / 2 ^ r) x && wi (134217728 / 2 ^ r) y) from rfl);clear h;generalize (134217728 : Int) / 2 ^ r = M at *;have ye := Lib.hid m0;have yf := Lib.hid m1;clear m0 m1
 go_enter Tryz.func77, Tryz.ntmps77
 go_wp2_with (first
  | (go_at_call 146; ((with_reducible refine (nJ.out _).mono ?_); rintro e aP ⟨b, rfl, ak, ab⟩; have gy : ah aP (w.heap.size) (.int .i64 x) (.int .i64 y) := (by (repeat first | focus ((with_reducible refine ah.new ?_); simp; done) | with_reducible refine ah.call ?_ ab)); obtain ⟨⟨l6, l7⟩, l9, ma⟩ := id gy))
  | (go_at_call 196; ((with_reducible refine (D3 b M x _ ak ye.out yf.out).mono ?_); rintro e w2 ⟨rfl, b4⟩; have iH := (b4.cell (p := ⟨b, 0, none⟩) (World.block_lt_of_cell? _ _ ak)).trans ak; clear ak; have ju : ah w2 (w.heap.size) (.int .i64 x) (.int .i64 y) := (by (repeat first | with_reducible assumption | with_reducible refine ah.call ?_ b4)); obtain ⟨⟨pE, pJ⟩, pO, pQ⟩ := id ju))
  | (go_at_call 196; ((with_reducible refine (D3 b M y _ iH ye.out yf.out).mono ?_); rintro e w3 ⟨rfl, c8⟩)))
 ·go_ret
  exact xV (by rw [BA.out]; simp_all) (by (repeat first | with_reducible exact Below.refl _ _ | with_reducible refine c6 ?_ _ | with_reducible refine b6 ?_ c8 | with_reducible refine b6 ?_ b4 | with_reducible refine b6 ?_ ab))
 ·go_ret
  exact xV (by rw [BA.out]; simp_all) (by (repeat first | with_reducible exact Below.refl _ _ | with_reducible refine c6 ?_ _ | with_reducible refine b6 ?_ b4 | with_reducible refine b6 ?_ ab))
theorem WN (k : Int) (w : World) : Calls aj 88 #[.int .i64 k] w (hj (.bool (decide (0 ≤ k) && decide (k ≤ 28))) w) := by
 go_enter Tryz.func88, Tryz.ntmps88
 go_wp2
 ·go_ret
  exact xV (by rw [bg (show 0 ≤ k by assumption)]; rfl) (Below.refl _ _)
 ·go_ret
  exact xV (by rw [bl (show ¬ (0 ≤ k) by omega)]; rfl) (Below.refl _ _)
theorem Fo (n m : Int) (w : World) : Calls aj 285 #[.int .i64 n, .int .i64 m] w (hj (.int .i64 (gb n m)) w) := by
 go_enter Tryz.func285, Tryz.ntmps285
 go_wp2
 all_goals
  go_ret
  refine v7 ?_ (Below.refl _ _);unfold gb
  repeat' split
  all_goals omega
def mm (x y x' y' : Int) : Int := if x = x' then gb y y' else gb x x'
theorem WM (x y x' y' : Int) (w : World) : Calls aj 261 #[.agg #[.int .i64 x, .int .i64 y], .agg #[.int .i64 x', .int .i64 y']] w (hj (.int .i64 (mm x y x' y')) w) := by
 have aM := Lib.hid (fun w => Fo x x' w);have bI := Lib.hid (fun w => Fo y y' w);have oy : Hid (x = x' → gb y y' = mm x y x' y') := fun h => by unfold mm; rw [if_pos h]
 have lz : Hid (¬ (x = x') → gb x x' = mm x y x' y') := fun h => by unfold mm; rw [if_neg h]
 go_enter Tryz.func261, Tryz.ntmps261
 go_wp2_with (first
  | (go_at_call 285; ((with_reducible refine (aM.out _).mono ?_); rintro e aP ⟨rfl, ab⟩))
  | (go_at_call 285; ((with_reducible refine (bI.out _).mono ?_); rintro e aP ⟨rfl, ab⟩)))
 ·go_ret
  exact v7 (lz.out (by simpa using ‹(x != x') = true›)) (by (repeat first | with_reducible exact Below.refl _ _ | with_reducible refine c6 ?_ _ | with_reducible refine b6 ?_ ab))
 ·go_ret
  exact v7 (oy.out (by simpa using ‹(x != x') = false›)) (by (repeat first | with_reducible exact Below.refl _ _ | with_reducible refine c6 ?_ _ | with_reducible refine b6 ?_ ab))
end Go.Proofs.YtpochbhajmbfdaaGreat
namespace Go.Proofs.YtpochbhajmbfdaaGreat
open Go.RowKit
attribute [local go_sem ↓] Go.wp_at_zero Go.wp_at_succ
end Go.Proofs.YtpochbhajmbfdaaGreat
namespace Go.Proofs.YtpochbhajmbfdaaGreat
open Go.RowKit
attribute [local go_sem ↓] Go.wp_at_zero Go.wp_at_succ
def S0 (s : Bool) (z : Int) (w : World) (e : Ending) (w' : World) : Prop := ∃ H L, e = .returned (.tuple #[.agg #[.int .i64 H, .int .u64 L], .bool s]) ∧ bx H L z ∧ Below w.heap.size w w'
def uZ (v : Int) (b : Bool) (w : World) (e : Ending) (w' : World) : Prop := e = .returned (.tuple #[.int .i64 v, .bool b]) ∧ Below w.heap.size w w'
def Ta (w : World) (s : Bool) (z : Int) (u v : Value) (W : World) : Prop := ∃ g sg si, u = .pointer (some ⟨g, 0, none⟩) ∧ v = .bool s ∧ bx sg si z ∧ ah W g (.int .i64 sg) (.int .u64 si) ∧ Below w.heap.size w W
theorem Jq (aL dX aF cG k : Int) (r : Nat) (s : Bool) (z v : Int) (b : Bool) (w : World) (h : gR k r)
  (JT : ∀ w, Calls aj 240 #[.agg #[.int .i64 aL, .int .u64 dX, .int .i64 aF, .int .u64 cG], .int .i64 r] w (S0 s z w))
  (hv : (s = false ∧ v = 0 ∧ b = false) ∨ (s = true ∧ small z = false ∧ v = 0 ∧ b = false) ∨ (s = true ∧ small z = true ∧ wi (134217728 / 2 ^ r) z = false ∧ v = 0 ∧ b = false) ∨ (s = true ∧ small z = true ∧ wi (134217728 / 2 ^ r) z = true ∧ v = z ∧ b = true)) :
  Calls aj 215 #[.agg #[.int .i64 aL, .int .u64 dX, .int .i64 aF, .int .u64 cG], .int .i64 k] w (uZ v b w) := by
 have nK := Lib.hid (fun w => Am k r w h);have Ft := Lib.hid (fun w => Pb k r w h);have Bz := Lib.hid JT;obtain ⟨m0, m1⟩ := Gy r;clear h JT;generalize (134217728 : Int) / 2 ^ r = M at *;have ye := Lib.hid m0;have yf := Lib.hid m1;have rS := Lib.hid hv;clear m0 m1 hv
 go_enter Tryz.func215, Tryz.ntmps215
 go_upto_region 1 with fail
 have fo : dA (w.alloc (.cells #[.int .i64 aL, .int .u64 dX, .int .i64 aF, .int .u64 cG] 161)) w.heap.size (.int .i64 aL) (.int .u64 dX) (.int .i64 aF) (.int .u64 cG) := (by (repeat first | focus ((with_reducible refine dA.new ?_); simp; done)));have F7 : Below w.heap.size w (w.alloc (.cells #[.int .i64 aL, .int .u64 dX, .int .i64 aF, .int .u64 cG] 161)) := (by (repeat first | with_reducible exact Below.refl _ _ | with_reducible refine c6 ?_ _))
 go_cut [6, 7] (fun u v fH => Ta w s z u v fH)
 case first =>
  clear rS Ft
  go_region_held3 (fun w' => w'.cell? ⟨w.heap.size, 0, none⟩ = some (.int .i64 aL) ∧ w'.cell? ⟨w.heap.size, 1, none⟩ = some (.int .u64 dX) ∧ w'.cell? ⟨w.heap.size, 2, none⟩ = some (.int .i64 aF) ∧ w'.cell? ⟨w.heap.size, 3, none⟩ = some (.int .u64 cG))
   (((refine dA.cs ?_); ((repeat first | with_reducible assumption | with_reducible refine dA.alloc ?_ _ | with_reducible refine dA.drew ?_ | focus ((with_reducible refine dA.set ?_ _ ?_); rotate_left; omega) | with_reducible refine dA.call ?_ b4 | with_reducible refine dA.call ?_ bE); done)))
   (first
    | (go_at_call 136; ((with_reducible refine (nK.out _).mono ?_); rintro e aP ⟨rfl, bE⟩; have HV := Below.size bE; (try simp at HV)))
    | (go_at_call 240; ((with_reducible refine (Bz.out _).mono ?_); rintro e w2 ⟨s9, ta, rfl, hu, b4⟩; have zM := Below.size b4; (try simp at zM); (try ((refine lC (p := ah w2 (w.heap.size + 1) (.int .i64 0) (.int .u64 0)) ?_ ?_); (repeat first | focus ((with_reducible refine ah.new ?_); simp; done) | with_reducible refine ah.alloc ?_ _ | with_reducible refine ah.drew ?_ | with_reducible refine ah.call ?_ b4 | with_reducible refine ah.call ?_ bE); intro rL; obtain ⟨⟨UL, Vt⟩, Wu, WZ⟩ := id rL; have aan := ah.lt rL; have abv := iP (ah.lt rL); have aaZ := iQ (ah.lt rL))); (try ((refine lC (p := ah w2 (aP.heap.size) (.int .i64 0) (.int .u64 0)) ?_ ?_); (repeat first | focus ((with_reducible refine ah.new ?_); simp; done) | with_reducible refine ah.alloc ?_ _ | with_reducible refine ah.drew ?_ | with_reducible refine ah.call ?_ b4 | with_reducible refine ah.call ?_ bE); intro rM; obtain ⟨⟨UM, Vu⟩, Wv, W0⟩ := id rM; have aao := ah.lt rM; have abw := iP (ah.lt rM); have aa0 := iQ (ah.lt rM))))))
  all_goals
   go_wp2_with fail
   go_meet
   refine ⟨_, s9, ta, rfl, rfl, hu, ?_, ?_⟩
   ·(repeat first | focus ((with_reducible refine ah.new ?_); simp; done) | with_reducible refine ah.put ?_ | focus ((with_reducible apply fB.of); with_reducible assumption))
   ·(repeat first | with_reducible assumption | with_reducible refine c6 ?_ _ | focus ((with_reducible refine eW ?_ _ _ _ ?_); rotate_left; omega) | with_reducible refine Below.drew ?_ | with_reducible refine b6 ?_ b4 | with_reducible refine b6 ?_ bE)
 case rest =>
  obtain ⟨g, sg, si, rfl, rfl, aw, qS, hK⟩ := hcut;clear fo F7 Bz nK;obtain ⟨⟨RR, dh⟩, dE, kZ⟩ := id qS;rcases rS.out with ⟨rfl, rfl, rfl⟩ | ⟨rfl, q, rfl, rfl⟩ | ⟨rfl, q, cK, rfl, rfl⟩ | ⟨rfl, q, cK, rfl, rfl⟩
  ·clear rS
   go_wp2
   go_ret2
   exact ⟨rfl, by (repeat first | with_reducible assumption)⟩
  ·have ou : Hid (∀ w, Calls aj 241 #[.agg #[.int .i64 sg, .int .u64 si]] w (uZ 0 false w)) := fun w => (FL sg si z w aw).mono fun e w' k => by unfold wG at k; rw [q] at k; exact k
   clear rS q
   go_wp2_with (first
    | (go_at_call 241; ((with_reducible refine (ou.out _).mono ?_); rintro e fA ⟨rfl, fh⟩)))
   go_ret2
   exact ⟨rfl, by (repeat first | with_reducible assumption | with_reducible refine b6 ?_ fh)⟩
  ·have ou : Hid (∀ w, Calls aj 241 #[.agg #[.int .i64 sg, .int .u64 si]] w (uZ z true w)) := fun w => (FL sg si z w aw).mono fun e w' k => by unfold wG at k; rw [q] at k; exact k
   have Fs : Hid (∀ b w, w.cell? ⟨b, 0, none⟩ = some (.int .i64 M) → Calls aj 196 #[.int .i64 z, .pointer (some ⟨b, 0, none⟩)] w (hj (.bool false) w)) := fun b w ak => by have := D3 b M z w ak ye.out yf.out; rw [cK] at this; exact this
   clear rS q cK
   go_wp2_with (first
    | (go_at_call 241; ((with_reducible refine (ou.out _).mono ?_); rintro e fA ⟨rfl, fh⟩))
    | (go_at_call 146; ((with_reducible refine (Ft.out _).mono ?_); rintro e iW ⟨b, rfl, ak, hM⟩))
    | (go_at_call 196; ((with_reducible refine (Fs.out _ _ ak).mono ?_); rintro e af3 ⟨rfl, G8⟩)))
   go_ret2
   exact ⟨rfl, by (repeat first | with_reducible assumption | with_reducible refine b6 ?_ G8 | with_reducible refine b6 ?_ hM | with_reducible refine b6 ?_ fh)⟩
  ·have ou : Hid (∀ w, Calls aj 241 #[.agg #[.int .i64 sg, .int .u64 si]] w (uZ v true w)) := fun w => (FL sg si v w aw).mono fun e w' k => by unfold wG at k; rw [q] at k; exact k
   have Fs : Hid (∀ b w, w.cell? ⟨b, 0, none⟩ = some (.int .i64 M) → Calls aj 196 #[.int .i64 v, .pointer (some ⟨b, 0, none⟩)] w (hj (.bool true) w)) := fun b w ak => by have := D3 b M v w ak ye.out yf.out; rw [cK] at this; exact this
   clear rS q cK
   go_wp2_with (first
    | (go_at_call 241; ((with_reducible refine (ou.out _).mono ?_); rintro e fA ⟨rfl, fh⟩))
    | (go_at_call 146; ((with_reducible refine (Ft.out _).mono ?_); rintro e iW ⟨b, rfl, ak, hM⟩))
    | (go_at_call 196; ((with_reducible refine (Fs.out _ _ ak).mono ?_); rintro e af3 ⟨rfl, G8⟩)))
   go_ret2
   exact ⟨rfl, by (repeat first | with_reducible assumption | with_reducible refine b6 ?_ G8 | with_reducible refine b6 ?_ hM | with_reducible refine b6 ?_ fh)⟩
theorem af5 {r : Nat} {z : Int} (h : wi (134217728 / 2 ^ r) z = true) : small z = true := by
 obtain ⟨m0, m1⟩ := Gy r;unfold wi at h;rw [eo, c0, c0] at h;unfold small;rw [c0];omega
theorem afi (aL dX n aF cG d k : Int) (r : Nat) (w : World) (h : gR k r) (H : bx aL dX n) (ft : bx aF cG d) (hd : ¬ (0 < d)) :
  Calls aj 215 #[.agg #[.int .i64 aL, .int .u64 dX, .int .i64 aF, .int .u64 cG], .int .i64 k] w (uZ 0 false w) :=
 Jq aL dX aF cG k r false 0 0 false w h (fun w => (Tb aL dX n aF cG d r w H ft (.inl hd)).mono fun e w' ⟨he, ab⟩ => ⟨0, 0, he, oX, ab⟩) (.inl ⟨rfl, rfl, rfl⟩)
theorem afj (aL dX n aF cG d k : Int) (r : Nat) (w : World) (h : gR k r) (H : bx aL dX n) (ft : bx aF cG d) (hd : 0 < d) (au : wi (134217728 / 2 ^ r) (lr n d r) = false) :
  Calls aj 215 #[.agg #[.int .i64 aL, .int .u64 dX, .int .i64 aF, .int .u64 cG], .int .i64 k] w (uZ 0 false w) :=
 Jq aL dX aF cG k r true (lr n d r) 0 false w h (fun w => (Kd aL dX n aF cG d r w H ft hd (by have := h.1; omega)).mono fun e w' k => k)
  (by
   cases hs : small (lr n d r)
   ·exact .inr (.inl ⟨rfl, rfl, rfl, rfl⟩)
   ·exact .inr (.inr (.inl ⟨rfl, rfl, au, rfl, rfl⟩)))
theorem afk (aL dX n aF cG d k : Int) (r : Nat) (w : World) (h : gR k r) (H : bx aL dX n) (ft : bx aF cG d) (hd : 0 < d) (au : wi (134217728 / 2 ^ r) (lr n d r) = true) :
  Calls aj 215 #[.agg #[.int .i64 aL, .int .u64 dX, .int .i64 aF, .int .u64 cG], .int .i64 k] w (uZ (lr n d r) true w) :=
 Jq aL dX aF cG k r true (lr n d r) _ true w h (fun w => (Kd aL dX n aF cG d r w H ft hd (by have := h.1; omega)).mono fun e w' k => k)
  (.inr (.inr (.inr ⟨rfl, af5 au, au, rfl, rfl⟩)))
end Go.Proofs.YtpochbhajmbfdaaGreat
namespace Go.Proofs.YtpochbhajmbfdaaGreat
open Go.RowKit
theorem PN {v k : Int} {r : Nat} (h : gR k r) (v0 : -9223372036854775808 ≤ v) (v1 : v < 9223372036854775808) : aT aj 72 [aV v, aV k] (aV (cJ v r)) :=
 nz [.int .i64 v, .int .i64 k] (.int .i64 (cJ v r)) rfl rfl rfl rfl rfl fun W => WO v k r W h v0 v1
theorem PW {k : Int} {r : Nat} (h : gR k r) : aT aj 78 [aV k] (aV (2 ^ r)) :=
 nz [.int .i64 k] (.int .i64 (2 ^ r)) rfl rfl rfl rfl rfl fun W => ae6 k r W h
theorem ade {k : Int} : aT aj 88 [aV k] (bD (decide (0 ≤ k) && decide (k ≤ 28))) :=
 nz [.int .i64 k] (.bool (decide (0 ≤ k) && decide (k ≤ 28))) rfl rfl rfl rfl rfl fun W => WN k W
theorem At {x y k : Int} {r : Nat} {b : Bool} (h : gR k r) (ab : e3 r x y = b) : aT aj 77 [bh x y, aV k] (bD b) := by
 subst ab;exact nz [.agg #[.int .i64 x, .int .i64 y], .int .i64 k] (.bool (e3 r x y)) rfl rfl rfl rfl rfl fun W => Sy x y k r W h
theorem adb {x y x' y' : Int} : aT aj 261 [bh x y, bh x' y'] (aV (mm x y x' y')) :=
 nz [.agg #[.int .i64 x, .int .i64 y], .agg #[.int .i64 x', .int .i64 y']] (.int .i64 (mm x y x' y')) rfl rfl rfl rfl rfl fun W => WM x y x' y' W
theorem PM {x y k : Int} {r : Nat} (h : gR k r) (RR : -9223372036854775808 ≤ x) (dh : x < 9223372036854775808) (ot : -9223372036854775808 ≤ y) (lW : y < 9223372036854775808) : aT aj 32 [bh x y, aV k] (bh (cJ x r) (cJ y r)) := by
 refine cd (f := 32) Tryz.func32 rfl rfl rfl rfl ?_;(repeat first | (with_reducible apply ax); rfl | refine cI rfl rfl rfl rfl (by (first | exact PN h RR dh | exact PN h ot lW)) rfl ?_ | (with_reducible apply hH); kernel_rfl | (with_reducible apply hI); kernel_rfl; kernel_rfl; rfl | (with_reducible first | apply bR | apply bJ | apply bO | apply ay | apply b7))
 ((refine bX rfl (fj rfl rfl rfl bc) ?_))
 exact ai.br.refl _
theorem sO {x y k : Int} {r : Nat} (h : gR k r) (ab : e3 r x y = true) : aT aj 37 [bh x y, aV k] (bh (2 ^ r * x) (2 ^ r * y)) := by
 obtain ⟨⟨q1, q2⟩, cj, eH⟩ := (Du r x y).1 ab;have aM := At h ab;have bI := PW h;clear h ab;generalize (2 : Int) ^ r = P at *;refine cd (f := 37) Tryz.func37 rfl rfl rfl rfl ?_;(repeat first | (with_reducible apply ax); rfl | (with_reducible apply tn); (iterate 3 rfl); (exact cp (by omega)); rfl | refine dj rfl rfl rfl (by (exact bI)) rfl ?_ | refine cI rfl rfl rfl rfl (by (exact aM)) rfl ?_ | (with_reducible first | apply bR | apply bJ | apply bO | apply ay | apply b7 | apply eU) | (with_reducible apply gU); rfl)
 ((refine bX rfl (fj rfl rfl rfl bc) ?_))
 exact ai.br.refl _
theorem acP {x y k : Int} {r : Nat} (h : gR k r) (ab : e3 r x y = true) : aT aj 225 [bh x y, aV k] (.da [.agg [.c (.int .i64 (2 * (2 ^ r * x) - 2 ^ r)), .c (.int .i64 (2 * (2 ^ r * y) - 2 ^ r))], .agg [.c (.int .i64 (2 * (2 ^ r * x) + 2 ^ r)), .c (.int .i64 (2 * (2 ^ r * y) + 2 ^ r))]]) := by
 obtain ⟨⟨q1, q2⟩, cj, eH⟩ := (Du r x y).1 ab;obtain ⟨lR, Ax⟩ := I1 h.1;have aM := At h ab;have bI := PW h;have et := sO h ab;clear h ab;generalize (2 : Int) ^ r = P at *;generalize P * x = X at *;generalize P * y = Y at *;refine cd (f := 225) Tryz.func225 rfl rfl rfl rfl ?_;(repeat first | (with_reducible apply ax); rfl | (with_reducible apply dB); (iterate 3 rfl); (exact cp (by omega)); rfl | (with_reducible apply oz); (iterate 3 rfl); (exact cp (by omega)); rfl | (with_reducible apply tn); (iterate 3 rfl); (exact cp (by omega)); rfl | refine dj rfl rfl rfl (by (exact bI)) rfl ?_ | refine cI rfl rfl rfl rfl (by (first | exact aM | exact et)) rfl ?_ | (with_reducible apply hH); kernel_rfl | (with_reducible apply hI); kernel_rfl; kernel_rfl; rfl | (with_reducible first | apply bR | apply bJ | apply bO | apply ay | apply b7 | apply eU) | (with_reducible apply gU); rfl)
 ((refine bX rfl (fj rfl rfl rfl (fj rfl rfl rfl bc)) ?_))
 exact ai.br.refl _
def s8 (n d : Int) (r : Nat) : Bool := decide (0 < d) && wi (134217728 / 2 ^ r) (lr n d r)
def EU (n d : Int) (r : Nat) : Int := if s8 n d r then lr n d r else 0
theorem PX {n d k : Int} {r : Nat} (h : gR k r) (f : fits n = true) (g : fits d = true) : aT aj 215 [fv n d, aV k] (.da [.one (.c (.int .i64 (EU n d r))), .one (.c (.bool (s8 n d r)))]) := by
 refine nz [fx n d, .int .i64 k] (.tuple #[.int .i64 (EU n d r), .bool (s8 n d r)]) rfl rfl rfl rfl rfl fun W => ?_;unfold EU s8
 by_cases hd : 0 < d
 ·rw [bg hd, rq];cases hw : wi (134217728 / 2 ^ r) (lr n d r) with
  | true => exact afk _ _ n _ _ d k r W h (oY f) (oY g) hd hw
  | false => exact afj _ _ n _ _ d k r W h (oY f) (oY g) hd hw
 ·rw [bl hd, Bool.false_and];exact afi _ _ n _ _ d k r W h (oY f) (oY g) hd
theorem acs {n d n' d' k : Int} {r : Nat} {b : Bool} (h : gR k r) (f : fits n = true) (g : fits d = true) (la : fits n' = true) (jx : fits d' = true) (ab : (s8 n d r && s8 n' d' r) = b) :
  aT aj 170 [fv n d, fv n' d', aV k] (.da [.agg [.c (.int .i64 (if b then lr n d r else 0)), .c (.int .i64 (if b then lr n' d' r else 0))], .one (.c (.bool b))]) := by
 have aM := PX h f g;have bI := PX h la jx;clear h f g la jx;unfold EU at aM bI;cases q1 : s8 n d r <;> cases q2 : s8 n' d' r <;> rw [q1] at aM <;> rw [q2] at bI <;> rw [q1, q2] at ab <;> subst ab <;> clear q1 q2
 all_goals
  generalize lr n d r = X at *;generalize lr n' d' r = Y at *;refine cd (f := 170) Tryz.func170 rfl rfl rfl rfl ?_;(repeat first | (with_reducible apply ax); rfl | refine cI rfl rfl rfl rfl (by (first | exact aM | exact bI)) rfl ?_ | (with_reducible first | apply bR | apply bJ | apply bO | apply ay | apply b7 | apply eU | apply fL) | (with_reducible apply ik); rfl | (with_reducible apply gU); rfl)
  ((refine bX rfl (fj rfl rfl rfl (bG rfl bc)) ?_))
  exact ai.br.refl _
end Go.Proofs.YtpochbhajmbfdaaGreat
namespace Go.Proofs.YtpochbhajmbfdaaGreat
abbrev dw := Int × Int × Int
def ml (x y z w : Int) : Bool := decide (x < z) || (decide (x = z) && decide (y < w))
theorem pa {x y z w : Int} : ml x y z w = true ↔ x < z ∨ (x = z ∧ y < w) := by
 unfold ml; simp
def uF (l : List dw) (x y : Int) : List dw := l.filter fun e => ml e.1 e.2.1 x y
def Ep (l : List dw) (x y : Int) : List dw := l.filter fun e => ml x y e.1 e.2.1
def sQ (l : List dw) (x y v : Int) : List dw := uF l x y ++ (x, y, v) :: Ep l x y
def tQ (l : List dw) (x y : Int) : Int := match l.findIdx? fun e => decide (e.1 = x) && decide (e.2.1 = y) with
 | some k => k
 | none => -1
def kn (l : List dw) : Prop := l.Pairwise fun a b => ml a.1 a.2.1 b.1 b.2.1 = true
theorem acp {a b c d e f : Int} (h1 : ml a b c d = true) (h2 : ml c d e f = true) : ml a b e f = true := by
 rw [pa] at *; omega
theorem adN {l : List dw} (h : kn l) (x y v : Int) : kn (sQ l x y v) := by
 unfold sQ uF Ep kn;rw [List.pairwise_append, js];refine ⟨h.filter _, ⟨fun e he => ?_, h.filter _⟩, fun a aL b ab => ?_⟩
 ·exact (List.mem_filter.1 he).2
 ·have h1 := (List.mem_filter.1 aL).2;rcases hf.1 ab with rfl | ab
  ·exact h1
  ·exact acp h1 (List.mem_filter.1 ab).2
def hL (l : List dw) (x y : Int) : Bool := l.any fun e => decide (e.1 = x) && decide (e.2.1 = y)
theorem Ml (l : List dw) (x y : Int) : decide (0 ≤ tQ l x y) = hL l x y := by unfold tQ hL; grind
theorem W6 {l : List dw} {x y : Int} (h : 0 ≤ tQ l x y) : ∃ k v, tQ l x y = (k : Nat) ∧ k < l.length ∧ l[k]? = some (x, y, v) := by
 unfold tQ at h ⊢;cases au : l.findIdx? fun e => decide (e.1 = x) && decide (e.2.1 = y) with
 | none => rw [au] at h; simp at h
 | some k =>
  obtain ⟨af, h1, _⟩ := List.findIdx?_eq_some_iff_getElem.1 au;simp only [eo, c0] at h1;refine ⟨k, l[k].2.2, rfl, af, ?_⟩;rw [cl af];congr 1;exact Prod.ext h1.1 (Prod.ext h1.2 rfl)
def oq (l : List dw) (x y : Int) : Int := match l.findIdx? fun e => decide (e.1 = x) && decide (e.2.1 = y) with
 | some k => (l.getD k (0, 0, 0)).2.2
 | none => 0
theorem af1 {l : List dw} {x y v : Int} {k : Nat} (h : tQ l x y = k) (ao : l[k]? = some (x, y, v)) : oq l x y = v := by (try (unfold tQ oq at *)); grind
theorem afZ {l : List dw} {x y : Int} (h : hL l x y = false) : oq l x y = 0 := by
 have h2 := Ml l x y;rw [h] at h2;unfold tQ at h2;unfold oq;cases au : l.findIdx? fun e => decide (e.1 = x) && decide (e.2.1 = y) with
 | none => rfl
 | some j => rw [au] at h2; simp at h2
theorem adL (l : List dw) (x y : Int) : (uF l x y).length ≤ l.length := List.length_filter_le _ _
theorem RA {l : List dw} (h : kn l) {x y v : Int} (hm : (x, y, v) ∈ l) : hL l x y = true ∧ oq l x y = v := by
 have a6 : hL l x y = true := List.any_eq_true.2 ⟨_, hm, by simp⟩;have aw := Ml l x y;rw [a6] at aw;obtain ⟨k, u, h1, h2, aq⟩ := W6 (of_decide_eq_true aw);refine ⟨a6, ?_⟩;rw [af1 h1 aq];obtain ⟨j, ae⟩ := kw hm;have C9 := (bV.1 ae).1;have gV : l[k] = (x, y, u) := (bV.1 aq).2;have lE : l[j] = (x, y, v) := (bV.1 ae).2;unfold kn at h;rw [List.pairwise_iff_getElem] at h;rcases Nat.lt_trichotomy k j with q | q | q
 ·have := h k j h2 C9 q;rw [gV, lE, pa] at this;simp at this
 ·subst q;rw [gV] at lE;cases lE; rfl
 ·have := h j k C9 h2 q;rw [gV, lE, pa] at this;simp at this
end Go.Proofs.YtpochbhajmbfdaaGreat
namespace Go.Proofs.YtpochbhajmbfdaaGreat
open Go.RowKit
def ej : List dw → List AC
 | [] => []
 | e :: l => .c (.int .i64 e.1) :: .c (.int .i64 e.2.1) :: .c (.int .i64 e.2.2) :: ej l
theorem Gr : ∀ (l : List dw) (i : Nat) (e : dw), l[i]? = some e → ((ej l).drop (i * 3)).take 3 = [.c (.int .i64 e.1), .c (.int .i64 e.2.1), .c (.int .i64 e.2.2)]
 | [], i, p, h => by simp at h
 | q :: l, 0, p, h => by simp at h; subst h; simp [ej]
 | q :: l, i + 1, p, h => by
  have e : (i + 1) * 3 = i * 3 + 1 + 1 + 1 := by omega
  rw [e];simp only [ej, List.drop_succ_cons];exact Gr l i p (by simpa using h)
theorem LR {l : List dw} {j : Int} {i : Nat} {x y v : Int} (ae : j = i) (h : l[i]? = some (x, y, v)) : ((ej l).drop (j.toNat * 3)).take 3 = [.c (.int .i64 x), .c (.int .i64 y), .c (.int .i64 v)] := by
 subst ae;exact Gr l i (x, y, v) h
theorem yS : ∀ (l : List dw), (ej l).length = l.length * 3
 | [] => rfl
 | p :: l => by simp only [ej, mq, yS l]; omega
theorem yR : ∀ (l m : List dw), ej (l ++ m) = ej l ++ ej m
 | [], _ => rfl
 | p :: l, m => by simp only [List.cons_append, ej, yR l m]
theorem LN : ∀ (l : List dw), (ej l).all AC.ba = true
 | [] => rfl
 | p :: l => by simp only [ej, kA, LN l]; rfl
abbrev DR (x y : Int) : List AC := [.c (.int .i64 x), .c (.int .i64 y)]
abbrev wo (k : Nat) : ai := .w (.one (.own k 0))
def s3 (n : Int) : Int := if n < 1 then 1 else if 1024 < n then 1024 else n
def lm (l : List an) (x y : Int) : Int := match l.findIdx? fun e => decide (e.1 = x) && decide (e.2 = y) with
 | some k => k
 | none => -1
def yl (P : Program) (f : FuncId) (args : List ai) (r : bQ) (post : ai → bQ → Prop) : Prop :=
 ∀ i, dt P f args cg (bL i r) fun v aH aB => ∃ a8, aH = cg ∧ aB = bL i a8 ∧ post v a8
theorem Qs {args : List ai} (aL : args.all ai.ba = true) : args.map (ai.bd fun j => j) = args := by
 rw [cC] at aL
 conv => rhs; rw [← List.map_id args]
 exact qf fun x aa => vX (aL x aa)
theorem ad3 {P : Program} {f : FuncId} {args : List ai} {r : bQ} {post : ai → bQ → Prop} (aL : args.all ai.ba = true) (hp : ∀ v a8, post v a8 → v.ba = true)
  (h : dt P f args cg (bL 0 r) fun v aH aB => ∃ a8, aH = cg ∧ aB = bL 0 a8 ∧ post v a8) : yl P f args r post := by
 intro i;have h1 := h.bd (bP := fun j => j) (cu := swp 0 i) (iX := swp 0 i) (fun _ => rfl) (nD _ _) (nD _ _);rw [Qs aL, show Mem.bd (fun j => j) cg = cg from rfl, AG] at h1;refine ⟨fun U ad W vs cS ew dT => (h1.call U ad W vs cS ew dT).mono ?_⟩;rintro e bq ⟨v, c3, aH, aB, bf, cM, c9, ⟨ec, m2, eT, ⟨a8, rfl, rfl, al⟩, rfl, rfl, rfl⟩, q⟩;rw [show Mem.bd (fun j => j) cg = cg from rfl, AG, vX (hp _ _ al)] at q;exact ⟨v, ec, cg, bL i a8, bf, cM, c9, ⟨a8, rfl, rfl, al⟩, q⟩
theorem MO {P : Program} {fn : Func} {l : List ResultVar} {xs : List bK} {R : aJ} {s : aC} {r a8 : bQ} {post : ai → bQ → Prop} (ap : fn.results = l.toArray) (h : l.map (iS P s) = xs.map some) (hi : R 0 = some a8) (aa : (packed xs).ba = true)
  (hp : post (packed xs) a8) : tW P fn cg (bL 0 r) (fun v aH aB => ∃ a8, aH = cg ∧ aB = bL 0 a8 ∧ post v a8) R s := by
 refine ⟨xs, packed xs, cg, bL 0 a8, by rw [ap]; exact h, .refl _, ⟨a8, rfl, rfl, hp⟩, fun k c h => (by cases h), fun i q h => ?_, fun j ae => absurd ae (ai.dH aa j), fun k c x j h => (by cases h), fun k c h => (by cases h), fun i q h => ?_⟩
 ·obtain ⟨rfl, rfl⟩ := fV h; exact hi
 ·obtain ⟨rfl, rfl⟩ := fV h; exact ⟨a8, by unfold bL; exact cy _ _ _⟩
section
variable {P : Program} {R : aJ} {s : aC} {ops : Array Oper} {dr : Option (List Nat)} {ty : Nat} {pos : String} {after : Array Edge} {guard : Option (Nat × Bool)} {K : aJ → aC → Prop} {rest : List Oper}
theorem uC (s : aC) : s.over cg = s := by
 show ({ s with mem := b5 (fun _ => none) s.mem } : aC) = s;rw [PB]
theorem Ni (i : Nat) {dst : Option Nat} {f : FuncId} {g : Operand} {ts : Array TypeId} {l : List Operand} {args : List ai} {r : bQ} {post : ai → bQ → Prop} [E : Enters P f] (hw : want ops ⟨dst, .call ⟨.value g, l.toArray, ts⟩, ty, pos, after, guard⟩ s = some true) (hm : dW dr ⟨dst, .call ⟨.value g, l.toArray, ts⟩, ty, pos, after, guard⟩ = true)
  (aw : s.look g = some (aR (.func (.func f) #[] #[]))) (aL : l.map s.look = args.map some) (hp : yl P f args r post) (hi : R i = some r) (eC : args.all ai.ba = true) (hd : k8 dst s.n = true)
  (h : ∀ v a8, post v a8 → cT P ops dr K rest (bS R i a8) (s.put dst v)) : cT P ops dr K (⟨dst, .call ⟨.value g, l.toArray, ts⟩, ty, pos, after, guard⟩ :: rest) R s := by
 refine vC hw hm aw aL (hp i) (fun x aa j ae => absurd ae (ai.dH (cC.1 eC x aa) j)) (fun k' ar aF => by cases aF) (fun fN a8 aF => ?_) (fun k' ar x j aF aa ae => by cases aF) hd ?_
 ·obtain ⟨rfl, rfl⟩ := fV aF; exact hi
 ·rintro v aH aB ⟨a8, rfl, rfl, al⟩;refine ⟨fun k' c aF => (by cases aF), ?_⟩;rw [show b5 (bL i a8) R = bS R i a8 from vT R i a8, uC];exact h v a8 al
theorem lL {x : Operand} {t f im off : Nat} {r : bQ} (i : Nat) [S : mx P t f im] {d : Nat} (hi : R i = some r) (hw : want ops ⟨some d, .fieldAddr t x f, ty, pos, after, guard⟩ s = some true) (aa : s.look x = some (aR (jJ r.v off))) (aE : 0 < r.n) (ap : uL ops dr (some d) = true) (hd : Nat.blt d s.n = true) (h : cT P ops dr K rest R (s.put (some d) (aR (jJ r.v (off + im))))) : cT P ops dr K (⟨some d, .fieldAddr t x f, ty, pos, after, guard⟩ :: rest) R s :=
 zG hw (.nU i r off t f im x hi aE rfl aa S.h) rfl ap hd h
end
structure Ka (W bq : World) (r a8 : bQ) (U : Nat → Prop) : Prop where
 grown : W.grownBy bq r.v.ownBlock
 row : ∃ xs, bq.ownsRow 0 a8.e a8.sz a8.v a8.n xs ∧ bZ U id W a8.aU xs
 pH : ∀ y ∈ a8.aU, y.ba = true
 agr : ∀ g, a8.v.ownBlock = some g → r.v.ownBlock = some g ∨ W.heap.size ≤ g
theorem bZ.Jx {U : Nat → Prop} {ad bf : Nat → Nat} {W : World} {xs : List AC} {vs : List Value} (ak : ∀ y ∈ xs, y.ba = true) (h : bZ U ad W xs vs) : bZ U bf W xs vs := h.wS ak fun b ab _ => ⟨ab, rfl⟩
theorem ko.Jx {U : Nat → Prop} {ad : Nat → Nat} {W : World} {args : List ai} {vs : List Value} (ak : args.all ai.ba = true) (h : ko U ad W args vs) : ko U id W args vs :=
 ⟨h.1, fun i x v aa hv => Rel.Nz (ai.dH (cC.1 ak x (dJ aa))) (h.2 i x v aa hv)⟩
theorem aai {U : Nat → Prop} {W bq : World} {row : Option Nat} (aw : W.grownBy bq row) (ap : ∀ g, row = some g → ¬ U g) : ∀ b, U b → b < W.heap.size → (U b ∧ b < W.heap.size) ∧ bq.heap[b]? = W.heap[b]? := fun b ab ao =>
 ⟨⟨ab, ao⟩, aw.block b ao fun e => ap b e.symm ab⟩
theorem ad4 {P : Program} {f : FuncId} {args : List ai} {r : bQ} {post : ai → bQ → Prop} (eC : args.all ai.ba = true) (b0 : 0 < r.sz) (xp : ∀ b9 a8, post b9 a8 → 0 < a8.sz)
  (h : ∀ (U : Nat → Prop) (W : World) (vs : List Value) (xs : List Value), W.ownsRow 0 r.e r.sz r.v r.n xs → bZ U id W r.aU xs → (∀ y ∈ r.aU, y.ba = true) → (∀ g, r.v.ownBlock = some g → ¬ U g) → ko U id W args vs →
   Calls P f vs.toArray W fun e bq => ∃ v b9 a8, e = .returned v ∧ post b9 a8 ∧ Ka W bq r a8 U ∧ di U id W b9 v ∧ b9.ba = true) : yl P f args r post := by
 intro i;refine ⟨fun U ad W vs cS ew dT => ?_⟩;obtain ⟨oO, cW, YC⟩ := cS.rows i r (by unfold bL; exact cy _ _ _);obtain ⟨xs, az, ao⟩ := oO.row b0;have vy := fun g aw => YC g (.inl aw);refine (h U W vs xs az (ao.Jx cW) cW (fun g aw => (vy g aw).1) (dT.Jx eC)).mono ?_;rintro e bq ⟨v, b9, a8, rfl, hp, ⟨jd, ⟨aU, gY, h4⟩, sk, oL⟩, p9, n2⟩;have N8 := aai jd fun g aw => (vy g aw).1
 have gr : ∀ b, eu ad cg (bL i r) b ↔ r.v.ownBlock = some b := fun b => by
  constructor
  ·rintro (⟨k, cs, af, _⟩ | ⟨j, q, ae, aw⟩)
   ·cases af
   ·obtain ⟨rfl, rfl⟩ := fV ae; exact bQ.o9 aw b0
  ·intro aw; exact .inr ⟨i, r, by unfold bL; exact cy _ _ _, .inl aw⟩
 refine ⟨v, b9, cg, bL i a8, ad, fun b => U b ∧ b < W.heap.size, rfl, ⟨a8, rfl, rfl, hp⟩, ⟨fun k cs af => (by cases af), fun k cs x j af => (by cases af), fun k k' cs ar af => (by cases af), fun j q ae => ?_, fun j k q cK ae af ld => ?_⟩, ?_, fun j ae => absurd ae (ai.dH n2 j), fun k cs af => (by cases af), fun j q ae => ?_, fun b ab => .inl ab.1, ?_, ⟨jd.os, jd.tape, jd.output, jd.size, fun b ab => jd.block b ab.1 fun e => ab.2 ((gr b).2 e.symm)⟩⟩
 ·obtain ⟨rfl, rfl⟩ := fV ae;refine ⟨.inl ⟨xp _ _ hp, aU, gY, h4.wS sk N8⟩, sk, fun g aw => ⟨fun hu => ?_, fun k cs af => (by cases af)⟩⟩;rcases oL g (bQ.o9 aw (xp _ _ hp)) with q | q
  ·exact (vy g q).1 hu.1
  ·omega
 ·obtain ⟨rfl, _⟩ := fV ae;obtain ⟨rfl, _⟩ := fV af;exact absurd rfl ld
 ·exact p9.map N8 fun j ae => absurd ae (ai.dH n2 j)
 ·obtain ⟨rfl, rfl⟩ := fV ae;exact ⟨a8, by unfold bL; exact cy _ _ _⟩
 ·rintro b (⟨k, cs, af, _⟩ | ⟨j, q, ae, aw⟩)
  ·cases af
  ·obtain ⟨rfl, rfl⟩ := fV ae;rcases oL b (bQ.o9 aw (xp _ _ hp)) with z | z
   ·exact .inl ((gr b).2 z)
   ·exact .inr z
theorem Ji (i : Nat) {P : Program} {R : aJ} {s : aC} {c : Code} {Q : Exit → aJ → aC → Prop} {r : bQ} (hi : R i = some r) (h : ∀ A k, r.v = .slice A r.n k → r.n ≤ k → k ≤ maxLen → (0 < r.n → ∃ g, A = some ⟨g, 0, none⟩) → r.aU.length = r.n * r.sz → fJ P c Q R s) (b0 : 0 < r.sz := by first | decide | exact jG _) : fJ P c Q R s := by
 rintro ok bp bU a w ⟨A, ad, aA⟩;obtain ⟨xs, az, ao⟩ := (aA.rows i r hi).cells b0;have hlen : r.aU.length = r.n * r.sz := ao.1.trans az.1;rcases az.2 with ⟨e, dn⟩ | ⟨g, cap, cur, e, _, _, e1, jV, _⟩
 ·exact h none 0 (by rw [e, dn]) (by omega) (ez _) (fun h => by omega) hlen ok bp bU a w ⟨A, ad, aA⟩
 ·exact h _ cap e e1 jV (fun _ => ⟨g, rfl⟩) hlen ok bp bU a w ⟨A, ad, aA⟩
theorem Rel.aea {B : ff} {A : Nat → Prop} {s : aC} {ad : Nat → Nat} {a : Act} {w : World} {k : Nat} {cs ds : List AC} (h : Rel B A s ad a w) (af : s.mem k = some cs) (ap : ∀ vs, bZ (s.free A ad) ad w cs vs → bZ (s.free A ad) ad w ds vs) : Rel B A (s.eh k ds) ad a w := by
 obtain ⟨vs, ty, g1, g2, _⟩ := h.dG k cs af;have := h.set af (ap vs g2);rwa [setRow_self w (ad k) vs.toArray ty (0, 0) g1] at this
theorem En {x y : Int} {b : Bool} (ab : cH x y = b) : aT aj 58 [bh x y] (bD b) := by
 have cs : (x ≤ 134217728 ∧ y ≤ 134217728 ∧ -134217728 ≤ x ∧ -134217728 ≤ y ∧ b = true) ∨ (x ≤ 134217728 ∧ y ≤ 134217728 ∧ -134217728 ≤ x ∧ ¬ -134217728 ≤ y ∧ b = false) ∨ (x ≤ 134217728 ∧ y ≤ 134217728 ∧ ¬ -134217728 ≤ x ∧ b = false) ∨ (x ≤ 134217728 ∧ ¬ y ≤ 134217728 ∧ b = false) ∨ (¬ x ≤ 134217728 ∧ b = false) := by
  rw [← ab]; unfold cH
  by_cases q1 : x ≤ 134217728 <;> by_cases q2 : y ≤ 134217728 <;> by_cases cj : -134217728 ≤ x <;> by_cases eH : -134217728 ≤ y <;> simp [q1, q2, cj, eH]
 clear ab;rcases cs with ⟨q1, q2, cj, eH, rfl⟩ | ⟨q1, q2, cj, eH, rfl⟩ | ⟨q1, q2, cj, rfl⟩ | ⟨q1, q2, rfl⟩ | ⟨q1, rfl⟩
 all_goals
  refine cd (f := 58) Tryz.func58 rfl rfl rfl rfl ?_;(repeat first | (with_reducible apply ax); rfl | (with_reducible apply bW (c := true)); rfl; rfl; (exact bg (by omega)) | (with_reducible apply bW (c := false)); rfl; rfl; (exact bl (by omega)) | (with_reducible first | apply bR | apply bJ | apply bO | apply ay | apply b7))
  ((refine bX rfl (bG rfl bc) ?_))
  first | exact ai.br.refl _ | exact ai.br.of_eq (by rw [bg eH]; rfl) | exact ai.br.of_eq (by rw [bl eH]; rfl)
def vj (n : Int) : Bool := decide (-134217728 ≤ n) && decide (n ≤ 134217728)
theorem PK {n : Int} {b : Bool} (ab : vj n = b) : aT aj 216 [aV n] (bD b) := by
 have cs : (-134217728 ≤ n ∧ n ≤ 134217728 ∧ b = true) ∨ (-134217728 ≤ n ∧ ¬ n ≤ 134217728 ∧ b = false) ∨ (¬ -134217728 ≤ n ∧ b = false) := by
  rw [← ab]; unfold vj
  by_cases h1 : -134217728 ≤ n <;> by_cases h2 : n ≤ 134217728 <;> simp [h1, h2]
 clear ab;rcases cs with ⟨h1, h2, rfl⟩ | ⟨h1, h2, rfl⟩ | ⟨h1, rfl⟩
 all_goals
  refine cd (f := 216) Tryz.func216 rfl rfl rfl rfl ?_;(repeat first | (with_reducible apply ax); rfl | (with_reducible apply bW (c := true)); rfl; rfl; (exact bg (by omega)) | (with_reducible apply bW (c := false)); rfl; rfl; (exact bl (by omega)) | (with_reducible first | apply bR | apply bJ | apply bO | apply ay | apply b7))
  ((refine bX rfl (bG rfl bc) ?_))
  first | exact ai.br.refl _ | exact ai.br.of_eq (by rw [bg h2]; rfl) | exact ai.br.of_eq (by rw [bl h2]; rfl)
theorem ad2 (x y : Int) : cH x y = (vj x && vj y) := by unfold cH vj; grind
theorem lq {x y : Int} (h : cH x y = true) : ep x y = true := by rw [sX] at h; rw [Qr]; omega
theorem pb {x y : Int} {b : Bool} (ab : cH x y = b) : aT aj 171 [bh x y] (bD b) := by
 have aM := PK (n := x) rfl;have bI := PK (n := y) rfl;rw [ad2] at ab;cases q1 : vj x <;> cases q2 : vj y <;> rw [q1] at aM <;> rw [q2] at bI <;> rw [q1, q2] at ab <;> subst ab <;> clear q1 q2
 all_goals
  refine cd (f := 171) Tryz.func171 rfl rfl rfl rfl ?_;(repeat first | (with_reducible apply ax); rfl | refine dj rfl rfl rfl (by (first | exact aM | exact bI)) rfl ?_ | (with_reducible first | apply bR | apply bJ | apply bO | apply ay | apply b7))
  ((refine bX rfl (bG rfl bc) ?_))
  exact ai.br.refl _
theorem acu {n m : Int} : aT aj 285 [aV n, aV m] (aV (gb n m)) :=
 nz [.int .i64 n, .int .i64 m] (.int .i64 (gb n m)) rfl rfl rfl rfl rfl fun W => Fo n m W
abbrev kd (n d : Int) (o : Bool) : ai := .w (.agg [.c (.int .i64 n), .c (.int .i64 d), .c (.bool o)])
abbrev uO (x : hY) : ai := kd x.n x.d x.own
def l0 (x : hY) : Prop := (-2000000000 ≤ x.n ∧ x.n ≤ 2000000000) ∧ 0 < x.d ∧ x.d ≤ 2000000000
theorem abn {x y : Int} (h1 : -2000000000 ≤ x) (h2 : x ≤ 2000000000) (aq : 0 ≤ y) (aK : y ≤ 2000000000) : -4000000000000000000 ≤ x * y ∧ x * y ≤ 4000000000000000000 := by
 have a1 : x * y ≤ 2000000000 * y := qg h2 aq;have a2 : -2000000000 * y ≤ x * y := qg h1 aq;omega
theorem KW {x y : hY} (aa : l0 x) (ag : l0 y) : IntKind.i64.wrap (x.n * y.d) = x.n * y.d := by
 obtain ⟨⟨a1, a2⟩, a3, a4⟩ := aa;obtain ⟨⟨b1, b2⟩, eF, dV⟩ := ag;have := abn a1 a2 (by omega : (0 : Int) ≤ y.d) dV;exact cp (by omega)
theorem adt {n d m e c : Int} {o q : Bool} (aM : aT aj 285 [aV (n * e), aV (m * d)] (aV c)) (aP : IntKind.i64.wrap (n * e) = n * e) (w2 : IntKind.i64.wrap (m * d) = m * d) : aT aj 284 [kd n d o, kd m e q] (aV c) := by
 refine cd (f := 284) Tryz.func284 rfl rfl rfl rfl ?_;(repeat first | (with_reducible apply ax); rfl | (with_reducible apply tn); (iterate 3 rfl); (assumption); rfl | refine cI rfl rfl rfl rfl (by (exact aM)) rfl ?_ | (with_reducible first | apply bR | apply bJ | apply bO | apply ay | apply b7))
 ((refine bX rfl (bG rfl bc) ?_))
 exact ai.br.refl _
theorem IX {x y : hY} (aa : l0 x) (ag : l0 y) : aT aj 284 [uO x, uO y] (aV (hJ x y)) :=
 adt acu (KW aa ag) (KW ag aa)
theorem adn {n d m e c : Int} {o q : Bool} {c3 ec : Int} {ic : Bool} (aM : aT aj 284 [kd n d o, kd m e q] (aV c)) (cs : (0 < c ∧ c3 = n ∧ ec = d ∧ ic = o) ∨ (¬ 0 < c ∧ c = 0 ∧ q = true ∧ c3 = n ∧ ec = d ∧ ic = o) ∨ (¬ 0 < c ∧ c = 0 ∧ q = false ∧ c3 = m ∧ ec = e ∧ ic = q) ∨ (¬ 0 < c ∧ ¬ c = 0 ∧ c3 = m ∧ ec = e ∧ ic = q)) : aT aj 294 [kd n d o, kd m e q] (kd c3 ec ic) := by
 rcases cs with ⟨q1, rfl, rfl, rfl⟩ | ⟨q1, q2, rfl, rfl, rfl, rfl⟩ | ⟨q1, q2, rfl, rfl, rfl, rfl⟩ | ⟨q1, q2, rfl, rfl, rfl⟩
 all_goals
  refine cd (f := 294) Tryz.func294 rfl rfl rfl rfl ?_;(repeat first | (with_reducible apply ax); rfl | refine cI rfl rfl rfl rfl (by (exact aM)) rfl ?_ | (with_reducible apply bW (c := true)); rfl; rfl; (exact bg (by omega)) | (with_reducible apply bW (c := false)); rfl; rfl; (exact bl (by omega)) | (with_reducible first | apply bR | apply bJ | apply bO | apply ay | apply b7 | apply eU | apply fL) | (with_reducible apply ik); rfl | (with_reducible apply gU); rfl)
  ((refine bX rfl (fj rfl rfl rfl bc) ?_))
  exact ai.br.refl _
theorem adm {x y : hY} (aa : l0 x) (ag : l0 y) : aT aj 294 [uO x, uO y] (uO (q6 x y)) := by
 refine adn (IX aa ag) ?_;rcases N9 x y with ⟨e, h⟩ | ⟨e, h⟩ <;> rw [e]
 ·by_cases h1 : 0 < hJ x y
  ·exact .inl ⟨h1, rfl, rfl, rfl⟩
  ·rcases h with h | ⟨h, k⟩
   ·exact absurd h h1
   ·exact .inr (.inl ⟨h1, h, k, rfl, rfl, rfl⟩)
 ·have h1 : ¬ 0 < hJ x y := fun k => h (.inl k)
  by_cases h2 : hJ x y = 0
  ·refine .inr (.inr (.inl ⟨h1, h2, ?_, rfl, rfl, rfl⟩));cases ag : y.own with
   | false => rfl
   | true => exact absurd (.inr ⟨h2, ag⟩) h
  ·exact .inr (.inr (.inr ⟨h1, h2, rfl, rfl, rfl⟩))
theorem ac9 {n d m e c : Int} {o q : Bool} {c3 ec : Int} {ic : Bool} (aM : aT aj 284 [kd n d o, kd m e q] (aV c)) (cs : (c < 0 ∧ c3 = n ∧ ec = d ∧ ic = o) ∨ (¬ c < 0 ∧ c = 0 ∧ q = true ∧ c3 = n ∧ ec = d ∧ ic = o) ∨ (¬ c < 0 ∧ c = 0 ∧ q = false ∧ c3 = m ∧ ec = e ∧ ic = q) ∨ (¬ c < 0 ∧ ¬ c = 0 ∧ c3 = m ∧ ec = e ∧ ic = q)) : aT aj 295 [kd n d o, kd m e q] (kd c3 ec ic) := by
 rcases cs with ⟨q1, rfl, rfl, rfl⟩ | ⟨q1, q2, rfl, rfl, rfl, rfl⟩ | ⟨q1, q2, rfl, rfl, rfl, rfl⟩ | ⟨q1, q2, rfl, rfl, rfl⟩
 all_goals
  refine cd (f := 295) Tryz.func295 rfl rfl rfl rfl ?_;(repeat first | (with_reducible apply ax); rfl | refine cI rfl rfl rfl rfl (by (exact aM)) rfl ?_ | (with_reducible apply bW (c := true)); rfl; rfl; (exact bg (by omega)) | (with_reducible apply bW (c := false)); rfl; rfl; (exact bl (by omega)) | (with_reducible first | apply bR | apply bJ | apply bO | apply ay | apply b7 | apply eU | apply fL) | (with_reducible apply ik); rfl | (with_reducible apply gU); rfl)
  ((refine bX rfl (fj rfl rfl rfl bc) ?_))
  exact ai.br.refl _
theorem ac8 {x y : hY} (aa : l0 x) (ag : l0 y) : aT aj 295 [uO x, uO y] (uO (qN x y)) := by
 refine ac9 (IX aa ag) ?_;rcases LI x y with ⟨e, h⟩ | ⟨e, h⟩ <;> rw [e]
 ·by_cases h1 : hJ x y < 0
  ·exact .inl ⟨h1, rfl, rfl, rfl⟩
  ·rcases h with h | ⟨h, k⟩
   ·exact absurd h h1
   ·exact .inr (.inl ⟨h1, h, k, rfl, rfl, rfl⟩)
 ·have h1 : ¬ hJ x y < 0 := fun k => h (.inl k)
  by_cases h2 : hJ x y = 0
  ·refine .inr (.inr (.inl ⟨h1, h2, ?_, rfl, rfl, rfl⟩));cases ag : y.own with
   | false => rfl
   | true => exact absurd (.inr ⟨h2, ag⟩) h
  ·exact .inr (.inr (.inr ⟨h1, h2, rfl, rfl, rfl⟩))
abbrev gQ (a1 a2 b1 b2 n d : Int) (o : Bool) (m e : Int) (q : Bool) : ai := .w (.agg [.c (.int .i64 a1), .c (.int .i64 a2), .c (.int .i64 b1), .c (.int .i64 b2), .c (.int .i64 n), .c (.int .i64 d), .c (.bool o), .c (.int .i64 m), .c (.int .i64 e), .c (.bool q)])
abbrev E8 (a1 a2 b1 b2 : Int) (p : Pa) : ai := gQ a1 a2 b1 b2 p.f.n p.f.d p.f.own p.t.n p.t.d p.t.own
def yj (p : Pa) : Prop := l0 p.f ∧ l0 p.t
theorem adl {a1 a2 b1 b2 n d m e u v : Int} {o q w : Bool} {n' d' aH bz : Int} {fO cK : Bool} (hu : -1100000000 ≤ u ∧ u ≤ 1100000000) (hv : -1100000000 ≤ v ∧ v ≤ 1100000000)
  (cs : (0 < v - u ∧ aT aj 294 [kd n d o, kd (-u) (v - u) w] (kd n' d' fO) ∧ aH = m ∧ bz = e ∧ cK = q) ∨ (¬ 0 < v - u ∧ v - u < 0 ∧ aT aj 295 [kd m e q, kd u (-(v - u)) w] (kd aH bz cK) ∧ n' = n ∧ d' = d ∧ fO = o)
   ∨ (¬ 0 < v - u ∧ ¬ v - u < 0 ∧ u < 0 ∧ n' = 1 ∧ d' = 1 ∧ fO = false ∧ aH = 0 ∧ bz = 1 ∧ cK = false) ∨ (¬ 0 < v - u ∧ ¬ v - u < 0 ∧ ¬ u < 0 ∧ u = 0 ∧ w = false ∧ n' = 1 ∧ d' = 1 ∧ fO = false ∧ aH = 0 ∧ bz = 1 ∧ cK = false)
   ∨ (¬ 0 < v - u ∧ ¬ v - u < 0 ∧ ¬ u < 0 ∧ u = 0 ∧ w = true ∧ n' = n ∧ d' = d ∧ fO = o ∧ aH = m ∧ bz = e ∧ cK = q) ∨ (¬ 0 < v - u ∧ ¬ v - u < 0 ∧ ¬ u < 0 ∧ ¬ u = 0 ∧ n' = n ∧ d' = d ∧ fO = o ∧ aH = m ∧ bz = e ∧ cK = q)) :
  aT aj 283 [gQ a1 a2 b1 b2 n d o m e q, aV u, aV v, bD w] (gQ a1 a2 b1 b2 n' d' fO aH bz cK) := by
 rcases cs with ⟨q1, aM, rfl, rfl, rfl⟩ | ⟨q1, q2, aM, rfl, rfl, rfl⟩ | ⟨q1, q2, cj, rfl, rfl, rfl, rfl, rfl, rfl⟩ | ⟨q1, q2, cj, eH, rfl, rfl, rfl, rfl, rfl, rfl, rfl⟩ | ⟨q1, q2, cj, eH, rfl, rfl, rfl, rfl, rfl, rfl, rfl⟩ | ⟨q1, q2, cj, eH, rfl, rfl, rfl, rfl, rfl, rfl⟩
 ·refine cd (f := 283) Tryz.func283 rfl rfl rfl rfl ?_;(repeat first | (with_reducible apply ax); rfl | (with_reducible apply oz); (iterate 3 rfl); (exact cp (by omega)); rfl | (with_reducible apply KJ); rfl; rfl; (exact cp (by omega)); rfl | refine cI rfl rfl rfl rfl (by (exact aM)) rfl ?_ | (with_reducible first | apply bR | apply bJ | apply bO | apply ay | apply b7 | apply gg | apply lA) | (with_reducible apply fZ); rfl; (exact bg (by omega)))
  ((refine bX rfl (fj rfl rfl rfl bc) ?_))
  exact ai.br.refl _
 ·refine cd (f := 283) Tryz.func283 rfl rfl rfl rfl ?_;(repeat first | (with_reducible apply ax); rfl | (with_reducible apply oz); (iterate 3 rfl); (exact cp (by omega)); rfl | (with_reducible apply KJ); rfl; rfl; (exact cp (by omega)); rfl | refine cI rfl rfl rfl rfl (by (exact aM)) rfl ?_ | (with_reducible first | apply bR | apply bJ | apply bO | apply ay | apply b7 | apply gg | apply lA) | (with_reducible apply fZ); rfl; (exact bg (by omega)) | (with_reducible apply gT); rfl; (exact bl (by omega)))
  ((refine bX rfl (fj rfl rfl rfl bc) ?_))
  exact ai.br.refl _
 all_goals
  refine cd (f := 283) Tryz.func283 rfl rfl rfl rfl ?_;(repeat first | (with_reducible apply ax); rfl | (with_reducible apply oz); (iterate 3 rfl); (exact cp (by omega)); rfl | (with_reducible apply bW (c := true)); rfl; rfl; (exact bg (by omega)) | (with_reducible apply bW (c := false)); rfl; rfl; (exact bl (by omega)) | (with_reducible first | apply bR | apply bJ | apply bO | apply ay | apply b7 | apply eU | apply gg | apply lA) | (with_reducible apply ik); rfl | (with_reducible apply gU); rfl | (with_reducible apply fZ); rfl; (exact bg (by omega)) | (with_reducible apply gT); rfl; (exact bl (by omega)))
  ((refine bX rfl (fj rfl rfl rfl bc) ?_))
  exact ai.br.refl _
theorem aat {x y : hY} (aa : l0 x) (ag : l0 y) : l0 (q6 x y) := by unfold q6; split <;> assumption
theorem VY {x y : hY} (aa : l0 x) (ag : l0 y) : l0 (qN x y) := by unfold qN; split <;> assumption
theorem DI {p : Pa} {u v : Int} {w : Bool} (hp : yj p) (hu : -900000000 ≤ u ∧ u ≤ 900000000) (hv : -900000000 ≤ v ∧ v ≤ 900000000) : yj (n6 p u v w) := by
 unfold n6
 by_cases h1 : 0 < v - u
 ·rw [if_pos h1]; exact ⟨aat hp.1 ⟨by simp only; omega, by simp only; omega⟩, hp.2⟩
 ·rw [if_neg h1]
  by_cases h2 : v - u < 0
  ·rw [if_pos h2]; exact ⟨hp.1, VY hp.2 ⟨by simp only; omega, by simp only; omega⟩⟩
  ·rw [if_neg h2]
   split
   ·exact ⟨⟨by decide, by decide⟩, ⟨by decide, by decide⟩⟩
   ·exact hp
theorem Em {a1 a2 b1 b2 u v : Int} {w : Bool} {p : Pa} (hp : yj p) (hu : -900000000 ≤ u ∧ u ≤ 900000000) (hv : -900000000 ≤ v ∧ v ≤ 900000000) : aT aj 283 [E8 a1 a2 b1 b2 p, aV u, aV v, bD w] (E8 a1 a2 b1 b2 (n6 p u v w)) := by
 refine adl (by omega) (by omega) ?_;unfold n6
 by_cases h1 : 0 < v - u
 ·rw [if_pos h1];exact .inl ⟨h1, adm hp.1 (y := ⟨-u, v - u, w⟩) ⟨by simp only; omega, by simp only; omega⟩, rfl, rfl, rfl⟩
 ·rw [if_neg h1]
  by_cases h2 : v - u < 0
  ·rw [if_pos h2];exact .inr (.inl ⟨h1, h2, ac8 hp.2 (y := ⟨u, -(v - u), w⟩) ⟨by simp only; omega, by simp only; omega⟩, rfl, rfl, rfl⟩)
  ·rw [if_neg h2]
   by_cases aq : u < 0
   ·rw [if_pos (.inl aq)];exact .inr (.inr (.inl ⟨h1, h2, aq, rfl, rfl, rfl, rfl, rfl, rfl⟩))
   ·by_cases aK : u = 0
    ·cases w with
     | false => rw [if_pos (.inr ⟨aK, rfl⟩)]; exact .inr (.inr (.inr (.inl ⟨h1, h2, aq, aK, rfl, rfl, rfl, rfl, rfl, rfl, rfl⟩)))
     | true => rw [if_neg (by simp [aq])]; exact .inr (.inr (.inr (.inr (.inl ⟨h1, h2, aq, aK, rfl, rfl, rfl, rfl, rfl, rfl, rfl⟩))))
    ·rw [if_neg (by simp [aq, aK])];exact .inr (.inr (.inr (.inr (.inr ⟨h1, h2, aq, aK, rfl, rfl, rfl, rfl, rfl, rfl⟩))))
instance aie : JV aj 287 4 false 1 := ⟨by kernel_rfl⟩
abbrev uP (l1 l2 h1 h2 : Int) (o p : Bool) : ai := .w (.agg [.c (.int .i64 l1), .c (.int .i64 l2), .c (.int .i64 h1), .c (.int .i64 h2), .c (.bool o), .c (.bool p)])
def tv (n : Int) : Bool := decide (-536870912 ≤ n) && decide (n ≤ 536870912)
theorem Lb {n : Int} : tv n = true ↔ -536870912 ≤ n ∧ n ≤ 536870912 := by unfold tv; simp
def tw (x y : Int) : Bool := tv x && tv y
theorem Cm {x y : Int} : tw x y = true ↔ (-536870912 ≤ x ∧ x ≤ 536870912) ∧ -536870912 ≤ y ∧ y ≤ 536870912 := by unfold tw; rw [eo, Lb, Lb]
def DE (k : Int) : Bool := decide (0 ≤ k) && decide (k ≤ 2)
theorem ac6 {a1 a2 b1 b2 l1 l2 h1 h2 n d m e n' d' aH bz : Int} {o p q r cK a8 : Bool} (aL : -134217728 ≤ a1 ∧ a1 ≤ 134217728) (ab : -134217728 ≤ b1 ∧ b1 ≤ 134217728) (ao : -536870912 ≤ l1 ∧ l1 ≤ 536870912)
  (aM : aT aj 283 [gQ a1 a2 b1 b2 n d q m e r, aV (2 * a1 - l1), aV (2 * b1 - l1), bD o] (gQ a1 a2 b1 b2 n' d' cK aH bz a8)) : aT aj 252 [uP l1 l2 h1 h2 o p, gQ a1 a2 b1 b2 n d q m e r] (gQ a1 a2 b1 b2 n' d' cK aH bz a8) := by
 refine cd (f := 252) Tryz.func252 rfl rfl rfl rfl ?_;(repeat first | (with_reducible apply ax); rfl | (with_reducible apply oz); (iterate 3 rfl); (exact cp (by omega)); rfl | (with_reducible apply tn); (iterate 3 rfl); (exact cp (by omega)); rfl | refine nR rfl rfl rfl rfl rfl rfl (by (exact aM)) rfl ?_ | (with_reducible first | apply bR | apply bJ | apply bO | apply ay | apply b7))
 ((refine bX rfl (fj rfl rfl rfl bc) ?_))
 exact ai.br.refl _
theorem ac5 {a1 a2 b1 b2 l1 l2 h1 h2 n d m e n' d' aH bz : Int} {o p q r cK a8 : Bool} (aL : -134217728 ≤ a2 ∧ a2 ≤ 134217728) (ab : -134217728 ≤ b2 ∧ b2 ≤ 134217728) (ao : -536870912 ≤ l2 ∧ l2 ≤ 536870912)
  (aM : aT aj 283 [gQ a1 a2 b1 b2 n d q m e r, aV (2 * a2 - l2), aV (2 * b2 - l2), bD o] (gQ a1 a2 b1 b2 n' d' cK aH bz a8)) : aT aj 253 [uP l1 l2 h1 h2 o p, gQ a1 a2 b1 b2 n d q m e r] (gQ a1 a2 b1 b2 n' d' cK aH bz a8) := by
 refine cd (f := 253) Tryz.func253 rfl rfl rfl rfl ?_;(repeat first | (with_reducible apply ax); rfl | (with_reducible apply oz); (iterate 3 rfl); (exact cp (by omega)); rfl | (with_reducible apply tn); (iterate 3 rfl); (exact cp (by omega)); rfl | refine nR rfl rfl rfl rfl rfl rfl (by (exact aM)) rfl ?_ | (with_reducible first | apply bR | apply bJ | apply bO | apply ay | apply b7))
 ((refine bX rfl (fj rfl rfl rfl bc) ?_))
 exact ai.br.refl _
theorem ac7 {a1 a2 b1 b2 l1 l2 h1 h2 n d m e n' d' aH bz : Int} {o p q r cK a8 : Bool} (aL : -134217728 ≤ a1 ∧ a1 ≤ 134217728) (ab : -134217728 ≤ b1 ∧ b1 ≤ 134217728) (ao : -536870912 ≤ h1 ∧ h1 ≤ 536870912)
  (aM : aT aj 283 [gQ a1 a2 b1 b2 n d q m e r, aV (h1 - 2 * a1), aV (h1 - 2 * b1), bD p] (gQ a1 a2 b1 b2 n' d' cK aH bz a8)) : aT aj 254 [uP l1 l2 h1 h2 o p, gQ a1 a2 b1 b2 n d q m e r] (gQ a1 a2 b1 b2 n' d' cK aH bz a8) := by
 refine cd (f := 254) Tryz.func254 rfl rfl rfl rfl ?_;(repeat first | (with_reducible apply ax); rfl | (with_reducible apply oz); (iterate 3 rfl); (exact cp (by omega)); rfl | (with_reducible apply tn); (iterate 3 rfl); (exact cp (by omega)); rfl | refine nR rfl rfl rfl rfl rfl rfl (by (exact aM)) rfl ?_ | (with_reducible first | apply bR | apply bJ | apply bO | apply ay | apply b7))
 ((refine bX rfl (fj rfl rfl rfl bc) ?_))
 exact ai.br.refl _
theorem ac4 {a1 a2 b1 b2 l1 l2 h1 h2 n d m e n' d' aH bz : Int} {o p q r cK a8 : Bool} (aL : -134217728 ≤ a2 ∧ a2 ≤ 134217728) (ab : -134217728 ≤ b2 ∧ b2 ≤ 134217728) (ao : -536870912 ≤ h2 ∧ h2 ≤ 536870912)
  (aM : aT aj 283 [gQ a1 a2 b1 b2 n d q m e r, aV (h2 - 2 * a2), aV (h2 - 2 * b2), bD p] (gQ a1 a2 b1 b2 n' d' cK aH bz a8)) : aT aj 255 [uP l1 l2 h1 h2 o p, gQ a1 a2 b1 b2 n d q m e r] (gQ a1 a2 b1 b2 n' d' cK aH bz a8) := by
 refine cd (f := 255) Tryz.func255 rfl rfl rfl rfl ?_;(repeat first | (with_reducible apply ax); rfl | (with_reducible apply oz); (iterate 3 rfl); (exact cp (by omega)); rfl | (with_reducible apply tn); (iterate 3 rfl); (exact cp (by omega)); rfl | refine nR rfl rfl rfl rfl rfl rfl (by (exact aM)) rfl ?_ | (with_reducible first | apply bR | apply bJ | apply bO | apply ay | apply b7))
 ((refine bX rfl (fj rfl rfl rfl bc) ?_))
 exact ai.br.refl _
theorem acT {a1 a2 b1 b2 : Int} : aT aj 251 [bh a1 a2, bh b1 b2] (E8 a1 a2 b1 b2 u5) := by
 refine cd (f := 251) Tryz.func251 rfl rfl rfl rfl ?_;(repeat first | (with_reducible apply ax); rfl | (with_reducible first | apply bR | apply bJ | apply bO | apply ay | apply b7))
 ((refine bX rfl (fj rfl rfl rfl bc) ?_))
 exact ai.br.refl _
theorem adg {a1 a2 b1 b2 n d m e c : Int} {o q r : Bool} (aM : aT aj 284 [kd n d o, kd m e q] (aV c)) (cs : (c < 0 ∧ r = true) ∨ (¬ c < 0 ∧ c = 0 ∧ o = true ∧ r = q) ∨ (¬ c < 0 ∧ c = 0 ∧ o = false ∧ r = false) ∨ (¬ c < 0 ∧ ¬ c = 0 ∧ r = false)) : aT aj 256 [gQ a1 a2 b1 b2 n d o m e q] (bD r) := by
 rcases cs with ⟨q1, rfl⟩ | ⟨q1, q2, rfl, rfl⟩ | ⟨q1, q2, rfl, rfl⟩ | ⟨q1, q2, rfl⟩
 all_goals
  refine cd (f := 256) Tryz.func256 rfl rfl rfl rfl ?_;(repeat first | (with_reducible apply ax); rfl | refine cI rfl rfl rfl rfl (by (exact aM)) rfl ?_ | (with_reducible apply bW (c := true)); rfl; rfl; (exact bg (by omega)) | (with_reducible apply bW (c := false)); rfl; rfl; (exact bl (by omega)) | (with_reducible first | apply bR | apply bJ | apply bO | apply ay | apply b7))
  ((refine bX rfl (bG rfl bc) ?_))
  exact ai.br.refl _
theorem adf {a1 a2 b1 b2 : Int} {p : Pa} (hp : yj p) : aT aj 256 [E8 a1 a2 b1 b2 p] (bD (wJ p)) := by
 refine adg (IX hp.1 hp.2) ?_;unfold wJ
 by_cases h1 : hJ p.f p.t < 0
 ·exact .inl ⟨h1, by rw [bg h1]; rfl⟩
 ·rw [bl h1]
  by_cases h2 : hJ p.f p.t = 0
  ·rw [bg h2];cases aq : p.f.own with
   | true => exact .inr (.inl ⟨h1, h2, rfl, rfl⟩)
   | false => exact .inr (.inr (.inl ⟨h1, h2, rfl, rfl⟩))
  ·exact .inr (.inr (.inr ⟨h1, h2, by rw [bl h2]; rfl⟩))
theorem PL {n : Int} {b : Bool} (ab : tv n = b) : aT aj 282 [aV n] (bD b) := by
 have cs : (-536870912 ≤ n ∧ n ≤ 536870912 ∧ b = true) ∨ (-536870912 ≤ n ∧ ¬ n ≤ 536870912 ∧ b = false) ∨ (¬ -536870912 ≤ n ∧ b = false) := by
  rw [← ab]; unfold tv
  by_cases h1 : -536870912 ≤ n <;> by_cases h2 : n ≤ 536870912 <;> simp [h1, h2]
 clear ab;rcases cs with ⟨h1, h2, rfl⟩ | ⟨h1, h2, rfl⟩ | ⟨h1, rfl⟩
 all_goals
  refine cd (f := 282) Tryz.func282 rfl rfl rfl rfl ?_;(repeat first | (with_reducible apply ax); rfl | (with_reducible apply bW (c := true)); rfl; rfl; (exact bg (by omega)) | (with_reducible apply bW (c := false)); rfl; rfl; (exact bl (by omega)) | (with_reducible first | apply bR | apply bJ | apply bO | apply ay | apply b7))
  ((refine bX rfl (bG rfl bc) ?_))
  first | exact ai.br.refl _ | exact ai.br.of_eq (by rw [bg h2]; rfl) | exact ai.br.of_eq (by rw [bl h2]; rfl)
theorem El {x y : Int} {b : Bool} (ab : tw x y = b) : aT aj 249 [bh x y] (bD b) := by
 have aM := PL (n := x) rfl;have bI := PL (n := y) rfl;unfold tw at ab;cases q1 : tv x <;> cases q2 : tv y <;> rw [q1] at aM <;> rw [q2] at bI <;> rw [q1, q2] at ab <;> subst ab <;> clear q1 q2
 all_goals
  refine cd (f := 249) Tryz.func249 rfl rfl rfl rfl ?_;(repeat first | (with_reducible apply ax); rfl | refine dj rfl rfl rfl (by (first | exact aM | exact bI)) rfl ?_ | (with_reducible first | apply bR | apply bJ | apply bO | apply ay | apply b7))
  ((refine bX rfl (bG rfl bc) ?_))
  exact ai.br.refl _
theorem PP {k : Int} {b : Bool} (ab : DE k = b) : aT aj 250 [aV k] (bD b) := by
 have cs : (k = 0 ∧ b = true) ∨ (¬ k = 0 ∧ k = 1 ∧ b = true) ∨ (¬ k = 0 ∧ ¬ k = 1 ∧ k = 2 ∧ b = true) ∨ (¬ k = 0 ∧ ¬ k = 1 ∧ ¬ k = 2 ∧ b = false) := by
  rw [← ab]; unfold DE
  by_cases h1 : k = 0
  ·exact .inl ⟨h1, by subst h1; rfl⟩
  ·by_cases h2 : k = 1
   ·exact .inr (.inl ⟨h1, h2, by subst h2; rfl⟩)
   ·by_cases aq : k = 2
    ·exact .inr (.inr (.inl ⟨h1, h2, aq, by subst aq; rfl⟩))
    ·refine .inr (.inr (.inr ⟨h1, h2, aq, ?_⟩));rw [Bool.and_eq_false_iff, mX, mX];omega
 clear ab;rcases cs with ⟨h1, rfl⟩ | ⟨h1, h2, rfl⟩ | ⟨h1, h2, aq, rfl⟩ | ⟨h1, h2, aq, rfl⟩
 all_goals
  refine cd (f := 250) Tryz.func250 rfl rfl rfl rfl ?_;(repeat first | (with_reducible apply ax); rfl | (with_reducible apply bW (c := true)); rfl; rfl; (exact bg (by omega)) | (with_reducible apply bW (c := false)); rfl; rfl; (exact bl (by omega)) | (with_reducible first | apply bR | apply bJ | apply bO | apply ay | apply b7))
  ((refine bX rfl (bG rfl bc) ?_))
  first | exact ai.br.refl _ | exact ai.br.of_eq (by rw [bg aq]; rfl) | exact ai.br.of_eq (by rw [bl aq]; rfl)
theorem acG {a1 a2 b1 b2 l1 l2 h1 h2 k : Int} {o p r : Bool} {hy d1 m1 aG j2 d2 m2 aO sI d3 m3 cz sJ d4 m4 eX : Int} {q1 c3 q2 ec cj ic eH rr : Bool} (bo : aT aj 171 [bh a1 a2] (bD true)) (eT : aT aj 171 [bh b1 b2] (bD true)) (iA : aT aj 249 [bh l1 l2] (bD true)) (wB : aT aj 249 [bh h1 h2] (bD true)) (Fz : aT aj 250 [aV k] (bD true))
  (V9 : (!decide (k = 2)) = o) (sb : decide (k = 1) = p) (bU : aT aj 251 [bh a1 a2, bh b1 b2] (gQ a1 a2 b1 b2 0 1 true 1 1 true))
  (aM : aT aj 252 [uP l1 l2 h1 h2 o p, gQ a1 a2 b1 b2 0 1 true 1 1 true] (gQ a1 a2 b1 b2 hy d1 q1 m1 aG c3))
  (bI : aT aj 253 [uP l1 l2 h1 h2 o p, gQ a1 a2 b1 b2 hy d1 q1 m1 aG c3] (gQ a1 a2 b1 b2 j2 d2 q2 m2 aO ec))
  (et : aT aj 254 [uP l1 l2 h1 h2 o p, gQ a1 a2 b1 b2 j2 d2 q2 m2 aO ec] (gQ a1 a2 b1 b2 sI d3 cj m3 cz ic))
  (nG : aT aj 255 [uP l1 l2 h1 h2 o p, gQ a1 a2 b1 b2 sI d3 cj m3 cz ic] (gQ a1 a2 b1 b2 sJ d4 eH m4 eX rr))
  (H1 : aT aj 256 [gQ a1 a2 b1 b2 sJ d4 eH m4 eX rr] (bD r)) :
  aT aj 226 [bh a1 a2, bh b1 b2, bh l1 l2, bh h1 h2, aV k] (bD r) := by
 subst V9;subst sb;refine cd (f := 226) Tryz.func226 rfl rfl rfl rfl ?_;(repeat first | (with_reducible apply ax); rfl | (with_reducible apply yx); (iterate 4 rfl) | refine dj rfl rfl rfl (by (first | exact bo | exact eT | exact iA | exact wB | exact Fz)) rfl ?_ | refine cI rfl rfl rfl rfl (by (exact bU)) rfl ?_ | (with_reducible first | apply bR | apply bJ | apply bO | apply ay | apply eU | apply gg) | (with_reducible apply gU); rfl);refine Uj 5 ?_;(repeat first | (with_reducible apply ax); rfl | (with_reducible apply dB); (iterate 3 rfl); (exact cp (by omega)); rfl | (with_reducible apply TV); (iterate 3 rfl); (decide); (decide); (rfl); rfl | refine dj rfl rfl rfl (by (exact H1)) rfl ?_ | refine TJ (bs := [_]) (args := [_]) rfl rfl rfl rfl (by (first | exact aM | exact bI | exact et | exact nG)) rfl ?_ | (with_reducible first | apply bR | apply bJ | apply bO | apply ay | apply b7 | apply eU | apply gg | apply lA | apply qC | apply qJ | apply qI | apply EH) | (with_reducible apply ik); rfl | (with_reducible apply gU); rfl)
 ((refine bX rfl (bG rfl bc) ?_))
 exact ai.br.refl _
def dk (a1 a2 b1 b2 l1 l2 h1 h2 k : Int) : Pa := tz (2 * a1 - l1) (2 * b1 - l1) (2 * a2 - l2) (2 * b2 - l2) (h1 - 2 * a1) (h1 - 2 * b1) (h2 - 2 * a2) (h2 - 2 * b2) (!decide (k = 2)) (decide (k = 1))
def xC (a1 a2 b1 b2 l1 l2 h1 h2 k : Int) : Bool := cH a1 a2 && cH b1 b2 && tw l1 l2 && tw h1 h2 && DE k
def xB (a1 a2 b1 b2 l1 l2 h1 h2 k : Int) : Bool := xC a1 a2 b1 b2 l1 l2 h1 h2 k && wJ (dk a1 a2 b1 b2 l1 l2 h1 h2 k)
theorem acH {a1 a2 b1 b2 l1 l2 h1 h2 k : Int} {c3 ec ic rr Ey : Bool} (bo : aT aj 171 [bh a1 a2] (bD c3)) (eT : aT aj 171 [bh b1 b2] (bD ec)) (iA : aT aj 249 [bh l1 l2] (bD ic)) (wB : aT aj 249 [bh h1 h2] (bD rr)) (Fz : aT aj 250 [aV k] (bD Ey)) (h : (c3 && ec && ic && rr && Ey) = false) :
  aT aj 226 [bh a1 a2, bh b1 b2, bh l1 l2, bh h1 h2, aV k] (bD false) := by
 have cs : c3 = false ∨ (c3 = true ∧ ec = false) ∨ (c3 = true ∧ ec = true ∧ ic = false) ∨ (c3 = true ∧ ec = true ∧ ic = true ∧ rr = false) ∨ (c3 = true ∧ ec = true ∧ ic = true ∧ rr = true ∧ Ey = false) := by
  cases c3 <;> cases ec <;> cases ic <;> cases rr <;> cases Ey <;> simp_all
 clear h;rcases cs with rfl | ⟨rfl, rfl⟩ | ⟨rfl, rfl, rfl⟩ | ⟨rfl, rfl, rfl, rfl⟩ | ⟨rfl, rfl, rfl, rfl, rfl⟩
 all_goals
  refine cd (f := 226) Tryz.func226 rfl rfl rfl rfl ?_;(repeat first | (with_reducible apply ax); rfl | refine dj rfl rfl rfl (by (first | exact bo | exact eT | exact iA | exact wB | exact Fz)) rfl ?_ | (with_reducible first | apply bR | apply bJ | apply bO | apply ay | apply b7 | apply fL) | (with_reducible apply ik); rfl)
  ((refine bX rfl (bG rfl bc) ?_))
  exact ai.br.refl _
theorem KC : yj u5 := ⟨⟨by decide, by decide⟩, ⟨by decide, by decide⟩⟩
theorem acF {a1 a2 b1 b2 l1 l2 h1 h2 k : Int} : aT aj 226 [bh a1 a2, bh b1 b2, bh l1 l2, bh h1 h2, aV k] (bD (xB a1 a2 b1 b2 l1 l2 h1 h2 k)) := by
 unfold xB;cases ap : xC a1 a2 b1 b2 l1 l2 h1 h2 k with
 | false => exact acH (pb rfl) (pb rfl) (El rfl) (El rfl) (PP rfl) ap
 | true =>
  rw [rq];unfold xC at ap;simp only [eo] at ap;obtain ⟨⟨⟨⟨sY, sZ⟩, jI⟩, jH⟩, aeq⟩ := ap;have Dr := sX.1 sY;have Ds := sX.1 sZ;have NA := Cm.1 jI;have cF := Cm.1 jH;unfold dk tz;have o1 := DI (u := 2 * a1 - l1) (v := 2 * b1 - l1) (w := !decide (k = 2)) KC (by omega) (by omega);have o2 := DI (u := 2 * a2 - l2) (v := 2 * b2 - l2) (w := !decide (k = 2)) o1 (by omega) (by omega);have Pk := DI (u := h1 - 2 * a1) (v := h1 - 2 * b1) (w := decide (k = 1)) o2 (by omega) (by omega);have ab1 := DI (u := h2 - 2 * a2) (v := h2 - 2 * b2) (w := decide (k = 1)) Pk (by omega) (by omega);exact acG (pb sY) (pb sZ) (El jI) (El jH) (PP aeq) rfl rfl acT (ac6 Dr.1 Ds.1 NA.1 (Em KC (by omega) (by omega))) (ac5 Dr.2 Ds.2 NA.2 (Em o1 (by omega) (by omega))) (ac7 Dr.1 Ds.1 cF.1 (Em o2 (by omega) (by omega))) (ac4 Dr.2 Ds.2 cF.2 (Em Pk (by omega) (by omega))) (adf ab1)
theorem PG {a1 a2 b1 b2 x y k : Int} {c3 ec : Bool} (pu : aT aj 88 [aV k] (bD c3)) (ya : aT aj 77 [bh x y, aV k] (bD ec)) (h : (c3 && ec) = false) : aT aj 178 [bh a1 a2, bh b1 b2, bh x y, aV k] (bD false) := by
 have cs : c3 = false ∨ (c3 = true ∧ ec = false) := by cases c3 <;> cases ec <;> simp_all
 clear h;rcases cs with rfl | ⟨rfl, rfl⟩
 all_goals
  refine cd (f := 178) Tryz.func178 rfl rfl rfl rfl ?_;(repeat first | (with_reducible apply ax); rfl | refine dj rfl rfl rfl (by (exact pu)) rfl ?_ | refine cI rfl rfl rfl rfl (by (exact ya)) rfl ?_ | (with_reducible first | apply bR | apply bJ | apply bO | apply ay | apply b7 | apply fL) | (with_reducible apply ik); rfl)
  ((refine bX rfl (bG rfl bc) ?_))
  exact ai.br.refl _
theorem acB {a1 a2 b1 b2 x y k l1 l2 h1 h2 : Int} {r : Bool} (pu : aT aj 88 [aV k] (bD true)) (ya : aT aj 77 [bh x y, aV k] (bD true)) (Sr : aT aj 225 [bh x y, aV k] (.da [.agg [.c (.int .i64 l1), .c (.int .i64 l2)], .agg [.c (.int .i64 h1), .c (.int .i64 h2)]])) (M : aT aj 226 [bh a1 a2, bh b1 b2, bh l1 l2, bh h1 h2, aV 0] (bD r)) : aT aj 178 [bh a1 a2, bh b1 b2, bh x y, aV k] (bD r) := by
 refine cd (f := 178) Tryz.func178 rfl rfl rfl rfl ?_;(repeat first | (with_reducible apply ax); rfl | refine dj rfl rfl rfl (by (exact pu)) rfl ?_ | refine cI rfl rfl rfl rfl (by (first | exact ya | exact Sr)) rfl ?_ | refine TI rfl rfl rfl rfl rfl rfl rfl (by (exact M)) rfl ?_ | (with_reducible first | apply bR | apply bJ | apply bO | apply ay | apply b7 | apply eU) | (with_reducible apply gU); rfl)
 ((refine bX rfl (bG rfl bc) ?_))
 exact ai.br.refl _
def xk (a1 a2 b1 b2 x y k : Int) : Bool := decide (0 ≤ k) && decide (k ≤ 28) && e3 k.toNat x y && xB a1 a2 b1 b2 (2 * (2 ^ k.toNat * x) - 2 ^ k.toNat) (2 * (2 ^ k.toNat * y) - 2 ^ k.toNat) (2 * (2 ^ k.toNat * x) + 2 ^ k.toNat) (2 * (2 ^ k.toNat * y) + 2 ^ k.toNat) 0
theorem ZI {k : Int} (h : (decide (0 ≤ k) && decide (k ≤ 28)) = true) : gR k k.toNat := by
 simp only [eo, c0] at h;unfold gR;omega
theorem acA {a1 a2 b1 b2 x y k : Int} : aT aj 178 [bh a1 a2, bh b1 b2, bh x y, aV k] (bD (xk a1 a2 b1 b2 x y k)) := by
 unfold xk;have pu := ade (k := k);cases af : (decide (0 ≤ k) && decide (k ≤ 28)) with
 | false =>
  rw [af] at pu;obtain ⟨r, ap⟩ := ZH k;exact PG pu (At ap rfl) rfl
 | true =>
  rw [af] at pu;have ap := ZI af;cases hi : e3 k.toNat x y with
  | false => exact PG pu (At ap hi) rfl
  | true => exact acB pu (At ap hi) (acP ap hi) acF
end Go.Proofs.YtpochbhajmbfdaaGreat
namespace Go.Proofs.YtpochbhajmbfdaaGreat
def JX (a1 a2 b1 b2 l1 l2 h1 h2 k : Int) : Prop := Met (2 * a1 - l1) (2 * b1 - l1) (2 * a2 - l2) (2 * b2 - l2) (h1 - 2 * a1) (h1 - 2 * b1) (h2 - 2 * a2) (h2 - 2 * b2) (!decide (k = 2)) (decide (k = 1))
theorem Ip {a1 a2 b1 b2 l1 l2 h1 h2 k : Int} : xB a1 a2 b1 b2 l1 l2 h1 h2 k = true ↔ xC a1 a2 b1 b2 l1 l2 h1 h2 k = true ∧ JX a1 a2 b1 b2 l1 l2 h1 h2 k := by
 unfold xB dk JX;rw [eo, Ve]
theorem aa5 {a1 a2 b1 b2 l1 l2 h1 h2 k : Int} : xC a1 a2 b1 b2 l1 l2 h1 h2 k = true ↔ cH a1 a2 = true ∧ cH b1 b2 = true ∧ tw l1 l2 = true ∧ tw h1 h2 = true ∧ DE k = true := by
 unfold xC;simp only [eo, and_assoc]
end Go.Proofs.YtpochbhajmbfdaaGreat
namespace Go.Proofs.YtpochbhajmbfdaaGreat
open Go.ChangeShapes Go.WideShapes Go.ChangeAt Go.RowKit Go.Joins
theorem acm : ownKnob aj.godebug = none := by kernel_rfl
def w1 (P : Program) : Nat → TypeId → Bool
 | 0, _ => false
 | d + 1, t => match P.underlying t with
  | some .bool | some (.int _) | some .string => true
  | some (.struct bm) => bm.toList.all fun f => w1 P d f.type
  | some (.array _ e) => w1 P d e
  | _ => false
theorem mapM_flat {α β : Type} {f g : α → Option (β × List MemPlace)} : ∀ (l : List α) (xs : List (β × List MemPlace)), l.mapM f = some xs → (∀ a ∈ l, ∀ x, f a = some x → x.2 = [] ∧ g a = some (x.1, [])) → xs.flatMap (·.2) = [] ∧ l.mapM g = some xs
 | [], xs, h, _ => by cases h; exact ⟨rfl, rfl⟩
 | a :: l, xs, h, af => by
  rw [List.mapM_cons] at h;cases aL : f a with
  | none => rw [aL] at h; cases h
  | some b =>
   rw [aL] at h;cases ao : l.mapM f with
   | none => rw [ao] at h; cases h
   | some bs =>
    rw [ao] at h;cases h;obtain ⟨h1, h2⟩ := af a (by simp) b aL;obtain ⟨aq, aK⟩ := mapM_flat l bs ao fun a' pU => af a' (by simp [pU]);refine ⟨by simp [h1]; intro a' bT nr; have := List.flatMap_eq_nil_iff.1 aq _ nr; exact this, ?_⟩;rw [List.mapM_cons, h2, aK];obtain ⟨b1, b2⟩ := b;simp only at h1;subst h1;rfl
section
variable {H : Type} {enc : TypeId × Value → H} {P : Program}
theorem Ma : ∀ (d : Nat) (t : TypeId), w1 P d t = true → ∀ (fu : Nat) (w : World) (base : Nat) (sp : Nat → Bool) (held : Bool) (cs : List Value) (x : DataW H × List MemPlace), DataW.trod enc P w base sp held fu t cs = some x →
  x.2 = [] ∧ ∀ (w' : World) (pC : Nat) (qp : Nat → Bool) (pX : Bool), DataW.trod enc P w' pC qp pX fu t cs = some (x.1, [])
 | 0, _, h, _, _, _, _, _, _, _, _ => by cases h
 | d + 1, t, au, 0, _, _, _, _, _, _, h => by simp [DataW.trod] at h
 | d + 1, t, au, fu + 1, w, base, sp, held, cs, x, h => by
  have cF := fun oj (Y5 : w1 P d oj = true) => Ma d oj Y5 fu;rw [DataW.trod_step] at h;simp only [DataW.trod_step];unfold w1 at au;unfold DataW.trodStep at h ⊢;cases hu : P.underlying t with
  | none => rw [hu] at au; cases au
  | some D =>
   rw [hu] at au h;cases D with
   | bool =>
    match cs, h with
    | [.bool b], h => cases h; exact ⟨rfl, fun _ _ _ _ => rfl⟩
   | int k =>
    match cs, h with
    | [.int k' n], h =>
     simp only at h ⊢
     split at h
     ·rename_i ak; cases h; exact ⟨rfl, fun _ _ _ _ => by rw [if_pos ak]⟩
     ·cases h
   | string =>
    match cs, h with
    | [.string s], h =>
     simp only at h ⊢
     split at h
     ·rename_i ak; cases h; exact ⟨rfl, fun _ _ _ _ => by rw [if_pos ak]⟩
     ·cases h
   | struct bm =>
    simp only at h ⊢ au
    split at h
    ·rename_i ak;simp only [Option.map_eq_some_iff] at h;obtain ⟨xs, aa, rfl⟩ := h;have dp := cC.1 au;refine ⟨?_, fun w' pC qp pX => ?_⟩
     ·exact (mapM_flat (g := fun f => DataW.trod enc P w base sp held fu f.type ((cs.drop f.offset).take (P.cellsOf f.type))) _ _ aa fun f mc y ag => ⟨(cF f.type (dp f mc) w base sp held _ y ag).1, (cF f.type (dp f mc) w base sp held _ y ag).2 w base sp held⟩).1
     ·have := mapM_flat (g := fun f => DataW.trod enc P w' pC qp pX fu f.type ((cs.drop f.offset).take (P.cellsOf f.type))) _ _ aa fun f mc y ag => ⟨(cF f.type (dp f mc) w base sp held _ y ag).1, (cF f.type (dp f mc) w base sp held _ y ag).2 w' pC qp pX⟩;rw [if_pos ak, this.2];simp only [hD, this.1]
    ·cases h
   | array n e =>
    simp only at h ⊢ au
    split at h
    ·rename_i ak;simp only [Option.map_eq_some_iff] at h;obtain ⟨xs, aa, rfl⟩ := h;refine ⟨?_, fun w' pC qp pX => ?_⟩
     ·exact (mapM_flat (g := fun i => DataW.trod enc P w base sp held fu e ((cs.drop (i * P.cellsOf e)).take (P.cellsOf e))) _ _ aa fun f _ y ag => ⟨(cF e au w base sp held _ y ag).1, (cF e au w base sp held _ y ag).2 w base sp held⟩).1
     ·have := mapM_flat (g := fun i => DataW.trod enc P w' pC qp pX fu e ((cs.drop (i * P.cellsOf e)).take (P.cellsOf e))) _ _ aa fun f _ y ag => ⟨(cF e au w base sp held _ y ag).1, (cF e au w base sp held _ y ag).2 w' pC qp pX⟩;rw [if_pos ak, this.2];simp only [hD, this.1]
    ·cases h
   | _ => cases au
theorem WD {d : Nat} {t : TypeId} (au : w1 P d t = true) {w : World} {base : Nat} {sp : Nat → Bool} {held : Bool} {v : Value} {D : DataW H} {p : List MemPlace} (h : DataW.Trod enc P w base sp held t v D p) :
  p = [] ∧ ∀ (w' : World) (pC : Nat) (qp : Nat → Bool) (pX : Bool), DataW.Trod enc P w' pC qp pX t v D [] := by
 obtain ⟨fu, h⟩ := h;obtain ⟨h1, h2⟩ := Ma d t au fu w base sp held _ _ h;exact ⟨h1, fun w' pC qp pX => ⟨fu, h2 w' pC qp pX⟩⟩
end
section
variable {P : Program} {W : World} {r : Reach} {b : Nat} {t : TypeId} {v : Value}
theorem Ps {k : IntKind} (hu : P.underlying t = some (.int k)) (h : Cell.okWide P W r b t v) : ∃ n, v = .int k n ∧ k.min ≤ n ∧ n ≤ k.max := by
 unfold Cell.okWide Cell.ok at h;rw [hu] at h;cases v <;> simp only at h;rename_i k' n;obtain ⟨rfl, h⟩ := h;exact ⟨n, rfl, by simpa [IntKind.has] using h⟩
def Ky (P : Program) (t : TypeId) (n : Nat) (ts : List TypeId) : Bool :=
 (match P.underlying t with | some (.struct _) | some (.array _ _) => true | _ => false) && (P.cellsOf t == n) && (P.cellTypes P.depth t == some ts) && (ts.length == n) && (0 < n)
theorem ace {n : Nat} {ts : List TypeId} (eY : Ky P t n ts = true) (h : Value.okWide P W r b t v) : ∃ cs : List Value, v = .agg cs.toArray ∧ cs.length = n ∧ ∀ (i : Nat) (u : TypeId) (c : Value), ts[i]? = some u → cs[i]? = some c → Cell.okWide P W r b u c := by
 unfold Ky at eY;simp only [eo, beq_iff_eq, c0] at eY;obtain ⟨⟨⟨⟨h1, h2⟩, aq⟩, aK⟩, cO⟩ := eY
 have key : ∃ cs : Array Value, v = .agg cs ∧ cs.size = P.cellsOf t ∧ Row.okWide P W r b t cs := by
  unfold Value.okWide at h
  split at h
  ·exact h
  ·exact h
  ·exfalso
   split at h1
   ·rename_i hu; rename_i ek _ _ ; exact absurd hu (by simp_all)
   ·simp_all
   ·cases h1
 obtain ⟨cs, rfl, hs, ol, aG, _, ak⟩ := key;rw [aq] at aG;cases aG;refine ⟨cs.toList, by simp, by simp [hs, h2], fun i u c hu qU => ?_⟩;have bj : i < ts.length := (bV.1 hu).1;obtain ⟨kF, q1, q2⟩ := ak i c (by simpa using qU);rw [Nat.mod_eq_of_lt bj, hu] at q1;cases q1;exact q2
end
theorem aaK {α : Type} {cs : List α} (h : cs.length = 2) : ∃ a b, cs = [a, b] := by match cs, h with | [a, b], _ => exact ⟨a, b, rfl⟩
end Go.Proofs.YtpochbhajmbfdaaGreat
namespace Go.Proofs.YtpochbhajmbfdaaGreat
open Go.RowKit
theorem Xb {P v : Int} (fp : 0 < P) : 2 * ((2 * v + P) / (2 * P) * P) ≤ 2 * v + P ∧ 2 * v + P < 2 * ((2 * v + P) / (2 * P) * P) + 2 * P := by
 have h1 := sU (2 * v + P) (2 * P);have h2 := pj (2 * v + P) (show 2 * P ≠ 0 by omega);have aq := oe (2 * v + P) (show 0 < 2 * P by omega);have e : 2 * P * ((2 * v + P) / (2 * P)) = 2 * ((2 * v + P) / (2 * P) * P) := by rw [lU, ka P]
 omega
theorem Hi {a1 a2 b1 b2 q1 q2 : Int} {r : Nat} (ap : r ≤ 28) : xk a1 a2 b1 b2 q1 q2 r = true ↔ e3 r q1 q2 = true ∧ xB a1 a2 b1 b2 (2 * (2 ^ r * q1) - 2 ^ r) (2 * (2 ^ r * q2) - 2 ^ r) (2 * (2 ^ r * q1) + 2 ^ r) (2 * (2 ^ r * q2) + 2 ^ r) 0 = true := by unfold xk; grind
def q9 (a1 a2 b1 b2 k : Int) (p : an) : Bool := xk a1 a2 b1 b2 p.1 p.2 k
end Go.Proofs.YtpochbhajmbfdaaGreat
namespace Go.Proofs.YtpochbhajmbfdaaGreat
def sM (a b x y1 t : Rat) : Prop := -y1 ≤ 2 * a + t * (2 * (b - a)) - x ∧ 2 * a + t * (2 * (b - a)) - x ≤ y1
def ny (S p q x u : Rat) : Prop := 2 * (S * x) - S ≤ 2 * (S * p + u * (S * q - S * p)) ∧ 2 * (S * p + u * (S * q - S * p)) < 2 * (S * x) + S
theorem Pd {a b p q x S d t1 t2 u : Rat} (h1 : sM a b (2 * (S * p)) (d * S) t1) (h2 : sM a b (2 * (S * q)) (d * S) t2) (kG : 0 ≤ u) (cP : u ≤ 1) (hm : ny S p q x u) : sM a b (2 * (S * x)) ((d + 1) * S) (t1 + u * (t2 - t1)) := by
 obtain ⟨a1, a2⟩ := h1;obtain ⟨b1, b2⟩ := h2;obtain ⟨m1, m2⟩ := hm;have v0 : 0 ≤ 1 - u := by grind
 have bC := kB v0 (show 0 ≤ 2 * a + t1 * (2 * (b - a)) - 2 * (S * p) + d * S by grind);have cf := kB v0 (show 0 ≤ d * S - (2 * a + t1 * (2 * (b - a)) - 2 * (S * p)) by grind);have h5 := kB kG (show 0 ≤ 2 * a + t2 * (2 * (b - a)) - 2 * (S * q) + d * S by grind);have jD := kB kG (show 0 ≤ d * S - (2 * a + t2 * (2 * (b - a)) - 2 * (S * q)) by grind)
 constructor
 ·grind
 ·grind
theorem Pe {a b x f g t : Rat} (xg : f ≤ g) (h : sM a b x f t) : sM a b x g t := by
 obtain ⟨h1, h2⟩ := h
 constructor <;> grind
abbrev bt (n : Int) : Rat := (n : Rat)
def xJ (a1 a2 b1 b2 S : Int) (y1 t : Rat) (v : an) : Prop := sM (bt a1) (bt b1) (2 * (bt S * bt v.1)) y1 t ∧ sM (bt a2) (bt b2) (2 * (bt S * bt v.2)) y1 t
def qA (S : Int) (p q : an) (u : Rat) (x : an) : Prop := (0 ≤ u ∧ u ≤ 1) ∧ ny (bt S) (bt p.1) (bt q.1) (bt x.1) u ∧ ny (bt S) (bt p.2) (bt q.2) (bt x.2) u
theorem abT {a1 a2 b1 b2 S : Int} {d t1 t2 u : Rat} {p q x : an} (h1 : xJ a1 a2 b1 b2 S (d * bt S) t1 p) (h2 : xJ a1 a2 b1 b2 S (d * bt S) t2 q) (hm : qA S p q u x) : xJ a1 a2 b1 b2 S ((d + 1) * bt S) (t1 + u * (t2 - t1)) x :=
 ⟨Pd h1.1 h2.1 hm.1.1 hm.1.2 hm.2.1, Pd h1.2 h2.2 hm.1.1 hm.1.2 hm.2.2⟩
theorem abU {a1 a2 b1 b2 S : Int} {f g t : Rat} {v : an} (xg : f ≤ g) (h : xJ a1 a2 b1 b2 S f t v) : xJ a1 a2 b1 b2 S g t v := ⟨Pe xg h.1, Pe xg h.2⟩
theorem rs {a b : Int} : bt a ≤ bt b ↔ a ≤ b := Rat.intCast_le_intCast
theorem Ja {a b : Int} : bt a < bt b ↔ a < b := Rat.intCast_lt_intCast
theorem qm {a : Int} (h : 0 < a) : 0 < bt a := by have := Ja.2 h; simpa [bt] using this
theorem EA {a b : Int} (h : a < b) : bt a + 1 ≤ bt b := by
 have := rs.2 (show a + 1 ≤ b from h);simpa [bt, sW] using this
theorem OM {S p q x y : Int} {u w : Rat} (hS : 0 < S) (aa : ny (bt S) (bt p) (bt q) (bt x) u) (ag : ny (bt S) (bt p) (bt q) (bt y) w) (lh : x < y) (iq : p ≤ q) : u ≤ w := by
 have eP := qm hS;obtain ⟨dh, dE⟩ := aa;obtain ⟨lW, rG⟩ := ag;have h1 := EA lh;have h2 := rs.2 iq;have bC := kB (Rat.le_of_lt eP) (show 0 ≤ bt y - (bt x + 1) by grind);refine Rat.not_lt.1 fun Zf => ?_;have cf := kB (show 0 ≤ u - w by grind) (kB (Rat.le_of_lt eP) (show 0 ≤ bt q - bt p by grind));grind
theorem OL {S p q x y : Int} {u w : Rat} (hS : 0 < S) (aa : ny (bt S) (bt p) (bt q) (bt x) u) (ag : ny (bt S) (bt p) (bt q) (bt y) w) (lh : y < x) (iq : q ≤ p) : u ≤ w := by
 have eP := qm hS;obtain ⟨dh, dE⟩ := aa;obtain ⟨lW, rG⟩ := ag;have h1 := EA lh;have h2 := rs.2 iq;have bC := kB (Rat.le_of_lt eP) (show 0 ≤ bt x - (bt y + 1) by grind);refine Rat.not_lt.1 fun Zf => ?_;have cf := kB (show 0 ≤ u - w by grind) (kB (Rat.le_of_lt eP) (show 0 ≤ bt p - bt q by grind));grind
theorem DX {S p q x y : Int} {u w : Rat} (hS : 0 < S) (aa : ny (bt S) (bt p) (bt q) (bt x) u) (ag : ny (bt S) (bt p) (bt q) (bt y) w) (sx : u ≤ w) (iq : p ≤ q) : x ≤ y := by
 have eP := qm hS;obtain ⟨dh, dE⟩ := aa;obtain ⟨lW, rG⟩ := ag;refine Int.not_lt.1 fun HW => ?_;have h1 := EA HW;have h2 := rs.2 iq;have bC := kB (Rat.le_of_lt eP) (show 0 ≤ bt x - (bt y + 1) by grind);have cf := kB (show 0 ≤ w - u by grind) (kB (Rat.le_of_lt eP) (show 0 ≤ bt q - bt p by grind));grind
theorem DW {S p q x y : Int} {u w : Rat} (hS : 0 < S) (aa : ny (bt S) (bt p) (bt q) (bt x) u) (ag : ny (bt S) (bt p) (bt q) (bt y) w) (sx : u ≤ w) (iq : q ≤ p) : y ≤ x := by
 have eP := qm hS;obtain ⟨dh, dE⟩ := aa;obtain ⟨lW, rG⟩ := ag;refine Int.not_lt.1 fun HW => ?_;have h1 := EA HW;have h2 := rs.2 iq;have bC := kB (Rat.le_of_lt eP) (show 0 ≤ bt y - (bt x + 1) by grind);have cf := kB (show 0 ≤ w - u by grind) (kB (Rat.le_of_lt eP) (show 0 ≤ bt p - bt q by grind));grind
theorem OJ {S p q : Int} (hS : 0 < S) : ny (bt S) (bt p) (bt q) (bt p) 0 := by
 have eP := qm hS
 constructor <;> grind
theorem OK {S p q : Int} (hS : 0 < S) : ny (bt S) (bt p) (bt q) (bt q) 1 := by
 have eP := qm hS
 constructor <;> grind
theorem DV {S p q x : Int} {u : Rat} (hS : 0 < S) (aI : 0 ≤ u) (h1 : u ≤ 1) (aa : ny (bt S) (bt p) (bt q) (bt x) u) : (p ≤ q → p ≤ x ∧ x ≤ q) ∧ (q ≤ p → q ≤ x ∧ x ≤ p) :=
 ⟨fun h => ⟨DX hS (OJ hS) aa aI h, DX hS aa (OK hS) h1 h⟩, fun h => ⟨DW hS aa (OK hS) h1 h, DW hS (OJ hS) aa aI h⟩⟩
theorem OE {S : Int} {p q x y : an} {u w : Rat} (hS : 0 < S) (aa : qA S p q u x) (ag : qA S p q w y) (h : dL (decide (S * q.1 < S * p.1)) (decide (S * q.2 < S * p.2)) x y = true) : u ≤ w := by
 have aG : (S * q.1 < S * p.1) ↔ q.1 < p.1 := ⟨fun h => Int.lt_of_mul_lt_mul_left h (by omega), fun h => Int.mul_lt_mul_of_pos_left h hS⟩;have aO : (S * q.2 < S * p.2) ↔ q.2 < p.2 := ⟨fun h => Int.lt_of_mul_lt_mul_left h (by omega), fun h => Int.mul_lt_mul_of_pos_left h hS⟩;rw [yt] at h;simp only [c0, aG, aO] at h;rcases h with h | ⟨he, h⟩
 ·by_cases g : q.1 < p.1
  ·rw [if_pos g] at h; exact OL hS aa.2.1 ag.2.1 h (by omega)
  ·rw [if_neg g] at h; exact OM hS aa.2.1 ag.2.1 h (by omega)
 ·by_cases g : q.2 < p.2
  ·rw [if_pos g] at h; exact OL hS aa.2.2 ag.2.2 h (by omega)
  ·rw [if_neg g] at h; exact OM hS aa.2.2 ag.2.2 h (by omega)
theorem YG {a b l n d u : Rat} (d0 : 0 < d) (hu : u * d = n) (h : 0 ≤ (2 * a - l) * (d - n) + (2 * b - l) * n) : l ≤ 2 * (a + u * (b - a)) := by
 subst hu;refine Rat.not_lt.1 fun bj => ?_;have k := Rat.mul_pos d0 (show 0 < l - 2 * (a + u * (b - a)) by grind);grind
theorem YH {a b l n d u : Rat} (d0 : 0 < d) (hu : u * d = n) (h : 0 < (l - 2 * a) * (d - n) + (l - 2 * b) * n) : 2 * (a + u * (b - a)) < l := by
 subst hu;refine Rat.not_le.1 fun bj => ?_;have k := kB (Rat.le_of_lt d0) (show 0 ≤ 2 * (a + u * (b - a)) - l by grind);grind
theorem Ez {n d : Int} (hd : 0 < d) : bt n / bt d * bt d = bt n := Rat.div_mul_cancel (by have := qm hd; grind)
theorem M4 {a b l : Int} {n d : Int} (hd : 0 < d) (h : jN (2 * a - l) (2 * b - l) true n d) : bt l ≤ 2 * (bt a + bt n / bt d * (bt b - bt a)) := by
 have h1 : 0 ≤ (2 * a - l) * (d - n) + (2 * b - l) * n := by rcases h with h | ⟨_, h⟩ <;> omega
 refine YG (qm hd) (Ez hd) ?_;have := rs.2 h1;simpa [bt, sW, Rat.intCast_mul, Rat.intCast_sub] using this
theorem M5 {a b l : Int} {n d : Int} (hd : 0 < d) (h : jN (l - 2 * a) (l - 2 * b) false n d) : 2 * (bt a + bt n / bt d * (bt b - bt a)) < bt l := by
 have h1 : 0 < (l - 2 * a) * (d - n) + (l - 2 * b) * n := by
  rcases h with h | ⟨h, _⟩
  ·exact h
  ·cases h
 refine YH (qm hd) (Ez hd) ?_;have := Ja.2 h1;simpa [bt, sW, Rat.intCast_mul, Rat.intCast_sub] using this
theorem abe {r : Nat} (ap : r ≤ 28) {p q x : an} (h : q9 (2 ^ r * p.1) (2 ^ r * p.2) (2 ^ r * q.1) (2 ^ r * q.2) r x = true) : e3 r x.1 x.2 = true ∧ ∃ u, qA (2 ^ r) p q u x := by
 unfold q9 at h;rw [Hi ap] at h;refine ⟨h.1, ?_⟩;obtain ⟨_, n, d, hd, ⟨zu, vx⟩, g1, g2, g3, g4⟩ := Ip.1 h.2;have d0 := qm hd;refine ⟨bt n / bt d, ⟨?_, ?_⟩, ⟨?_, ?_⟩, ?_, ?_⟩
 ·refine Rat.not_lt.1 fun bj => ?_;have k := Rat.mul_pos d0 (show 0 < -(bt n / bt d) by grind);have e := Ez (n := n) hd;have mU := rs.2 zu;have z : bt 0 = 0 := by simp [bt]
  rw [z] at mU;generalize bt n / bt d = u at *;grind
 ·refine Rat.not_lt.1 fun bj => ?_;have k := Rat.mul_pos d0 (show 0 < bt n / bt d - 1 by grind);have e := Ez (n := n) hd;have hy := rs.2 vx;generalize bt n / bt d = u at *;grind
 ·have := M4 hd g1;simpa [bt, sW, Rat.intCast_mul, Rat.intCast_sub] using this
 ·have := M5 hd g3;simpa [bt, sW, Rat.intCast_mul, Rat.intCast_sub] using this
 ·have := M4 hd g2;simpa [bt, sW, Rat.intCast_mul, Rat.intCast_sub] using this
 ·have := M5 hd g4;simpa [bt, sW, Rat.intCast_mul, Rat.intCast_sub] using this
def pK (p q : an) (out : List an) (x : an) : List an := if x ≠ p ∧ x ≠ q ∧ out.getLast? ≠ some x then out ++ [x] else out
def Ly (p q : an) (l : List an) : List an := l.foldl (pK p q) []
theorem NI {fx fy : Bool} {q : an} : ∀ {l : List an}, l.Pairwise (fun a b => dL fx fy b a = false) → (mh fx fy q l).Pairwise fun a b => dL fx fy b a = false
 | [], _ => by unfold mh; simp
 | p :: l, h => by
  have ak := js.1 h;unfold mh
  split
  ·rename_i al;refine js.2 ⟨fun r ap => ?_, h⟩;rcases hf.1 ap with rfl | ap
   ·exact KA al
   ·cases a6 : dL fx fy r q with
    | false => rfl
    | true => have := ak.1 r ap; rw [yu a6 al] at this; cases this
  ·rename_i al;refine js.2 ⟨fun r ap => ?_, NI ak.2⟩;rcases hf.1 ((zS fx fy q l).mem_iff.1 ap) with rfl | ap
   ·simpa using al
   ·exact ak.1 r ap
theorem afq (fx fy : Bool) (f : an → Bool) (l : List an) : (rC fx fy f l).Pairwise fun a b => dL fx fy b a = false := by
 have key : ∀ (l out : List an), out.Pairwise (fun a b => dL fx fy b a = false) → (l.foldl (fun out q => if f q then mh fx fy q out else out) out).Pairwise fun a b => dL fx fy b a = false := by
  intro l
  induction l with
  | nil => intro out h; exact h
  | cons q l cF =>
   intro out h;rw [List.foldl_cons];refine cF _ ?_
   split
   ·exact NI h
   ·exact h
 exact key l [] .nil
theorem Gj {fx fy : Bool} {p q : an} : ∀ (l out : List an), kg fx fy out → (∀ a ∈ out, ∀ b ∈ l, dL fx fy b a = false) → l.Pairwise (fun a b => dL fx fy b a = false) → kg fx fy (l.foldl (pK p q) out) ∧ (∀ x ∈ l.foldl (pK p q) out, x ∈ out ∨ (x ∈ l ∧ x ≠ p ∧ x ≠ q)) ∧ (l.foldl (pK p q) out).length ≤ out.length + l.length
 | [], out, h, _, _ => ⟨h, fun x aa => .inl aa, dU _⟩
 | x :: l, out, h, hw, ao => by
  have ak := js.1 ao;rw [List.foldl_cons]
  by_cases aa : x ≠ p ∧ x ≠ q ∧ out.getLast? ≠ some x
  ·have e : pK p q out x = out ++ [x] := by unfold pK; rw [if_pos aa]
   rw [e]
   have aL : kg fx fy (out ++ [x]) := by
    unfold kg;rw [List.pairwise_append];refine ⟨h, List.pairwise_singleton _ _, fun a aL b ab => ?_⟩;rw [mu] at ab;subst ab;have h1 := hw a aL b (lS ..)
    by_cases nr : a = b
    ·subst nr;rcases List.eq_nil_or_concat out with aI | ⟨fO, z, aI⟩
     ·subst aI; cases aL
     ·rw [List.concat_eq_append] at aI;subst aI;have aZ : z ≠ a := fun a6 => aa.2.2 (by rw [a6]; simp)
      have pU : a ∈ fO := by
       rcases ms.1 aL with aF | aF
       ·exact aF
       ·exact absurd (mu.1 aF).symm aZ
      have h2 := (List.pairwise_append.1 h).2.2 a pU z (mu.2 rfl);have aq := hw z (by simp) a (lS ..);rw [h2] at aq; cases aq
    ·exact (FT nr).resolve_right (by rw [h1]; decide)
   obtain ⟨g1, g2, g3⟩ := Gj l (out ++ [x]) aL (fun a pU b ab => by
    rcases ms.1 pU with aF | aF
    ·exact hw a aF b (qc _ ab)
    ·rw [mu.1 aF]; exact ak.1 b ab) ak.2
   refine ⟨g1, fun y ag => ?_, by rw [dl, List.length_singleton] at g3; simp only [mq]; omega⟩;rcases g2 y ag with aF | aF
   ·rcases ms.1 aF with aF | aF
    ·exact .inl aF
    ·rw [mu.1 aF]; exact .inr ⟨lS .., aa.1, aa.2.1⟩
   ·exact .inr ⟨qc _ aF.1, aF.2⟩
  ·have e : pK p q out x = out := by unfold pK; rw [if_neg aa]
   rw [e];obtain ⟨g1, g2, g3⟩ := Gj l out h (fun a pU b ab => hw a pU b (qc _ ab)) ak.2;refine ⟨g1, fun y ag => ?_, by simp only [mq]; omega⟩;rcases g2 y ag with aF | aF
   ·exact .inl aF
   ·exact .inr ⟨qc _ aF.1, aF.2⟩
def r1 (r : Nat) (l : List an) (p q : an) : List an := Ly p q (rC (decide ((2 : Int) ^ r * q.1 < 2 ^ r * p.1)) (decide ((2 : Int) ^ r * q.2 < 2 ^ r * p.2)) (q9 (2 ^ r * p.1) (2 ^ r * p.2) (2 ^ r * q.1) (2 ^ r * q.2) r) l)
theorem B4 {r : Nat} (ap : r ≤ 28) (l : List an) (p q : an) : kg (decide ((2 : Int) ^ r * q.1 < 2 ^ r * p.1)) (decide ((2 : Int) ^ r * q.2 < 2 ^ r * p.2)) (r1 r l p q) ∧ (∀ x ∈ r1 r l p q, (x ≠ p ∧ x ≠ q) ∧ e3 r x.1 x.2 = true ∧ ∃ u, qA (2 ^ r) p q u x) ∧ (r1 r l p q).length ≤ l.length := by
 obtain ⟨g1, g2, g3⟩ := Gj (p := p) (q := q) _ [] (List.Pairwise.nil : kg (decide ((2 : Int) ^ r * q.1 < 2 ^ r * p.1)) (decide ((2 : Int) ^ r * q.2 < 2 ^ r * p.2)) []) (fun a aL => by cases aL) (afq _ _ (q9 (2 ^ r * p.1) (2 ^ r * p.2) (2 ^ r * q.1) (2 ^ r * q.2) r) l);refine ⟨g1, fun x aa => ?_, ?_⟩
 ·rcases g2 x aa with h | ⟨h1, h2⟩
  ·cases h
  ·have aq := (List.mem_filter.1 ((EV _ _ _ l).mem_iff.1 h1)).2;exact ⟨h2, abe ap aq⟩
 ·refine lT g3 ?_;rw [List.length_nil, jr];exact afp _ _ _ l
def il (R : an → an → Prop) : List an → Prop
 | p :: q :: W => R p q ∧ il R (q :: W)
 | _ => True
theorem Gf {R : an → an → Prop} : ∀ {l : List an}, l.Pairwise R → il R l
 | [], _ => trivial
 | [_], _ => trivial
 | p :: q :: W, h => by
  have ak := js.1 h;exact ⟨ak.1 q (lS ..), Gf ak.2⟩
theorem Ge {R : an → an → Prop} {q : an} {W : List an} : ∀ {A : List an}, il R (A ++ [q]) → il R (q :: W) → il R (A ++ q :: W)
 | [], _, h => h
 | [a], h, aF => ⟨h.1, aF⟩
 | a :: b :: A, h, aF => ⟨h.1, Ge (A := b :: A) h.2 aF⟩
theorem B5 {r : Nat} (ap : r ≤ 28) (l : List an) (p q : an) {R : an → an → Prop} (aI : R p q) (h1 : ∀ x, (∃ u, qA (2 ^ r) p q u x) → R p x ∧ R x q) (h2 : ∀ x y u w, qA (2 ^ r) p q u x → qA (2 ^ r) p q w y → u ≤ w → R x y) : il R (p :: (r1 r l p q ++ [q])) := by
 obtain ⟨s1, s2, _⟩ := B4 ap l p q;have hS : (0 : Int) < 2 ^ r := kb (by decide);refine Gf (js.2 ⟨fun x aa => ?_, List.pairwise_append.2 ⟨s1.imp_of_mem fun {x y} aa ag lh => ?_, List.pairwise_singleton _ _, fun x aa y ag => ?_⟩⟩)
 ·rcases ms.1 aa with aa | aa
  ·exact (h1 x (s2 x aa).2.2).1
  ·rw [mu.1 aa]; exact aI
 ·obtain ⟨u, hu⟩ := (s2 x aa).2.2;obtain ⟨w, hw⟩ := (s2 y ag).2.2;exact h2 x y u w hu hw (OE hS hu hw lh)
 ·rw [mu.1 ag]; exact (h1 x (s2 x aa).2.2).2
theorem Uh {r : Nat} (ap : r ≤ 28) (l : List an) (p q : an) (h : p ≠ q) : il (· ≠ ·) (p :: (r1 r l p q ++ [q])) := by
 obtain ⟨s1, s2, _⟩ := B4 ap l p q;refine Gf (js.2 ⟨fun x aa => ?_, List.pairwise_append.2 ⟨s1.imp fun {x y} lh e => ?_, List.pairwise_singleton _ _, fun x aa y ag => ?_⟩⟩)
 ·rcases ms.1 aa with aa | aa
  ·exact fun e => (s2 x aa).1.1 e.symm
  ·rw [mu.1 aa]; exact h
 ·subst e; rw [KB] at lh; cases lh
 ·rw [mu.1 ag]; exact (s2 x aa).1.2
def EW (V : List an) (j : Nat) (l : List an) : List an := V.take (j + 1) ++ l ++ V.drop (j + 1)
def AX (D : List Int) (j : Nat) (n : Nat) : List Int := D.take j ++ List.replicate (n + 1) (D.getD j 0 + 1) ++ D.drop (j + 1)
theorem VQ {V : List an} {j : Nat} {p q : an} (hp : V[j]? = some p) (al : V[j + 1]? = some q) : V.drop j = p :: q :: V.drop (j + 2) := by
 obtain ⟨h1, aG⟩ := bV.1 hp;obtain ⟨h2, aO⟩ := bV.1 al;rw [mr h1, aG, mr h2, aO]
end Go.Proofs.YtpochbhajmbfdaaGreat
namespace Go.Proofs.YtpochbhajmbfdaaGreat
open Go.RowKit
def pd (a b c d : Int) : Int := if dZ a b c d = true then 0 else if a < c ∨ (a = c ∧ b < d) then -1 else 1
theorem adq {a b c d : Int} : aT aj 242 [bh a b, bh c d] (aV (pd a b c d)) := by
 have cs : (dZ a b c d = true ∧ pd a b c d = 0) ∨ (dZ a b c d = false ∧ a < c ∧ pd a b c d = -1) ∨ (dZ a b c d = false ∧ ¬ a < c ∧ a = c ∧ b < d ∧ pd a b c d = -1) ∨ (dZ a b c d = false ∧ ¬ a < c ∧ a = c ∧ ¬ b < d ∧ pd a b c d = 1) ∨ (dZ a b c d = false ∧ ¬ a < c ∧ ¬ a = c ∧ pd a b c d = 1) := by
  unfold pd;cases h : dZ a b c d with
  | true => simp
  | false =>
   by_cases h1 : a < c <;> by_cases h2 : a = c <;> by_cases aq : b < d <;> simp [h1, h2, aq] <;> omega
 rcases cs with ⟨h1, h⟩ | ⟨h1, h2, h⟩ | ⟨h1, h2, aq, aK, h⟩ | ⟨h1, h2, aq, aK, h⟩ | ⟨h1, h2, aq, h⟩ <;> rw [h] <;> clear h
 all_goals
  refine cd (f := 242) Tryz.func242 rfl rfl rfl rfl ?_;(repeat first | (with_reducible apply ax); rfl | (with_reducible apply gf); (iterate 4 rfl) | (with_reducible apply bW (c := true)); rfl; rfl; (exact bg (by omega)) | (with_reducible apply bW (c := false)); rfl; rfl; (exact bl (by omega)) | (with_reducible first | apply bR | apply bJ | apply bO | apply ay | apply b7 | apply eU | apply fL | apply gg | apply lA | apply k4) | (with_reducible apply gU); rfl | (with_reducible apply fZ); rfl; (first | assumption | exact bg (by omega)) | (with_reducible apply gT); rfl; (first | assumption | exact bl (by omega)))
  ((refine bX rfl (bG rfl bc) ?_))
  exact ai.br.refl _
theorem PY {n m : Int} (aI : -9223372036854775808 ≤ n) (h1 : n < 9223372036854775808) (jj : -9223372036854775808 ≤ m) (bC : m < 9223372036854775808) : aT aj 222 [aV n, aV m] (rF (n * m)) :=
 nz [.int .i64 n, .int .i64 m] (fH (n * m)) rfl rfl rfl rfl rfl fun W => (Tf n m W aI h1 jj bC).mono fun e w' h => aeL h
theorem Wf (a b c d a' bT c' d' : Int) (W : World) : (Op.equalIn 10000 216 (.agg #[.int .i64 a, .int .i64 b, .int .i64 c, .int .i64 d]) (.agg #[.int .i64 a', .int .i64 bT, .int .i64 c', .int .i64 d'])).run aj W = .ok (vh a b c d a' bT c' d') W := by
 unfold vh dZ
 go_simp
 by_cases h1 : a = a' <;> by_cases h2 : b = bT <;> by_cases aq : c = c' <;> by_cases aK : d = d' <;> simp [h1, h2, aq, aK]
instance aia : JR aj 216 := ⟨by kernel_rfl, Wf⟩
theorem adw {a b c d : Int} : (pd a b c d > 0 ↔ ¬ dz a b c d) := by
 unfold pd dz;cases h : dZ a b c d with
 | true => rw [sc] at h; rw [if_pos rfl]; omega
 | false =>
  have : ¬ (a = c ∧ b = d) := fun k => by rw [sc.2 k] at h; cases h
  rw [if_neg (by simp)]
  split <;> omega
theorem IU {a1 a2 b1 b2 : Int} : aT aj 217 [bh a1 a2, bh b1 b2] (.da [.agg [.c (.int .i64 (eS a1 a2 b1 b2)), .c (.int .i64 (ey a1 a2 b1 b2))], .agg [.c (.int .i64 (eD a1 a2 b1 b2)), .c (.int .i64 (ea a1 a2 b1 b2))]]) := by
 have aM := adq (a := a1) (b := a2) (c := b1) (d := b2);have h := adw (a := a1) (b := a2) (c := b1) (d := b2)
 have cs : (pd a1 a2 b1 b2 > 0 ∧ eS a1 a2 b1 b2 = b1 ∧ ey a1 a2 b1 b2 = b2 ∧ eD a1 a2 b1 b2 = a1 ∧ ea a1 a2 b1 b2 = a2) ∨ (¬ pd a1 a2 b1 b2 > 0 ∧ eS a1 a2 b1 b2 = a1 ∧ ey a1 a2 b1 b2 = a2 ∧ eD a1 a2 b1 b2 = b1 ∧ ea a1 a2 b1 b2 = b2) := by
  rw [h];unfold eS ey eD ea
  by_cases k : dz a1 a2 b1 b2 <;> simp [k]
 clear h;generalize eS a1 a2 b1 b2 = l1 at *;generalize ey a1 a2 b1 b2 = l2 at *;generalize eD a1 a2 b1 b2 = h1 at *;generalize ea a1 a2 b1 b2 = h2 at *;generalize pd a1 a2 b1 b2 = c at *;rcases cs with ⟨q, rfl, rfl, rfl, rfl⟩ | ⟨q, rfl, rfl, rfl, rfl⟩
 all_goals
  refine cd (f := 217) Tryz.func217 rfl rfl rfl rfl ?_;(repeat first | (with_reducible apply ax); rfl | refine cI rfl rfl rfl rfl (by (exact aM)) rfl ?_ | (with_reducible apply hH); kernel_rfl | (with_reducible apply hI); kernel_rfl; kernel_rfl; rfl | (with_reducible first | apply bR | apply bJ | apply bO | apply ay | apply b7 | apply eU | apply fL) | (with_reducible apply fZ); rfl; (exact bg (by omega)) | (with_reducible apply gT); rfl; (exact bl (by omega)))
  ((refine bX rfl (fj rfl rfl rfl (fj rfl rfl rfl bc)) ?_))
  exact ai.br.refl _
theorem Ej {a1 a2 b1 b2 : Int} : aT aj 172 [bh a1 a2, bh b1 b2] (jt (eS a1 a2 b1 b2) (ey a1 a2 b1 b2) (eD a1 a2 b1 b2) (ea a1 a2 b1 b2)) := by
 have aM := IU (a1 := a1) (a2 := a2) (b1 := b1) (b2 := b2);generalize eS a1 a2 b1 b2 = l1 at *;generalize ey a1 a2 b1 b2 = l2 at *;generalize eD a1 a2 b1 b2 = h1 at *;generalize ea a1 a2 b1 b2 = h2 at *;refine cd (f := 172) Tryz.func172 rfl rfl rfl rfl ?_;(repeat first | (with_reducible apply ax); rfl | refine cI rfl rfl rfl rfl (by (exact aM)) rfl ?_ | (with_reducible first | apply bR | apply bJ | apply bO | apply ay | apply b7))
 ((refine bX rfl (fj rfl rfl rfl bc) ?_))
 exact ai.br.refl _
theorem Ei {s1 s2 bY b3 p1 p2 : Int} (h1 : ep s1 s2 = true) (h2 : ep bY b3 = true) (aq : ep p1 p2 = true) : aT aj 173 [jt s1 s2 bY b3, bh p1 p2] (aV (ct s1 s2 bY b3 p1 p2)) := by
 have aM := PF h1 h2 aq;clear h1 h2 aq;generalize ct s1 s2 bY b3 p1 p2 = c at *;refine cd (f := 173) Tryz.func173 rfl rfl rfl rfl ?_;(repeat first | (with_reducible apply ax); rfl | refine eR rfl rfl rfl rfl rfl (by (exact aM)) rfl ?_ | (with_reducible first | apply bR | apply bJ | apply bO | apply ay | apply b7))
 ((refine bX rfl (bG rfl bc) ?_))
 exact ai.br.refl _
theorem acf {s1 s2 bY b3 p1 p2 : Int} (h1 : ep s1 s2 = true) (h2 : ep bY b3 = true) (aq : ep p1 p2 = true) : Ef p1 p2 s1 s2 bY b3 = decide (dx p1 p2 s1 s2 bY b3) := by
 rw [sR, c0];unfold Ef dx sE;rw [h1, h2, aq];simp only [rq, eo, c0, Xq]
 constructor
 ·rintro ⟨⟨a, b, c, d⟩, e⟩; exact ⟨e, a, b, c, d⟩
 ·rintro ⟨e, a, b, c, d⟩; exact ⟨⟨a, b, c, d⟩, e⟩
theorem PO {s1 s2 bY b3 p1 p2 : Int} (h1 : ep s1 s2 = true) (h2 : ep bY b3 = true) (aq : ep p1 p2 = true) : aT aj 219 [jt s1 s2 bY b3, bh p1 p2] (bD (decide (dx p1 p2 s1 s2 bY b3))) := by
 have aM := acL (acf h1 h2 aq);clear h1 h2 aq;generalize decide (dx p1 p2 s1 s2 bY b3) = c at *;refine cd (f := 219) Tryz.func219 rfl rfl rfl rfl ?_;(repeat first | (with_reducible apply ax); rfl | refine eR rfl rfl rfl rfl rfl (by (exact aM)) rfl ?_ | (with_reducible first | apply bR | apply bJ | apply bO | apply ay | apply b7))
 ((refine bX rfl (bG rfl bc) ?_))
 exact ai.br.refl _
theorem PV {m n : Int} {r : Bool} (ap : decide (same m n) = r) : aT aj 175 [aV m, aV n] (bD r) := by
 have cs : (m > 0 ∧ n > 0 ∧ r = true) ∨ (m > 0 ∧ ¬ n > 0 ∧ ¬ m < 0 ∧ r = false) ∨ (¬ m > 0 ∧ m < 0 ∧ n < 0 ∧ r = true) ∨ (¬ m > 0 ∧ m < 0 ∧ ¬ n < 0 ∧ r = false) ∨ (¬ m > 0 ∧ ¬ m < 0 ∧ r = false) := by
  rw [← ap];unfold same
  by_cases h1 : m > 0 <;> by_cases h2 : n > 0 <;> by_cases aq : m < 0 <;> by_cases aK : n < 0 <;> simp [h1, h2, aq, aK] <;> omega
 clear ap;rcases cs with ⟨q1, q2, rfl⟩ | ⟨q1, q2, cj, rfl⟩ | ⟨q1, q2, cj, rfl⟩ | ⟨q1, q2, cj, rfl⟩ | ⟨q1, q2, rfl⟩
 all_goals
  refine cd (f := 175) Tryz.func175 rfl rfl rfl rfl ?_;(repeat first | (with_reducible apply ax); rfl | (with_reducible apply bW (c := true)); rfl; rfl; (exact bg (by omega)) | (with_reducible apply bW (c := false)); rfl; rfl; (exact bl (by omega)) | (with_reducible first | apply bR | apply bJ | apply bO | apply ay | apply b7))
  ((refine bX rfl (bG rfl bc) ?_))
  first | exact ai.br.refl _ | exact ai.br.of_eq (by rw [bg q2]; rfl) | exact ai.br.of_eq (by rw [bg cj]; rfl) | exact ai.br.of_eq (by rw [bl cj]; rfl)
theorem B6 {x A : Int} (h1 : -134217728 ≤ x) (h2 : x ≤ 134217728) (aq : -144115188075855872 ≤ A) (aK : A ≤ 144115188075855872) : -19342813113834066795298816 ≤ x * A ∧ x * A ≤ 19342813113834066795298816 := by
 have := IB h1 h2 aq aK;omega
theorem PZ {l h A B n d : Int} (ck : A ≠ B) (q5 : -134217728 ≤ l) (l1 : l ≤ 134217728) (aI : -134217728 ≤ h) (h1 : h ≤ 134217728) (bU : -144115188075855872 ≤ A) (hX : A ≤ 144115188075855872) (bp : -144115188075855872 ≤ B) (kI : B ≤ 144115188075855872) (aE : jE (h * A - l * B) (A - B) = n) (hd : iK (A - B) = d) : aT aj 176 [aV l, aV h, aV A, aV B] (fv n d) := by
 have b1 := B6 aI h1 bU hX;have b2 := B6 q5 l1 bp kI;have rX := PY (n := h) (m := A) (by omega) (by omega) (by omega) (by omega);have ti := PY (n := l) (m := B) (by omega) (by omega) (by omega) (by omega);have f1 : fits (h * A) = true := by unfold fits; rw [c0]; omega
 have f2 : fits (l * B) = true := by unfold fits; rw [c0]; omega
 have f3 : fits (h * A - l * B) = true := by unfold fits; rw [c0]; omega
 have f4 : fits (A - B) = true := by unfold fits; rw [c0]; omega
 have Kf := ads f1 f2;have Kg := adr (n := A - B) (by omega) (by omega);simp only [wf, f3, if_true] at Kf
 have Kh : aT aj 223 [rF (h * A - l * B), rF (A - B)] (.da [CI n d, .one (.c (.bool true))]) := by
  by_cases q : A - B < 0
  ·unfold jE at aE;unfold iK at hd;rw [if_pos q] at aE hd;have g1 : fits (-(h * A - l * B)) = true := by unfold fits; rw [c0]; omega
   have g2 : fits (-(A - B)) = true := by unfold fits; rw [c0]; omega
   exact acD f3 f4 q (s := true) (by rw [g1, g2]; rfl) (by rw [if_pos rfl, aE]) (by rw [if_pos rfl, hd])
  ·unfold jE at aE;unfold iK at hd;rw [if_neg q] at aE hd;have := acE f3 f4 (by omega);rw [aE, hd] at this;rw [aE, hd];exact this
 obtain ⟨D, kN⟩ : ∃ D, A - B = D := ⟨_, rfl⟩;have aP : IntKind.i64.wrap (A - B) = D := by rw [← kN]; exact cp (by omega)
 rw [kN] at Kg Kh;clear f1 f2 f3 f4 b1 b2 aE hd kN bU hX bp kI ck;generalize h * A - l * B = X at *;generalize h * A = Y at *;generalize l * B = Z at *;refine cd (f := 176) Tryz.func176 rfl rfl rfl rfl ?_;(repeat first | (with_reducible apply ax); rfl | (with_reducible apply oz); (iterate 3 rfl); (assumption); rfl | refine dj rfl rfl rfl (by (exact Kg)) rfl ?_ | refine cI rfl rfl rfl rfl (by (first | exact rX | exact ti | exact Kf | exact Kh)) rfl ?_ | (with_reducible apply hH); kernel_rfl | (with_reducible apply hI); kernel_rfl; kernel_rfl; rfl | (with_reducible first | apply bR | apply bJ | apply bO | apply ay | apply b7))
 ((refine bX rfl (fj rfl rfl rfl bc) ?_))
 exact ai.br.refl _
instance aib : JS aj 163 0 0 false 1 := ⟨by kernel_rfl⟩
abbrev afX (k n d m e p1 p2 q1 q2 : Int) : ai := .w (.agg [.c (.int .i64 k), .c (.int .i64 (kS n)), .c (.int .u64 (kV n)), .c (.int .i64 (kS d)), .c (.int .u64 (kV d)), .c (.int .i64 (kS m)), .c (.int .u64 (kV m)), .c (.int .i64 (kS e)), .c (.int .u64 (kV e)), .c (.int .i64 p1), .c (.int .i64 p2), .c (.int .i64 q1), .c (.int .i64 q2)])
abbrev oo (M : fP) : ai := afX M.k M.n M.d M.m M.e M.p1 M.p2 M.q1 M.q2
theorem Zv {s1 s2 bY b3 t1 t2 t3 t4 f1 f2 g1 g2 dh dE lW rG : Int} {p q : Bool} {M : fP}
  (J0 : aT aj 217 [bh s1 s2, bh t1 t2] (.da [.agg [.c (.int .i64 dh), .c (.int .i64 dE)], .agg [.c (.int .i64 f1), .c (.int .i64 f2)]]))
  (J1 : aT aj 217 [bh bY b3, bh t3 t4] (.da [.agg [.c (.int .i64 g1), .c (.int .i64 g2)], .agg [.c (.int .i64 lW), .c (.int .i64 rG)]]))
  (H1 : aT aj 219 [jt s1 s2 bY b3, bh f1 f2] (bD p)) (cm : aT aj 219 [jt t1 t2 t3 t4, bh f1 f2] (bD q))
  (kj : aT aj 220 [aV f1] (fv f1 1)) (nI : aT aj 220 [aV f2] (fv f2 1))
  (jz : (if (p && q) = true then vG f1 f2 g1 g2 else h7) = M) : aT aj 174 [jt s1 s2 bY b3, jt t1 t2 t3 t4] (oo M) := by
 unfold vG at jz;have hp : (f1 = g1 ∧ f2 = g2) ↔ dZ f1 f2 g1 g2 = true := sc.symm
 have cs : (p = false ∧ M = h7) ∨ (p = true ∧ q = false ∧ M = h7) ∨ (p = true ∧ q = true ∧ dZ f1 f2 g1 g2 = true ∧ M = jm f1 1 f2 1) ∨ (p = true ∧ q = true ∧ dZ f1 f2 g1 g2 = false ∧ M = tk f1 f2 g1 g2) := by
  rw [← jz];cases al : dZ f1 f2 g1 g2 <;> rw [al] at hp <;> cases p <;> cases q <;> simp [hp]
 clear jz hp;refine cd (f := 174) Tryz.func174 rfl rfl rfl rfl ?_;(repeat first | (with_reducible apply ax); rfl | refine cI rfl rfl rfl rfl (by (first | exact J0 | exact J1)) rfl ?_ | (with_reducible first | apply bR | apply bJ | apply bO | apply ay));clear J0 J1;rcases cs with ⟨rfl, rfl⟩ | ⟨rfl, rfl, rfl⟩ | ⟨rfl, rfl, h, rfl⟩ | ⟨rfl, rfl, h, rfl⟩
 all_goals
  (repeat first | (with_reducible apply ax); rfl | (with_reducible apply gf); (iterate 4 rfl) | refine dj rfl rfl rfl (by (first | exact kj | exact nI)) rfl ?_ | refine cI rfl rfl rfl rfl (by (first | exact H1 | exact cm)) rfl ?_ | (with_reducible apply hH); kernel_rfl | (with_reducible apply hI); kernel_rfl; kernel_rfl; rfl | (with_reducible first | apply bR | apply bJ | apply bO | apply ay | apply b7 | apply eU | apply fL) | (with_reducible apply ik); rfl | (with_reducible apply gU); rfl | (with_reducible apply fZ); rfl; (assumption) | (with_reducible apply gT); rfl; (assumption))
  ((refine bX rfl (fj rfl rfl rfl bc) ?_))
  first | exact ai.br.refl _ | exact ai.br.of_eq (by simp only [h7, zn, Ab]; rfl) | exact ai.br.of_eq (by simp only [tk, zn, Ab]; rfl)
theorem I9 {a1 a2 b1 b2 : Int} (h : cH a1 a2 = true) (k : cH b1 b2 = true) : cH (eD a1 a2 b1 b2) (ea a1 a2 b1 b2) = true := by
 rcases nw a1 a2 b1 b2 with ⟨_, _, aq, aK, _⟩ | ⟨_, _, aq, aK, _⟩ <;> rw [aq, aK] <;> assumption
theorem Qq {a1 a2 b1 b2 : Int} (h : cH a1 a2 = true) (k : cH b1 b2 = true) : cH (eS a1 a2 b1 b2) (ey a1 a2 b1 b2) = true := by
 rcases nw a1 a2 b1 b2 with ⟨aq, aK, _⟩ | ⟨aq, aK, _⟩ <;> rw [aq, aK] <;> assumption
theorem adh {s1 s2 bY b3 t1 t2 t3 t4 : Int} (h1 : cH s1 s2 = true) (h2 : cH bY b3 = true) (aq : cH t1 t2 = true) (aK : cH t3 t4 = true) : aT aj 174 [jt s1 s2 bY b3, jt t1 t2 t3 t4] (oo (inl s1 s2 bY b3 t1 t2 t3 t4)) := by
 have au := I9 h1 aq;have ab := sX.1 au;refine Zv IU IU (PO (lq h1) (lq h2) (lq au)) (PO (lq aq) (lq aK) (lq au)) (PI (by omega) (by omega)) (PI (by omega) (by omega)) ?_;unfold inl;exact zU (by rw [eo, c0, c0])
theorem acY {a1 a2 b1 b2 c1 c2 d1 d2 : Int} (h : (cH a1 a2 && cH b1 b2 && cH c1 c2 && cH d1 d2) = false) : aT aj 119 [bh a1 a2, bh b1 b2, bh c1 c2, bh d1 d2] (oo h7) := by
 have bo := pb (x := a1) (y := a2) rfl;have eT := pb (x := b1) (y := b2) rfl;have kl := pb (x := c1) (y := c2) rfl;have uY := pb (x := d1) (y := d2) rfl
 have cs : cH a1 a2 = false ∨ (cH a1 a2 = true ∧ cH b1 b2 = false) ∨ (cH a1 a2 = true ∧ cH b1 b2 = true ∧ cH c1 c2 = false) ∨ (cH a1 a2 = true ∧ cH b1 b2 = true ∧ cH c1 c2 = true ∧ cH d1 d2 = false) := by
  generalize cH a1 a2 = c3 at *;generalize cH b1 b2 = ec at *;generalize cH c1 c2 = ic at *;generalize cH d1 d2 = rr at *;cases c3 <;> cases ec <;> cases ic <;> cases rr <;> simp_all
 clear h;rcases cs with h1 | ⟨h1, h2⟩ | ⟨h1, h2, aq⟩ | ⟨h1, h2, aq, aK⟩ <;> simp only [*] at bo eT kl uY
 all_goals
  refine cd (f := 119) Tryz.func119 rfl rfl rfl rfl ?_;(repeat first | (with_reducible apply ax); rfl | refine dj rfl rfl rfl (by (first | exact bo | exact eT | exact kl | exact uY)) rfl ?_ | (with_reducible first | apply bR | apply bJ | apply bO | apply ay | apply b7 | apply fL) | (with_reducible apply ik); rfl)
  ((refine bX rfl (fj rfl rfl rfl bc) ?_))
  exact ai.br.of_eq (by simp only [h7, zn, Ab]; rfl)
theorem U8 {a1 a2 b1 b2 c1 c2 d1 d2 s1 s2 bY b3 t1 t2 t3 t4 A B C D n d m e : Int} {x y : Bool} {I M : fP}
  (bo : aT aj 171 [bh a1 a2] (bD true)) (eT : aT aj 171 [bh b1 b2] (bD true)) (kl : aT aj 171 [bh c1 c2] (bD true)) (uY : aT aj 171 [bh d1 d2] (bD true))
  (kI : aT aj 172 [bh a1 a2, bh b1 b2] (jt s1 s2 bY b3)) (qw : aT aj 172 [bh c1 c2, bh d1 d2] (jt t1 t2 t3 t4))
  (jQ : aT aj 173 [jt s1 s2 bY b3, bh t1 t2] (aV A)) (gp : aT aj 173 [jt s1 s2 bY b3, bh t3 t4] (aV B))
  (pz : aT aj 173 [jt t1 t2 t3 t4, bh s1 s2] (aV C)) (u1 : aT aj 173 [jt t1 t2 t3 t4, bh bY b3] (aV D))
  (iA : aT aj 175 [aV A, aV B] (bD x)) (wB : aT aj 175 [aV C, aV D] (bD y))
  (L : aT aj 174 [jt s1 s2 bY b3, jt t1 t2 t3 t4] (oo I))
  (rY : A ≠ B → aT aj 176 [aV t1, aV t3, aV A, aV B] (fv n d)) (u4 : A ≠ B → aT aj 176 [aV t2, aV t4, aV A, aV B] (fv m e))
  (jz : (if A = B then I else if (x || y) = true then h7 else jm n d m e) = M) : aT aj 119 [bh a1 a2, bh b1 b2, bh c1 c2, bh d1 d2] (oo M) := by
 have cs : (A = B ∧ M = I) ∨ (¬ A = B ∧ x = true ∧ M = h7) ∨ (¬ A = B ∧ x = false ∧ y = true ∧ M = h7) ∨ (¬ A = B ∧ x = false ∧ y = false ∧ M = jm n d m e) := by
  rw [← jz]
  by_cases h : A = B
  ·simp [h]
  ·cases x <;> cases y <;> simp [h]
 clear jz;refine cd (f := 119) Tryz.func119 rfl rfl rfl rfl ?_;(repeat first | (with_reducible apply ax); rfl | refine dj rfl rfl rfl (by (first | exact bo | exact eT | exact kl | exact uY)) rfl ?_ | refine cI rfl rfl rfl rfl (by (first | exact kI | exact qw | exact jQ | exact gp)) rfl ?_ | (with_reducible apply hH); kernel_rfl | (with_reducible apply hI); kernel_rfl; kernel_rfl; rfl | (with_reducible first | apply bR | apply bJ | apply bO | apply ay | apply eU | apply gg) | (with_reducible apply gU); rfl);clear bo eT kl uY kI qw jQ gp;rcases cs with ⟨h, rfl⟩ | ⟨h, rfl, rfl⟩ | ⟨h, rfl, rfl, rfl⟩ | ⟨h, rfl, rfl, rfl⟩
 ·clear rY u4;(repeat first | (with_reducible apply ax); rfl | refine cI rfl rfl rfl rfl (by (exact L)) rfl ?_ | (with_reducible first | apply bR | apply bJ | apply bO | apply ay | apply b7 | apply fL | apply k4) | (with_reducible apply fZ); rfl; (exact bg (by omega)))
  ((refine bX rfl (fj rfl rfl rfl bc) ?_))
  exact ai.br.refl _
 ·clear rY u4;(repeat first | (with_reducible apply ax); rfl | refine cI rfl rfl rfl rfl (by (exact iA)) rfl ?_ | (with_reducible first | apply bR | apply bJ | apply bO | apply ay | apply b7 | apply eU | apply fL | apply k4) | (with_reducible apply ik); rfl | (with_reducible apply gT); rfl; (exact bl (by omega)))
  ((refine bX rfl (fj rfl rfl rfl bc) ?_))
  exact ai.br.of_eq (by simp only [h7, zn, Ab]; rfl)
 ·clear rY u4;(repeat first | (with_reducible apply ax); rfl | refine cI rfl rfl rfl rfl (by (first | exact pz | exact u1 | exact iA | exact wB)) rfl ?_ | (with_reducible apply hH); kernel_rfl | (with_reducible apply hI); kernel_rfl; kernel_rfl; rfl | (with_reducible first | apply bR | apply bJ | apply bO | apply ay | apply b7 | apply fL | apply k4) | (with_reducible apply ik); rfl | (with_reducible apply gU); rfl | (with_reducible apply gT); rfl; (exact bl (by omega)))
  ((refine bX rfl (fj rfl rfl rfl bc) ?_))
  exact ai.br.of_eq (by simp only [h7, zn, Ab]; rfl)
 ·have Ti := rY h;have Tj := u4 h;clear rY u4;(repeat first | (with_reducible apply ax); rfl | refine cI rfl rfl rfl rfl (by (first | exact pz | exact u1 | exact iA | exact wB)) rfl ?_ | refine nR rfl rfl rfl rfl rfl rfl (by (first | exact Ti | exact Tj)) rfl ?_ | (with_reducible apply hH); kernel_rfl | (with_reducible apply hI); kernel_rfl; kernel_rfl; rfl | (with_reducible first | apply bR | apply bJ | apply bO | apply ay | apply b7 | apply eU | apply lA) | (with_reducible apply gU); rfl | (with_reducible apply gT); rfl; (exact bl (by omega)))
  ((refine bX rfl (fj rfl rfl rfl bc) ?_))
  exact ai.br.refl _
theorem DY {x y : Int} (h1 : -268435456 ≤ x) (h2 : x ≤ 268435456) (aq : -268435456 ≤ y) (aK : y ≤ 268435456) : -72057594037927936 ≤ x * y ∧ x * y ≤ 72057594037927936 := by
 have := IB h1 h2 aq aK;omega
theorem Ll {o1 o2 a1 a2 b1 b2 : Int} (h1 : cH o1 o2 = true) (h2 : cH a1 a2 = true) (aq : cH b1 b2 = true) : -144115188075855872 ≤ ct o1 o2 a1 a2 b1 b2 ∧ ct o1 o2 a1 a2 b1 b2 ≤ 144115188075855872 := by
 rw [sX] at h1 h2 aq;have m1 := DY (x := a1 - o1) (y := b2 - o2) (by omega) (by omega) (by omega) (by omega);have m2 := DY (x := a2 - o2) (y := b1 - o1) (by omega) (by omega) (by omega) (by omega);unfold ct;omega
def q8 (a1 a2 b1 b2 c1 c2 d1 d2 : Int) : fP := if (cH a1 a2 && cH b1 b2 && cH c1 c2 && cH d1 d2) = true then iv a1 a2 b1 b2 c1 c2 d1 d2 else h7
theorem acZ {a1 a2 b1 b2 c1 c2 d1 d2 : Int} (aL : cH a1 a2 = true) (ab : cH b1 b2 = true) (ak : cH c1 c2 = true) (hd : cH d1 d2 = true) : aT aj 119 [bh a1 a2, bh b1 b2, bh c1 c2, bh d1 d2] (oo (iv a1 a2 b1 b2 c1 c2 d1 d2)) := by
 have bo := pb aL;have eT := pb ab;have kl := pb ak;have uY := pb hd;have kI := Ej (a1 := a1) (a2 := a2) (b1 := b1) (b2 := b2);have qw := Ej (a1 := c1) (a2 := c2) (b1 := d1) (b2 := d2);have q1 := Qq aL ab;have q2 := I9 aL ab;have cj := Qq ak hd;have eH := I9 ak hd;have l1 := xy a1 a2 b1 b2;have l2 := xy c1 c2 d1 d2;rw [← aba];generalize eS a1 a2 b1 b2 = s1 at *;generalize ey a1 a2 b1 b2 = s2 at *;generalize eD a1 a2 b1 b2 = bY at *;generalize ea a1 a2 b1 b2 = b3 at *;generalize eS c1 c2 d1 d2 = t1 at *;generalize ey c1 c2 d1 d2 = t2 at *;generalize eD c1 c2 d1 d2 = t3 at *;generalize ea c1 c2 d1 d2 = t4 at *;have bC := Ll q1 q2 cj;have cf := Ll q1 q2 eH;have i3 := sX.1 cj;have i4 := sX.1 eH
 refine U8 bo eT kl uY kI qw (Ei (lq q1) (lq q2) (lq cj)) (Ei (lq q1) (lq q2) (lq eH)) (Ei (lq cj) (lq eH) (lq q1)) (Ei (lq cj) (lq eH) (lq q2)) (PV rfl) (PV rfl) (adh q1 q2 cj eH)
  (fun ck => PZ ck i3.1.1 i3.1.2 i4.1.1 i4.1.2 bC.1 bC.2 cf.1 cf.2 rfl rfl) (fun ck => PZ ck i3.2.1 i3.2.2 i4.2.1 i4.2.2 bC.1 bC.2 cf.1 cf.2 rfl rfl) ?_
 rw [← aa9 l1 l2];unfold Iq
 by_cases h : ct s1 s2 bY b3 t1 t2 = ct s1 s2 bY b3 t3 t4
 ·rw [if_pos h, if_pos h]
 ·rw [if_neg h, if_neg h];exact zU (by rw [rl, c0, c0])
theorem IR {a1 a2 b1 b2 c1 c2 d1 d2 : Int} : aT aj 119 [bh a1 a2, bh b1 b2, bh c1 c2, bh d1 d2] (oo (q8 a1 a2 b1 b2 c1 c2 d1 d2)) := by
 unfold q8
 by_cases h : (cH a1 a2 && cH b1 b2 && cH c1 c2 && cH d1 d2) = true
 ·rw [if_pos h];simp only [eo] at h;exact acZ h.1.1.1 h.1.1.2 h.1.2 h.2
 ·rw [if_neg h];exact acY (by simpa using h)
def Gt (M : fP) (a1 a2 b1 b2 c1 c2 d1 d2 : Int) : Bool :=
 if M.k = 1 then dZ a1 a2 c1 c2 || dZ a1 a2 d1 d2 || dZ b1 b2 c1 c2 || dZ b1 b2 d1 d2
 else if M.k = 2 then vh (eS a1 a2 b1 b2) (ey a1 a2 b1 b2) (eD a1 a2 b1 b2) (ea a1 a2 b1 b2) (eS c1 c2 d1 d2) (ey c1 c2 d1 d2) (eD c1 c2 d1 d2) (ea c1 c2 d1 d2)
 else true
theorem Uz {a1 a2 b1 b2 c1 c2 d1 d2 s1 s2 bY b3 t1 t2 t3 t4 : Int} {M : fP} {r : Bool} (aM : aT aj 119 [bh a1 a2, bh b1 b2, bh c1 c2, bh d1 d2] (oo M))
  (kI : aT aj 172 [bh a1 a2, bh b1 b2] (jt s1 s2 bY b3)) (qw : aT aj 172 [bh c1 c2, bh d1 d2] (jt t1 t2 t3 t4))
  (ap : (if M.k = 1 then dZ a1 a2 c1 c2 || dZ a1 a2 d1 d2 || dZ b1 b2 c1 c2 || dZ b1 b2 d1 d2 else if M.k = 2 then vh s1 s2 bY b3 t1 t2 t3 t4 else true) = r) : aT aj 185 [bh a1 a2, bh b1 b2, bh c1 c2, bh d1 d2] (bD r) := by
 obtain ⟨k, n, d, m, e, p1, p2, q1, q2⟩ := M;simp only at ap aM
 have cs : (k = 1 ∧ dZ a1 a2 c1 c2 = true ∧ r = true) ∨ (k = 1 ∧ dZ a1 a2 c1 c2 = false ∧ dZ a1 a2 d1 d2 = true ∧ r = true) ∨ (k = 1 ∧ dZ a1 a2 c1 c2 = false ∧ dZ a1 a2 d1 d2 = false ∧ dZ b1 b2 c1 c2 = true ∧ r = true) ∨ (k = 1 ∧ dZ a1 a2 c1 c2 = false ∧ dZ a1 a2 d1 d2 = false ∧ dZ b1 b2 c1 c2 = false ∧ r = dZ b1 b2 d1 d2) ∨ (¬ k = 1 ∧ k = 2 ∧ r = vh s1 s2 bY b3 t1 t2 t3 t4) ∨ (¬ k = 1 ∧ ¬ k = 2 ∧ r = true) := by
  rw [← ap]
  by_cases h1 : k = 1
  ·rw [if_pos h1];cases dZ a1 a2 c1 c2 <;> cases dZ a1 a2 d1 d2 <;> cases dZ b1 b2 c1 c2 <;> simp [h1]
  ·rw [if_neg h1]
   by_cases h2 : k = 2
   ·rw [if_pos h2]; simp [h2]
   ·rw [if_neg h2]; simp [h1, h2]
 clear ap;refine cd (f := 185) Tryz.func185 rfl rfl rfl rfl ?_;(repeat first | (with_reducible apply ax); rfl | (with_reducible apply TQ); (iterate 4 rfl) | refine nR rfl rfl rfl rfl rfl rfl (by (exact aM)) rfl ?_ | (with_reducible first | apply bR | apply bJ | apply bO | apply ay | apply gg));clear aM;rcases cs with ⟨h1, h2, rfl⟩ | ⟨h1, h2, aq, rfl⟩ | ⟨h1, h2, aq, aK, rfl⟩ | ⟨h1, h2, aq, aK, rfl⟩ | ⟨h1, h2, rfl⟩ | ⟨h1, h2, rfl⟩
 all_goals
  (repeat first | (with_reducible apply ax); rfl | (with_reducible apply gf); (iterate 4 rfl) | (with_reducible apply hk); (iterate 4 rfl) | refine cI rfl rfl rfl rfl (by (first | exact kI | exact qw)) rfl ?_ | (with_reducible apply bW (c := true)); rfl; rfl; (assumption) | (with_reducible apply bW (c := false)); rfl; rfl; (assumption) | (with_reducible apply hH); kernel_rfl | (with_reducible apply hI); kernel_rfl; kernel_rfl; rfl | (with_reducible first | apply bR | apply bJ | apply bO | apply ay | apply b7 | apply eU | apply fL | apply lA | apply k4) | (with_reducible apply fZ); rfl; (exact bg (by omega)) | (with_reducible apply gT); rfl; (exact bl (by omega)))
  ((refine bX rfl (bG rfl bc) ?_))
  first | exact ai.br.refl _ | exact ai.br.of_eq (by rw [h2]; rfl) | exact ai.br.of_eq (by rw [aq]; rfl) | exact ai.br.of_eq (by rw [aK]; rfl)
theorem acX {a1 a2 b1 b2 c1 c2 d1 d2 : Int} : aT aj 185 [bh a1 a2, bh b1 b2, bh c1 c2, bh d1 d2] (bD (Gt (q8 a1 a2 b1 b2 c1 c2 d1 d2) a1 a2 b1 b2 c1 c2 d1 d2)) :=
 Uz IR Ej Ej rfl
end Go.Proofs.YtpochbhajmbfdaaGreat
