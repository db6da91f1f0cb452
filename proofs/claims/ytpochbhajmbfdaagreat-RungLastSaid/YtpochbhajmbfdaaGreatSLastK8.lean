/-
  My own texts, without what this claim does not need. My own text.
-/
import Derived.Test.YtpochbhajmbfdaaGreatProg
import Derived.ProofKit
import Derived.OpenShut
import Derived.Deep.DeepHandedRow
import Derived.Lib.LaidTab
import Derived.Lib.SmallJoins
import Derived.Test.YtpochbhajmbfdaaGreatSLastK7
set_option maxRecDepth 100000
set_option maxHeartbeats 64000000
set_option linter.unusedVariables false
set_option linter.unusedSimpArgs false
set_option linter.unusedSectionVars false
open Go.Proofs.Tryz renaming prog → aj
namespace Go.Proofs.YtpochbhajmbfdaaGreat
open Go.RowKit
def gw (k : Int) (r : Nat) : Prop := r ≤ 28 ∧ ((k < 0 ∧ r = 0) ∨ (28 < k ∧ r = 28) ∨ (r : Int) = k)
theorem Y8 (k : Int) : ∃ r, gw k r := by
 by_cases h : k < 0
 ·exact ⟨0, by omega, .inl ⟨h, rfl⟩⟩
 ·by_cases aC : 28 < k
  ·exact ⟨28, by omega, .inr (.inl ⟨aC, rfl⟩)⟩
  ·exact ⟨k.toNat, by omega, .inr (.inr (by omega))⟩
theorem vv {a b : Int} {w w' : World} (e : a = b) (h : Below w.heap.size w w') : gL (.int .i64 b) w (.returned (.int .i64 a)) w' := ⟨by rw [e], h⟩
theorem xw {a b : Bool} {w w' : World} (e : a = b) (h : Below w.heap.size w w') : gL (.bool b) w (.returned (.bool a)) w' := ⟨by rw [e], h⟩
theorem zP (k : Int) (r : Nat) (w : World) (h : gw k r) : Calls aj 136 #[.int .i64 k] w (gL (.int .i64 r) w) := by
 have mT := Lib.hid h;clear h
 go_enter Tryz.func136, Tryz.ntmps136
 go_wp2
 all_goals
  go_ret
  refine vv ?_ (Below.refl _ _);have h1 := mT.out;unfold gw at h1;omega
theorem Q9 (n : Int) (h : -9223372036854775808 ≤ n ∧ n ≤ 9223372036854775807) : wrap64 n = n := by unfold wrap64; omega
theorem Im {r : Nat} (h : r ≤ 28) : (1 : Int) ≤ 2 ^ r ∧ (2 : Int) ^ r ≤ 268435456 := by
 have h1 := Nat.pow_le_pow_right (show 0 < 2 by decide) h;have h2 := Nat.pow_pos (show 0 < 2 by decide) (n := r);have e : ((2 : Int) ^ r) = ((2 ^ r : Nat) : Int) := by simp
 rw [show (2 : Nat) ^ 28 = 268435456 by decide] at h1;rw [e];omega
def ct (v : Int) (r : Nat) : Int := (2 * v + 2 ^ r) / (2 * 2 ^ r)
theorem Wv (v : Int) : ct v 0 = v := by unfold ct; omega
theorem Wu (v : Int) (r : Nat) : ct v (r + 1) = v / 2 ^ (r + 1) + v / 2 ^ r % 2 := by
 unfold ct;have hp : (0 : Int) < 2 ^ r := jG (by decide);rw [Int.pow_succ];generalize (2 : Int) ^ r = P at *
 have aI : (2 * v + P * 2) / (2 * (P * 2)) = (v + P) / (P * 2) := by
  rw [show 2 * v + P * 2 = 2 * (v + P) by omega, Int.mul_ediv_mul_of_pos _ _ (by decide)]
 rw [aI, ← xr (by omega), ← xr (by omega), show v + P = v + 1 * P by omega, Int.add_mul_ediv_right _ _ (by omega)];omega
theorem TC (x : Int) : bits BinOp.and IntKind.i64 x 1 = x % 2 := by
 unfold bits
 have h : (BitVec.ofInt 64 x &&& BitVec.ofInt 64 1).toNat = (x % 2).toNat := by
  rw [BitVec.toNat_and, BitVec.toNat_ofInt, BitVec.toNat_ofInt, show ((1 : Int) % ((2 ^ 64 : Nat) : Int)).toNat = 1 by decide, Nat.and_one_is_mod];omega
 show IntKind.i64.wrap ((BitVec.ofInt 64 x &&& BitVec.ofInt 64 1).toNat : Int) = x % 2;rw [h];have h2 : ((x % 2).toNat : Int) = x % 2 := by omega
 rw [h2];rcases (show x % 2 = 0 ∨ x % 2 = 1 by omega) with e | e <;> rw [e] <;> decide
theorem aeI {v : Int} (r : Nat) (v0 : -9223372036854775808 ≤ v) (v1 : v < 9223372036854775808) : wrap64 (v / 2 ^ (r + 1) + v / 2 ^ r % 2) = ct v (r + 1) := by
 rw [Wu];refine Q9 _ ?_;have hp : (0 : Int) < 2 ^ r := jG (by decide);rw [Int.pow_succ, ← xr (by omega)]
 have h1 : -9223372036854775808 ≤ v / 2 ^ r := by
  rw [pN hp];have := pH (show (1 : Int) ≤ 2 ^ r by omega) (show (0 : Int) ≤ 9223372036854775808 by omega);omega
 have h2 : v / 2 ^ r ≤ 9223372036854775807 := by
  by_cases h : 0 ≤ v
  ·have := Int.ediv_le_self (2 ^ r) h;omega
  ·have := Int.ediv_neg_of_neg_of_pos (show v < 0 by omega) hp;omega
 generalize v / 2 ^ r = q at *;omega
theorem V9 (v k : Int) (w : World) (h : gw k 0) : Calls aj 72 #[.int .i64 v, .int .i64 k] w (gL (.int .i64 v) w) := by
 have mT := Lib.hid (fun w => zP k 0 w h);clear h
 go_enter Tryz.func72, Tryz.ntmps72
 go_wp2_with (go_at_call 136; ((with_reducible refine (mT.out _).mono ?_); rintro e aO ⟨rfl, ab⟩))
 go_ret
 exact vv rfl (by (repeat first | with_reducible assumption))
theorem V8 (v k : Int) (r : Nat) (w : World) (h : gw k (r + 1)) (v0 : -9223372036854775808 ≤ v) (v1 : v < 9223372036854775808) : Calls aj 72 #[.int .i64 v, .int .i64 k] w (gL (.int .i64 (ct v (r + 1))) w) := by
 have mT := Lib.hid (fun w => zP k (r + 1) w h);have A2 := Lib.hid (aeI r v0 v1);have aq : r < 28 := by unfold gw at h; omega
 clear h v0 v1
 go_enter Tryz.func72, Tryz.ntmps72
 go_wp2_with (go_at_call 136; ((with_reducible refine (mT.out _).mono ?_); rintro e aO ⟨rfl, ab⟩))
 go_region
 go_wp2
 go_ret
 exact vv (by rw [TC]; exact A2.out) (by (repeat first | with_reducible assumption | with_reducible refine Below.drew ?_))
theorem V7 (v k : Int) (r : Nat) (w : World) (h : gw k r) (v0 : -9223372036854775808 ≤ v) (v1 : v < 9223372036854775808) : Calls aj 72 #[.int .i64 v, .int .i64 k] w (gL (.int .i64 (ct v r)) w) := by
 rcases r with _ | r
 ·rw [Wv]; exact V9 v k w h
 ·exact V8 v k r w h v0 v1
theorem afy {r : Nat} (h : r ≤ 28) : wrap64 (2 ^ r) = 2 ^ r := Q9 _ (by have := Im h; omega)
theorem aes (k : Int) (r : Nat) (w : World) (h : gw k r) : Calls aj 78 #[.int .i64 k] w (gL (.int .i64 (2 ^ r)) w) := by
 have mT := Lib.hid (fun w => zP k r w h);have aq : r ≤ 28 := h.1;clear h
 go_enter Tryz.func78, Tryz.ntmps78
 go_wp2_with (go_at_call 136; ((with_reducible refine (mT.out _).mono ?_); rintro e aO ⟨rfl, ab⟩))
 go_ret
 exact vv (afy aq) (by (repeat first | with_reducible assumption))
def Sd (m : Int) (w : World) (e : Ending) (w' : World) : Prop := ∃ b, e = .returned (.func (Fn.func 196) #[] #[.pointer (some ⟨b, 0, none⟩)]) ∧ w'.cell? ⟨b, 0, none⟩ = some (.int .i64 m) ∧ Below w.heap.size w w'
theorem OG (k : Int) (r : Nat) (w : World) (h : gw k r) : Calls aj 146 #[.int .i64 k] w (Sd (134217728 / 2 ^ r) w) := by
 have mT := Lib.hid (fun w => zP k r w h);have aq : r ≤ 28 := h.1;clear h
 go_enter Tryz.func146, Tryz.ntmps146
 go_wp2_with (go_at_call 136; ((with_reducible refine (mT.out _).mono ?_); rintro e aO ⟨rfl, ab⟩))
 go_ret
 exact ⟨_, rfl, by go_simp, by (repeat first | with_reducible assumption | with_reducible refine cT ?_ _)⟩
def wi (m n : Int) : Bool := decide (-m ≤ n) && decide (n ≤ m)
theorem Dv (b : Nat) (m n : Int) (w : World) (ak : w.cell? ⟨b, 0, none⟩ = some (.int .i64 m)) (m0 : 0 ≤ m) (m1 : m ≤ 134217728) : Calls aj 196 #[.int .i64 n, .pointer (some ⟨b, 0, none⟩)] w (gL (.bool (wi m n)) w) := by
 go_enter Tryz.func196, Tryz.ntmps196
 go_wp2
 ·go_ret
  exact xw (by unfold wi; rw [bB (show -m ≤ n by assumption)]; rfl) (Below.refl _ _)
 ·go_ret
  exact xw (by unfold wi; rw [bR (show ¬ (-m ≤ n) by omega)]; rfl) (Below.refl _ _)
def eO (r : Nat) (x y : Int) : Bool := wi (134217728 / 2 ^ r) x && wi (134217728 / 2 ^ r) y
theorem FZ (r : Nat) : (0 : Int) ≤ 134217728 / 2 ^ r ∧ (134217728 : Int) / 2 ^ r ≤ 134217728 := by
 have hp : (0 : Int) < 2 ^ r := jG (by decide);exact ⟨pL (by decide) (by omega), Int.ediv_le_self _ (by decide)⟩
theorem Q7 (r : Nat) (n : Int) : wi (134217728 / 2 ^ r) n = decide (-134217728 ≤ 2 ^ r * n ∧ 2 ^ r * n ≤ 134217728) := by
 have hp : (0 : Int) < 2 ^ r := jG (by decide);unfold wi;rw [oK, dQ, cB, cB, cB, jE];generalize (2 : Int) ^ r = P at *;have h1 := pN (a := n) (b := 134217728) hp;have h2 := pN (a := -n) (b := 134217728) hp;rw [Int.neg_mul] at h2
 constructor
 ·intro ⟨q1, q2⟩;exact ⟨by have := h2.1 (by omega); omega, h1.1 q2⟩
 ·intro ⟨q1, q2⟩;exact ⟨by have := h2.2 (by omega); omega, h1.2 q2⟩
theorem CX (r : Nat) (x y : Int) : eO r x y = true ↔ (-134217728 ≤ 2 ^ r * x ∧ 2 ^ r * x ≤ 134217728) ∧ (-134217728 ≤ 2 ^ r * y ∧ 2 ^ r * y ≤ 134217728) := by
 unfold eO;rw [Q7, Q7, dQ, cB, cB]
theorem RR (x y k : Int) (r : Nat) (w : World) (h : gw k r) : Calls aj 77 #[.agg #[.int .i64 x, .int .i64 y], .int .i64 k] w (gL (.bool (eO r x y)) w) := by
 have mT := Lib.hid (fun w => OG k r w h);obtain ⟨m0, m1⟩ := FZ r;have A3 := Lib.hid (show eO r x y = (wi (134217728 / 2 ^ r) x && wi (134217728 / 2 ^ r) y) from rfl);clear h;generalize (134217728 : Int) / 2 ^ r = M at *;have xO := Lib.hid m0;have xP := Lib.hid m1;clear m0 m1
 go_enter Tryz.func77, Tryz.ntmps77
 go_wp2_with (first
  | (go_at_call 146; ((with_reducible refine (mT.out _).mono ?_); rintro e aO ⟨b, rfl, ak, ab⟩; have fW : ah aO (w.heap.size) (.int .i64 x) (.int .i64 y) := (by (repeat first | focus ((with_reducible refine ah.new ?_); simp; done) | with_reducible refine ah.call ?_ ab)); obtain ⟨⟨lD, lE⟩, lG, lH⟩ := id fW))
  | (go_at_call 196; ((with_reducible refine (Dv b M x _ ak xO.out xP.out).mono ?_); rintro e w2 ⟨rfl, bW⟩; have h6 := (bW.cell (p := ⟨b, 0, none⟩) (World.block_lt_of_cell? _ _ ak)).trans ak; clear ak; have iQ : ah w2 (w.heap.size) (.int .i64 x) (.int .i64 y) := (by (repeat first | with_reducible assumption | with_reducible refine ah.call ?_ bW)); obtain ⟨⟨o7, pc⟩, pg, pj⟩ := id iQ))
  | (go_at_call 196; ((with_reducible refine (Dv b M y _ h6 xO.out xP.out).mono ?_); rintro e w3 ⟨rfl, cV⟩)))
 ·go_ret
  exact xw (by rw [A3.out]; simp_all) (by (repeat first | with_reducible exact Below.refl _ _ | with_reducible refine cT ?_ _ | with_reducible refine b0 ?_ cV | with_reducible refine b0 ?_ bW | with_reducible refine b0 ?_ ab))
 ·go_ret
  exact xw (by rw [A3.out]; simp_all) (by (repeat first | with_reducible exact Below.refl _ _ | with_reducible refine cT ?_ _ | with_reducible refine b0 ?_ bW | with_reducible refine b0 ?_ ab))
theorem V6 (k : Int) (w : World) : Calls aj 88 #[.int .i64 k] w (gL (.bool (decide (0 ≤ k) && decide (k ≤ 28))) w) := by
 go_enter Tryz.func88, Tryz.ntmps88
 go_wp2
 ·go_ret
  exact xw (by rw [bB (show 0 ≤ k by assumption)]; rfl) (Below.refl _ _)
 ·go_ret
  exact xw (by rw [bR (show ¬ (0 ≤ k) by omega)]; rfl) (Below.refl _ _)
theorem EL (n m : Int) (w : World) : Calls aj 285 #[.int .i64 n, .int .i64 m] w (gL (.int .i64 (fJ n m)) w) := by
 go_enter Tryz.func285, Tryz.ntmps285
 go_wp2
 all_goals
  go_ret
  refine vv ?_ (Below.refl _ _);unfold fJ
  repeat' split
  all_goals omega
def lR (x y x' y' : Int) : Int := if x = x' then fJ y y' else fJ x x'
theorem V5 (x y x' y' : Int) (w : World) : Calls aj 261 #[.agg #[.int .i64 x, .int .i64 y], .agg #[.int .i64 x', .int .i64 y']] w (gL (.int .i64 (lR x y x' y')) w) := by
 have aP := Lib.hid (fun w => EL x x' w);have cc := Lib.hid (fun w => EL y y' w);have nW : Hid (x = x' → fJ y y' = lR x y x' y') := fun h => by unfold lR; rw [if_pos h]
 have k2 : Hid (¬ (x = x') → fJ x x' = lR x y x' y') := fun h => by unfold lR; rw [if_neg h]
 go_enter Tryz.func261, Tryz.ntmps261
 go_wp2_with (first
  | (go_at_call 285; ((with_reducible refine (aP.out _).mono ?_); rintro e aO ⟨rfl, ab⟩))
  | (go_at_call 285; ((with_reducible refine (cc.out _).mono ?_); rintro e aO ⟨rfl, ab⟩)))
 ·go_ret
  exact vv (k2.out (by simpa using ‹(x != x') = true›)) (by (repeat first | with_reducible exact Below.refl _ _ | with_reducible refine cT ?_ _ | with_reducible refine b0 ?_ ab))
 ·go_ret
  exact vv (nW.out (by simpa using ‹(x != x') = false›)) (by (repeat first | with_reducible exact Below.refl _ _ | with_reducible refine cT ?_ _ | with_reducible refine b0 ?_ ab))
end Go.Proofs.YtpochbhajmbfdaaGreat
namespace Go.Proofs.YtpochbhajmbfdaaGreat
open Go.RowKit
attribute [local go_sem ↓] Go.wp_at_zero Go.wp_at_succ
end Go.Proofs.YtpochbhajmbfdaaGreat
namespace Go.Proofs.YtpochbhajmbfdaaGreat
open Go.RowKit
attribute [local go_sem ↓] Go.wp_at_zero Go.wp_at_succ
def Sk (s : Bool) (z : Int) (w : World) (e : Ending) (w' : World) : Prop := ∃ H L, e = .returned (.tuple #[.agg #[.int .i64 H, .int .u64 L], .bool s]) ∧ bt H L z ∧ Below w.heap.size w w'
def uq (v : Int) (b : Bool) (w : World) (e : Ending) (w' : World) : Prop := e = .returned (.tuple #[.int .i64 v, .bool b]) ∧ Below w.heap.size w w'
def Sr (w : World) (s : Bool) (z : Int) (u v : Value) (W : World) : Prop := ∃ g rO rP, u = .pointer (some ⟨g, 0, none⟩) ∧ v = .bool s ∧ bt rO rP z ∧ ah W g (.int .i64 rO) (.int .u64 rP) ∧ Below w.heap.size w W
theorem IQ (aK dK aC cx k : Int) (r : Nat) (s : Bool) (z v : Int) (b : Bool) (w : World) (h : gw k r)
  (Jn : ∀ w, Calls aj 240 #[.agg #[.int .i64 aK, .int .u64 dK, .int .i64 aC, .int .u64 cx], .int .i64 r] w (Sk s z w))
  (hv : (s = false ∧ v = 0 ∧ b = false) ∨ (s = true ∧ small z = false ∧ v = 0 ∧ b = false) ∨ (s = true ∧ small z = true ∧ wi (134217728 / 2 ^ r) z = false ∧ v = 0 ∧ b = false) ∨ (s = true ∧ small z = true ∧ wi (134217728 / 2 ^ r) z = true ∧ v = z ∧ b = true)) :
  Calls aj 215 #[.agg #[.int .i64 aK, .int .u64 dK, .int .i64 aC, .int .u64 cx], .int .i64 k] w (uq v b w) := by
 have mU := Lib.hid (fun w => zP k r w h);have EP := Lib.hid (fun w => OG k r w h);have A2 := Lib.hid Jn;obtain ⟨m0, m1⟩ := FZ r;clear h Jn;generalize (134217728 : Int) / 2 ^ r = M at *;have xO := Lib.hid m0;have xP := Lib.hid m1;have ri := Lib.hid hv;clear m0 m1 hv
 go_enter Tryz.func215, Tryz.ntmps215
 go_upto_region 1 with fail
 have e0 : dm (w.alloc (.cells #[.int .i64 aK, .int .u64 dK, .int .i64 aC, .int .u64 cx] 161)) w.heap.size (.int .i64 aK) (.int .u64 dK) (.int .i64 aC) (.int .u64 cx) := (by (repeat first | focus ((with_reducible refine dm.new ?_); simp; done)));have Fx : Below w.heap.size w (w.alloc (.cells #[.int .i64 aK, .int .u64 dK, .int .i64 aC, .int .u64 cx] 161)) := (by (repeat first | with_reducible exact Below.refl _ _ | with_reducible refine cT ?_ _))
 go_cut [6, 7] (fun u v fm => Sr w s z u v fm)
 case first =>
  clear ri EP
  go_region_held3 (fun w' => w'.cell? ⟨w.heap.size, 0, none⟩ = some (.int .i64 aK) ∧ w'.cell? ⟨w.heap.size, 1, none⟩ = some (.int .u64 dK) ∧ w'.cell? ⟨w.heap.size, 2, none⟩ = some (.int .i64 aC) ∧ w'.cell? ⟨w.heap.size, 3, none⟩ = some (.int .u64 cx))
   (((refine dm.cs ?_); ((repeat first | with_reducible assumption | with_reducible refine dm.alloc ?_ _ | with_reducible refine dm.drew ?_ | focus ((with_reducible refine dm.set ?_ _ ?_); rotate_left; omega) | with_reducible refine dm.call ?_ bW | with_reducible refine dm.call ?_ bC); done)))
   (first
    | (go_at_call 136; ((with_reducible refine (mU.out _).mono ?_); rintro e aO ⟨rfl, bC⟩; have Ho := Below.size bC; (try simp at Ho)))
    | (go_at_call 240; ((with_reducible refine (A2.out _).mono ?_); rintro e w2 ⟨sI, sJ, rfl, hu, bW⟩; have zk := Below.size bW; (try simp at zk); (try ((refine k5 (p := ah w2 (w.heap.size + 1) (.int .i64 0) (.int .u64 0)) ?_ ?_); (repeat first | focus ((with_reducible refine ah.new ?_); simp; done) | with_reducible refine ah.alloc ?_ _ | with_reducible refine ah.drew ?_ | with_reducible refine ah.call ?_ bW | with_reducible refine ah.call ?_ bC); intro q9; obtain ⟨⟨T3, UN⟩, VO, Wh⟩ := id q9; have ZM := ah.lt q9; have aaT := ih (ah.lt q9); have aao := ij (ah.lt q9))); (try ((refine k5 (p := ah w2 (aO.heap.size) (.int .i64 0) (.int .u64 0)) ?_ ?_); (repeat first | focus ((with_reducible refine ah.new ?_); simp; done) | with_reducible refine ah.alloc ?_ _ | with_reducible refine ah.drew ?_ | with_reducible refine ah.call ?_ bW | with_reducible refine ah.call ?_ bC); intro ra; obtain ⟨⟨T4, UO⟩, VP, Wi⟩ := id ra; have ZN := ah.lt ra; have aaU := ih (ah.lt ra); have aap := ij (ah.lt ra))))))
  all_goals
   go_wp2_with fail
   go_meet
   refine ⟨_, sI, sJ, rfl, rfl, hu, ?_, ?_⟩
   ·(repeat first | focus ((with_reducible refine ah.new ?_); simp; done) | with_reducible refine ah.put ?_ | focus ((with_reducible apply fg.of); with_reducible assumption))
   ·(repeat first | with_reducible assumption | with_reducible refine cT ?_ _ | focus ((with_reducible refine eG ?_ _ _ _ ?_); rotate_left; omega) | with_reducible refine Below.drew ?_ | with_reducible refine b0 ?_ bW | with_reducible refine b0 ?_ bC)
 case rest =>
  obtain ⟨g, rO, rP, rfl, rfl, aw, qo, iB⟩ := hcut;clear e0 Fx A2 mU;obtain ⟨⟨Ra, c7⟩, dq, kz⟩ := id qo;rcases ri.out with ⟨rfl, rfl, rfl⟩ | ⟨rfl, q, rfl, rfl⟩ | ⟨rfl, q, cy, rfl, rfl⟩ | ⟨rfl, q, cy, rfl, rfl⟩
  ·clear ri
   go_wp2
   go_ret2
   exact ⟨rfl, by (repeat first | with_reducible assumption)⟩
  ·have nT : Hid (∀ w, Calls aj 241 #[.agg #[.int .i64 rO, .int .u64 rP]] w (uq 0 false w)) := fun w => (E7 rO rP z w aw).mono fun e w' k => by unfold vT at k; rw [q] at k; exact k
   clear ri q
   go_wp2_with (first
    | (go_at_call 241; ((with_reducible refine (nT.out _).mono ?_); rintro e ff ⟨rfl, eU⟩)))
   go_ret2
   exact ⟨rfl, by (repeat first | with_reducible assumption | with_reducible refine b0 ?_ eU)⟩
  ·have nT : Hid (∀ w, Calls aj 241 #[.agg #[.int .i64 rO, .int .u64 rP]] w (uq z true w)) := fun w => (E7 rO rP z w aw).mono fun e w' k => by unfold vT at k; rw [q] at k; exact k
   have EO : Hid (∀ b w, w.cell? ⟨b, 0, none⟩ = some (.int .i64 M) → Calls aj 196 #[.int .i64 z, .pointer (some ⟨b, 0, none⟩)] w (gL (.bool false) w)) := fun b w ak => by have := Dv b M z w ak xO.out xP.out; rw [cy] at this; exact this
   clear ri q cy
   go_wp2_with (first
    | (go_at_call 241; ((with_reducible refine (nT.out _).mono ?_); rintro e ff ⟨rfl, eU⟩))
    | (go_at_call 146; ((with_reducible refine (EP.out _).mono ?_); rintro e iq ⟨b, rfl, ak, gW⟩))
    | (go_at_call 196; ((with_reducible refine (EO.out _ _ ak).mono ?_); rintro e afs ⟨rfl, Gz⟩)))
   go_ret2
   exact ⟨rfl, by (repeat first | with_reducible assumption | with_reducible refine b0 ?_ Gz | with_reducible refine b0 ?_ gW | with_reducible refine b0 ?_ eU)⟩
  ·have nT : Hid (∀ w, Calls aj 241 #[.agg #[.int .i64 rO, .int .u64 rP]] w (uq v true w)) := fun w => (E7 rO rP v w aw).mono fun e w' k => by unfold vT at k; rw [q] at k; exact k
   have EO : Hid (∀ b w, w.cell? ⟨b, 0, none⟩ = some (.int .i64 M) → Calls aj 196 #[.int .i64 v, .pointer (some ⟨b, 0, none⟩)] w (gL (.bool true) w)) := fun b w ak => by have := Dv b M v w ak xO.out xP.out; rw [cy] at this; exact this
   clear ri q cy
   go_wp2_with (first
    | (go_at_call 241; ((with_reducible refine (nT.out _).mono ?_); rintro e ff ⟨rfl, eU⟩))
    | (go_at_call 146; ((with_reducible refine (EP.out _).mono ?_); rintro e iq ⟨b, rfl, ak, gW⟩))
    | (go_at_call 196; ((with_reducible refine (EO.out _ _ ak).mono ?_); rintro e afs ⟨rfl, Gz⟩)))
   go_ret2
   exact ⟨rfl, by (repeat first | with_reducible assumption | with_reducible refine b0 ?_ Gz | with_reducible refine b0 ?_ gW | with_reducible refine b0 ?_ eU)⟩
theorem afu {r : Nat} {z : Int} (h : wi (134217728 / 2 ^ r) z = true) : small z = true := by
 obtain ⟨m0, m1⟩ := FZ r;unfold wi at h;rw [dQ, cB, cB] at h;unfold small;rw [cB];omega
theorem aeE (aK dK n aC cx d k : Int) (r : Nat) (w : World) (h : gw k r) (H : bt aK dK n) (e6 : bt aC cx d) (hd : ¬ (0 < d)) :
  Calls aj 215 #[.agg #[.int .i64 aK, .int .u64 dK, .int .i64 aC, .int .u64 cx], .int .i64 k] w (uq 0 false w) :=
 IQ aK dK aC cx k r false 0 0 false w h (fun w => (Ss aK dK n aC cx d r w H e6 (.inl hd)).mono fun e w' ⟨he, ab⟩ => ⟨0, 0, he, oq, ab⟩) (.inl ⟨rfl, rfl, rfl⟩)
theorem aeF (aK dK n aC cx d k : Int) (r : Nat) (w : World) (h : gw k r) (H : bt aK dK n) (e6 : bt aC cx d) (hd : 0 < d) (au : wi (134217728 / 2 ^ r) (kX n d r) = false) :
  Calls aj 215 #[.agg #[.int .i64 aK, .int .u64 dK, .int .i64 aC, .int .u64 cx], .int .i64 k] w (uq 0 false w) :=
 IQ aK dK aC cx k r true (kX n d r) 0 false w h (fun w => (JG aK dK n aC cx d r w H e6 hd (by have := h.1; omega)).mono fun e w' k => k)
  (by
   cases hs : small (kX n d r)
   ·exact .inr (.inl ⟨rfl, rfl, rfl, rfl⟩)
   ·exact .inr (.inr (.inl ⟨rfl, rfl, au, rfl, rfl⟩)))
theorem aeG (aK dK n aC cx d k : Int) (r : Nat) (w : World) (h : gw k r) (H : bt aK dK n) (e6 : bt aC cx d) (hd : 0 < d) (au : wi (134217728 / 2 ^ r) (kX n d r) = true) :
  Calls aj 215 #[.agg #[.int .i64 aK, .int .u64 dK, .int .i64 aC, .int .u64 cx], .int .i64 k] w (uq (kX n d r) true w) :=
 IQ aK dK aC cx k r true (kX n d r) _ true w h (fun w => (JG aK dK n aC cx d r w H e6 hd (by have := h.1; omega)).mono fun e w' k => k)
  (.inr (.inr (.inr ⟨rfl, afu au, au, rfl, rfl⟩)))
end Go.Proofs.YtpochbhajmbfdaaGreat
namespace Go.Proofs.YtpochbhajmbfdaaGreat
open Go.RowKit
theorem Pf {v k : Int} {r : Nat} (h : gw k r) (v0 : -9223372036854775808 ≤ v) (v1 : v < 9223372036854775808) : aX aj 72 [aW v, aW k] (aW (ct v r)) :=
 mK [.int .i64 v, .int .i64 k] (.int .i64 (ct v r)) rfl rfl rfl rfl rfl fun W => V7 v k r W h v0 v1
theorem Pp {k : Int} {r : Nat} (h : gw k r) : aX aj 78 [aW k] (aW (2 ^ r)) :=
 mK [.int .i64 k] (.int .i64 (2 ^ r)) rfl rfl rfl rfl rfl fun W => aes k r W h
theorem acC {k : Int} : aX aj 88 [aW k] (bF (decide (0 ≤ k) && decide (k ≤ 28))) :=
 mK [.int .i64 k] (.bool (decide (0 ≤ k) && decide (k ≤ 28))) rfl rfl rfl rfl rfl fun W => V6 k W
theorem zW {x y k : Int} {r : Nat} {b : Bool} (h : gw k r) (ab : eO r x y = b) : aX aj 77 [bh x y, aW k] (bF b) := by
 subst ab;exact mK [.agg #[.int .i64 x, .int .i64 y], .int .i64 k] (.bool (eO r x y)) rfl rfl rfl rfl rfl fun W => RR x y k r W h
theorem acB {x y x' y' : Int} : aX aj 261 [bh x y, bh x' y'] (aW (lR x y x' y')) :=
 mK [.agg #[.int .i64 x, .int .i64 y], .agg #[.int .i64 x', .int .i64 y']] (.int .i64 (lR x y x' y')) rfl rfl rfl rfl rfl fun W => V5 x y x' y' W
theorem Pe {x y k : Int} {r : Nat} (h : gw k r) (Ra : -9223372036854775808 ≤ x) (c7 : x < 9223372036854775808) (nQ : -9223372036854775808 ≤ y) (lv : y < 9223372036854775808) : aX aj 32 [bh x y, aW k] (bh (ct x r) (ct y r)) := by
 refine cl (f := 32) Tryz.func32 rfl rfl rfl rfl ?_;(repeat first | (with_reducible apply aA); exact rfl | refine dM rfl rfl rfl rfl (by (first | exact Pf h Ra c7 | exact Pf h nQ lv)) rfl ?_ | (with_reducible apply hX); kernel_rfl | (with_reducible apply h0); kernel_rfl; kernel_rfl; exact rfl | (with_reducible first | apply bX | apply bN | apply bV | apply aB | apply cd))
 ((refine bU rfl (eV rfl rfl rfl bf) ?_))
 exact ai.bo.refl _
theorem sj {x y k : Int} {r : Nat} (h : gw k r) (ab : eO r x y = true) : aX aj 37 [bh x y, aW k] (bh (2 ^ r * x) (2 ^ r * y)) := by
 obtain ⟨⟨q1, q2⟩, b5, ew⟩ := (CX r x y).1 ab;have aP := zW h ab;have cc := Pp h;clear h ab;generalize (2 : Int) ^ r = P at *;refine cl (f := 37) Tryz.func37 rfl rfl rfl rfl ?_;(repeat first | (with_reducible apply aA); exact rfl | (with_reducible apply sW); (iterate 3 exact rfl); (exact da (by omega)); exact rfl | refine fN rfl rfl rfl (by (exact cc)) rfl ?_ | refine dM rfl rfl rfl rfl (by (exact aP)) rfl ?_ | (with_reducible first | apply bX | apply bN | apply bV | apply aB | apply cd | apply fr) | (with_reducible apply jm); exact rfl)
 ((refine bU rfl (eV rfl rfl rfl bf) ?_))
 exact ai.bo.refl _
theorem ace {x y k : Int} {r : Nat} (h : gw k r) (ab : eO r x y = true) : aX aj 225 [bh x y, aW k] (.cZ [.agg [.c (.int .i64 (2 * (2 ^ r * x) - 2 ^ r)), .c (.int .i64 (2 * (2 ^ r * y) - 2 ^ r))], .agg [.c (.int .i64 (2 * (2 ^ r * x) + 2 ^ r)), .c (.int .i64 (2 * (2 ^ r * y) + 2 ^ r))]]) := by
 obtain ⟨⟨q1, q2⟩, b5, ew⟩ := (CX r x y).1 ab;obtain ⟨lj, zZ⟩ := Im h.1;have aP := zW h ab;have cc := Pp h;have e5 := sj h ab;clear h ab;generalize (2 : Int) ^ r = P at *;generalize P * x = X at *;generalize P * y = Y at *;refine cl (f := 225) Tryz.func225 rfl rfl rfl rfl ?_;(repeat first | (with_reducible apply aA); exact rfl | (with_reducible apply fh); (iterate 3 exact rfl); (exact da (by omega)); exact rfl | (with_reducible apply nX); (iterate 3 exact rfl); (exact da (by omega)); exact rfl | (with_reducible apply sW); (iterate 3 exact rfl); (exact da (by omega)); exact rfl | refine fN rfl rfl rfl (by (exact cc)) rfl ?_ | refine dM rfl rfl rfl rfl (by (first | exact aP | exact e5)) rfl ?_ | (with_reducible apply hX); kernel_rfl | (with_reducible apply h0); kernel_rfl; kernel_rfl; exact rfl | (with_reducible first | apply bX | apply bN | apply bV | apply aB | apply cd | apply fr) | (with_reducible apply jm); exact rfl)
 ((refine bU rfl (eV rfl rfl rfl (eV rfl rfl rfl bf)) ?_))
 exact ai.bo.refl _
def sH (n d : Int) (r : Nat) : Bool := decide (0 < d) && wi (134217728 / 2 ^ r) (kX n d r)
def Ej (n d : Int) (r : Nat) : Int := if sH n d r then kX n d r else 0
theorem Pq {n d k : Int} {r : Nat} (h : gw k r) (f : fits n = true) (g : fits d = true) : aX aj 215 [fv n d, aW k] (.cZ [.one (.c (.int .i64 (Ej n d r))), .one (.c (.bool (sH n d r)))]) := by
 refine mK [fx n d, .int .i64 k] (.tuple #[.int .i64 (Ej n d r), .bool (sH n d r)]) rfl rfl rfl rfl rfl fun W => ?_;unfold Ej sH
 by_cases hd : 0 < d
 ·rw [bB hd, qO];cases hw : wi (134217728 / 2 ^ r) (kX n d r) with
  | true => exact aeG _ _ n _ _ d k r W h (ot f) (ot g) hd hw
  | false => exact aeF _ _ n _ _ d k r W h (ot f) (ot g) hd hw
 ·rw [bR hd, Bool.false_and];exact aeE _ _ n _ _ d k r W h (ot f) (ot g) hd
theorem abR {n d n' d' k : Int} {r : Nat} {b : Bool} (h : gw k r) (f : fits n = true) (g : fits d = true) (kJ : fits n' = true) (iU : fits d' = true) (ab : (sH n d r && sH n' d' r) = b) :
  aX aj 170 [fv n d, fv n' d', aW k] (.cZ [.agg [.c (.int .i64 (if b then kX n d r else 0)), .c (.int .i64 (if b then kX n' d' r else 0))], .one (.c (.bool b))]) := by
 have aP := Pq h f g;have cc := Pq h kJ iU;clear h f g kJ iU;unfold Ej at aP cc;cases q1 : sH n d r <;> cases q2 : sH n' d' r <;> rw [q1] at aP <;> rw [q2] at cc <;> rw [q1, q2] at ab <;> subst ab <;> clear q1 q2
 all_goals
  generalize kX n d r = X at *;generalize kX n' d' r = Y at *;refine cl (f := 170) Tryz.func170 rfl rfl rfl rfl ?_;(repeat first | (with_reducible apply aA); exact rfl | refine dM rfl rfl rfl rfl (by (first | exact aP | exact cc)) rfl ?_ | (with_reducible first | apply bX | apply bN | apply bV | apply aB | apply cd | apply fr | apply gy) | (with_reducible apply kE); exact rfl | (with_reducible apply jm); exact rfl)
  ((refine bU rfl (eV rfl rfl rfl (bE rfl bf)) ?_))
  exact ai.bo.refl _
end Go.Proofs.YtpochbhajmbfdaaGreat
namespace Go.Proofs.YtpochbhajmbfdaaGreat
abbrev di := Int × Int × Int
def lQ (x y z w : Int) : Bool := decide (x < z) || (decide (x = z) && decide (y < w))
theorem oE {x y z w : Int} : lQ x y z w = true ↔ x < z ∨ (x = z ∧ y < w) := by
 unfold lQ; simp
def tV (l : List di) (x y : Int) : List di := l.filter fun e => lQ e.1 e.2.1 x y
def DQ (l : List di) (x y : Int) : List di := l.filter fun e => lQ x y e.1 e.2.1
def sn (l : List di) (x y v : Int) : List di := tV l x y ++ (x, y, v) :: DQ l x y
def tm (l : List di) (x y : Int) : Int := match l.findIdx? fun e => decide (e.1 = x) && decide (e.2.1 = y) with
 | some k => k
 | none => -1
def jN (l : List di) : Prop := l.Pairwise fun a b => lQ a.1 a.2.1 b.1 b.2.1 = true
theorem abO {a b c d e f : Int} (h1 : lQ a b c d = true) (h2 : lQ c d e f = true) : lQ a b e f = true := by
 rw [oE] at *; omega
theorem adb {l : List di} (h : jN l) (x y v : Int) : jN (sn l x y v) := by
 unfold sn tV DQ jN;rw [List.pairwise_append, iN];refine ⟨h.filter _, ⟨fun e he => ?_, h.filter _⟩, fun a aK b ab => ?_⟩
 ·exact (List.mem_filter.1 he).2
 ·have h1 := (List.mem_filter.1 aK).2;rcases gI.1 ab with rfl | ab
  ·exact h1
  ·exact abO h1 (List.mem_filter.1 ab).2
def gV (l : List di) (x y : Int) : Bool := l.any fun e => decide (e.1 = x) && decide (e.2.1 = y)
theorem LM (l : List di) (x y : Int) : decide (0 ≤ tm l x y) = gV l x y := by
 unfold tm gV;cases h : l.findIdx? fun e => decide (e.1 = x) && decide (e.2.1 = y) with
 | none =>
  rw [List.findIdx?_eq_none_iff] at h
  have : (l.any fun e => decide (e.1 = x) && decide (e.2.1 = y)) = false := by
   rw [List.any_eq_false]; intro e he; rw [h e he]; decide
  rw [this]; rfl
 | some k =>
  have aG := List.findIdx?_eq_some_iff_getElem.1 h;obtain ⟨af, h1, _⟩ := aG;have : (l.any fun e => decide (e.1 = x) && decide (e.2.1 = y)) = true := List.any_eq_true.2 ⟨l[k], List.getElem_mem af, h1⟩;rw [this]; simp
theorem Wo {l : List di} {x y : Int} (h : 0 ≤ tm l x y) : ∃ k v, tm l x y = (k : Nat) ∧ k < l.length ∧ l[k]? = some (x, y, v) := by
 unfold tm at h ⊢;cases au : l.findIdx? fun e => decide (e.1 = x) && decide (e.2.1 = y) with
 | none => rw [au] at h; simp at h
 | some k =>
  obtain ⟨af, h1, _⟩ := List.findIdx?_eq_some_iff_getElem.1 au;simp only [dQ, cB] at h1;refine ⟨k, l[k].2.2, rfl, af, ?_⟩;rw [cm af];congr 1;exact Prod.ext h1.1 (Prod.ext h1.2 rfl)
def nP (l : List di) (x y : Int) : Int := match l.findIdx? fun e => decide (e.1 = x) && decide (e.2.1 = y) with
 | some k => (l.getD k (0, 0, 0)).2.2
 | none => 0
theorem afq {l : List di} {x y v : Int} {k : Nat} (h : tm l x y = k) (an : l[k]? = some (x, y, v)) : nP l x y = v := by
 unfold tm at h;unfold nP;cases au : l.findIdx? fun e => decide (e.1 = x) && decide (e.2.1 = y) with
 | none => rw [au] at h; simp at h
 | some j =>
  rw [au] at h;have : j = k := by simp at h; omega
  subst this;simp only [xp, an]; rfl
theorem afo {l : List di} {x y : Int} (h : gV l x y = false) : nP l x y = 0 := by
 have h2 := LM l x y;rw [h] at h2;unfold tm at h2;unfold nP;cases au : l.findIdx? fun e => decide (e.1 = x) && decide (e.2.1 = y) with
 | none => rfl
 | some j => rw [au] at h2; simp at h2
theorem ac9 (l : List di) (x y : Int) : (tV l x y).length ≤ l.length := List.length_filter_le _ _
theorem QT {l : List di} (h : jN l) {x y v : Int} (hm : (x, y, v) ∈ l) : gV l x y = true ∧ nP l x y = v := by
 have aY : gV l x y = true := List.any_eq_true.2 ⟨_, hm, by simp⟩;have aw := LM l x y;rw [aY] at aw;obtain ⟨k, u, h1, h2, ap⟩ := Wo (of_decide_eq_true aw);refine ⟨aY, ?_⟩;rw [afq h1 ap];obtain ⟨j, ae⟩ := jX hm;have CF := (bS.1 ae).1;have gU : l[k] = (x, y, u) := (bS.1 ap).2;have k8 : l[j] = (x, y, v) := (bS.1 ae).2;unfold jN at h;rw [List.pairwise_iff_getElem] at h;rcases Nat.lt_trichotomy k j with q | q | q
 ·have := h k j h2 CF q;rw [gU, k8, oE] at this;simp at this
 ·subst q;rw [gU] at k8;cases k8; rfl
 ·have := h j k CF h2 q;rw [gU, k8, oE] at this;simp at this
end Go.Proofs.YtpochbhajmbfdaaGreat
namespace Go.Proofs.YtpochbhajmbfdaaGreat
open Go.RowKit
def dX : List di → List AC
 | [] => []
 | e :: l => .c (.int .i64 e.1) :: .c (.int .i64 e.2.1) :: .c (.int .i64 e.2.2) :: dX l
theorem FR : ∀ (l : List di) (i : Nat) (e : di), l[i]? = some e → ((dX l).drop (i * 3)).take 3 = [.c (.int .i64 e.1), .c (.int .i64 e.2.1), .c (.int .i64 e.2.2)]
 | [], i, p, h => by simp at h
 | q :: l, 0, p, h => by simp at h; subst h; simp [dX]
 | q :: l, i + 1, p, h => by
  have e : (i + 1) * 3 = i * 3 + 1 + 1 + 1 := by omega
  rw [e];simp only [dX, List.drop_succ_cons];exact FR l i p (by simpa using h)
theorem Lg {l : List di} {j : Int} {i : Nat} {x y v : Int} (ae : j = i) (h : l[i]? = some (x, y, v)) : ((dX l).drop (j.toNat * 3)).take 3 = [.c (.int .i64 x), .c (.int .i64 y), .c (.int .i64 v)] := by
 subst ae;exact FR l i (x, y, v) h
theorem ys : ∀ (l : List di), (dX l).length = l.length * 3
 | [] => rfl
 | p :: l => by simp only [dX, lm, ys l]; omega
theorem yr : ∀ (l m : List di), dX (l ++ m) = dX l ++ dX m
 | [], _ => rfl
 | p :: l, m => by simp only [List.cons_append, dX, yr l m]
theorem Lc : ∀ (l : List di), (dX l).all AC.bc = true
 | [] => rfl
 | p :: l => by simp only [dX, j1, Lc l]; rfl
abbrev Dk (x y : Int) : List AC := [.c (.int .i64 x), .c (.int .i64 y)]
abbrev QS (k : Nat) : ai := .w (.one (.own k 0))
def sC (n : Int) : Int := if n < 1 then 1 else if 1024 < n then 1024 else n
def kU (l : List ao) (x y : Int) : Int := match l.findIdx? fun e => decide (e.1 = x) && decide (e.2 = y) with
 | some k => k
 | none => -1
def xV (P : Program) (f : FuncId) (args : List ai) (r : bL) (post : ai → bL → Prop) : Prop :=
 ∀ i, dn P f args ca (bI i r) fun v aH az => ∃ a8, aH = ca ∧ az = bI i a8 ∧ post v a8
theorem PT {args : List ai} (aK : args.all ai.bc = true) : args.map (ai.bd fun j => j) = args := by
 rw [cu] at aK
 conv => rhs; rw [← List.map_id args]
 exact pG fun x aa => vr (aK x aa)
theorem adt {P : Program} {f : FuncId} {args : List ai} {r : bL} {post : ai → bL → Prop} (aK : args.all ai.bc = true) (hp : ∀ v a8, post v a8 → v.bc = true)
  (h : dn P f args ca (bI 0 r) fun v aH az => ∃ a8, aH = ca ∧ az = bI 0 a8 ∧ post v a8) : xV P f args r post := by
 intro i;have h1 := h.bd (bJ := fun j => j) (cq := swp 0 i) (ir := swp 0 i) (fun _ => rfl) (mQ _ _) (mQ _ _);rw [PT aK, show Mem.bd (fun j => j) ca = ca from rfl, Ad] at h1;refine ⟨fun U ad W vs cK ee dH => (h1.call U ad W vs cK ee dH).mono ?_⟩;rintro e W' ⟨v, cP, aH, az, bg, cA, cY, ⟨ea, m2, eY, ⟨a8, rfl, rfl, al⟩, rfl, rfl, rfl⟩, q⟩;rw [show Mem.bd (fun j => j) ca = ca from rfl, Ad, vr (hp _ _ al)] at q;exact ⟨v, ea, ca, bI i a8, bg, cA, cY, ⟨a8, rfl, rfl, al⟩, q⟩
theorem Mj {P : Program} {fn : Func} {l : List ResultVar} {xs : List bG} {R : aJ} {s : aD} {r a8 : bL} {post : ai → bL → Prop} (aq : fn.results = l.toArray) (h : l.map (ik P s) = xs.map some) (hi : R 0 = some a8) (aa : (packed xs).bc = true)
  (hp : post (packed xs) a8) : tv P fn ca (bI 0 r) (fun v aH az => ∃ a8, aH = ca ∧ az = bI 0 a8 ∧ post v a8) R s := by
 refine ⟨xs, packed xs, ca, bI 0 a8, by rw [aq]; exact h, .refl _, ⟨a8, rfl, rfl, hp⟩, fun k c h => (by cases h), fun i q h => ?_, fun j ae => absurd ae (ai.dw aa j), fun k c x j h => (by cases h), fun k c h => (by cases h), fun i q h => ?_⟩
 ·obtain ⟨rfl, rfl⟩ := fG h; exact hi
 ·obtain ⟨rfl, rfl⟩ := fG h; exact ⟨a8, by unfold bI; exact cr _ _ _⟩
section
variable {P : Program} {R : aJ} {s : aD} {ops : Array Oper} {dr : Option (List Nat)} {ty : Nat} {pos : String} {after : Array Edge} {guard : Option (Nat × Bool)} {K : aJ → aD → Prop} {rest : List Oper}
theorem tU (s : aD) : s.over ca = s := by
 show ({ s with mem := bZ (fun _ => none) s.mem } : aD) = s;rw [O3]
theorem MN (i : Nat) {dst : Option Nat} {f : FuncId} {g : Operand} {aS : Array TypeId} {l : List Operand} {args : List ai} {r : bL} {post : ai → bL → Prop} [E : Enters P f] (hw : want ops ⟨dst, .call ⟨.value g, l.toArray, aS⟩, ty, pos, after, guard⟩ s = some true) (hm : dJ dr ⟨dst, .call ⟨.value g, l.toArray, aS⟩, ty, pos, after, guard⟩ = true)
  (aw : s.look g = some (aQ (.func (.func f) #[] #[]))) (aK : l.map s.look = args.map some) (hp : xV P f args r post) (hi : R i = some r) (ek : args.all ai.bc = true) (hd : kH dst s.n = true)
  (h : ∀ v a8, post v a8 → cL P ops dr K rest (bM R i a8) (s.put dst v)) : cL P ops dr K (⟨dst, .call ⟨.value g, l.toArray, aS⟩, ty, pos, after, guard⟩ :: rest) R s := by
 refine u0 hw hm aw aK (hp i) (fun x aa j ae => absurd ae (ai.dw (cu.1 ek x aa) j)) (fun k' ar aC => by cases aC) (fun ft a8 aC => ?_) (fun k' ar x j aC aa ae => by cases aC) hd ?_
 ·obtain ⟨rfl, rfl⟩ := fG aC; exact hi
 ·rintro v aH az ⟨a8, rfl, rfl, al⟩;refine ⟨fun k' c aC => (by cases aC), ?_⟩;rw [show bZ (bI i a8) R = bM R i a8 from vl R i a8, tU];exact h v a8 al
theorem y9 {x : Operand} {t f hK off : Nat} {r : bL} (i : Nat) [S : p5 P t f hK] {d : Nat} (hi : R i = some r) (hw : want ops ⟨some d, .fieldAddr t x f, ty, pos, after, guard⟩ s = some true) (aa : s.look x = some (aQ (jg r.v off))) (aF : 0 < r.n) (aq : tZ ops dr (some d) = true) (hd : Nat.blt d s.n = true) (h : cL P ops dr K rest R (s.put (some d) (aQ (jg r.v (off + hK))))) : cL P ops dr K (⟨some d, .fieldAddr t x f, ty, pos, after, guard⟩ :: rest) R s :=
 zc hw (.ng i r off t f hK x hi aF rfl aa S.h) rfl aq hd h
end
structure JF (W W' : World) (r a8 : bL) (U : Nat → Prop) : Prop where
 grown : W.grownBy W' r.v.ownBlock
 row : ∃ xs, W'.ownsRow 0 a8.e a8.sz a8.v a8.n xs ∧ bP U id W a8.aV xs
 pa : ∀ y ∈ a8.aV, y.bc = true
 afO : ∀ g, a8.v.ownBlock = some g → r.v.ownBlock = some g ∨ W.heap.size ≤ g
theorem bP.I0 {U : Nat → Prop} {ad bg : Nat → Nat} {W : World} {xs : List AC} {vs : List Value} (ak : ∀ y ∈ xs, y.bc = true) (h : bP U ad W xs vs) : bP U bg W xs vs := h.wo ak fun b ab _ => ⟨ab, rfl⟩
theorem jO.I0 {U : Nat → Prop} {ad : Nat → Nat} {W : World} {args : List ai} {vs : List Value} (ak : args.all ai.bc = true) (h : jO U ad W args vs) : jO U id W args vs :=
 ⟨h.1, fun i x v aa hv => Rel.M2 (ai.dw (cu.1 ak x (dF aa))) (h.2 i x v aa hv)⟩
theorem ZI {U : Nat → Prop} {W W' : World} {row : Option Nat} (aw : W.grownBy W' row) (aq : ∀ g, row = some g → ¬ U g) : ∀ b, U b → b < W.heap.size → (U b ∧ b < W.heap.size) ∧ W'.heap[b]? = W.heap[b]? := fun b ab an =>
 ⟨⟨ab, an⟩, aw.block b an fun e => aq b e.symm ab⟩
theorem adu {P : Program} {f : FuncId} {args : List ai} {r : bL} {post : ai → bL → Prop} (ek : args.all ai.bc = true) (bQ : 0 < r.sz) (wX : ∀ b7 a8, post b7 a8 → 0 < a8.sz)
  (h : ∀ (U : Nat → Prop) (W : World) (vs : List Value) (xs : List Value), W.ownsRow 0 r.e r.sz r.v r.n xs → bP U id W r.aV xs → (∀ y ∈ r.aV, y.bc = true) → (∀ g, r.v.ownBlock = some g → ¬ U g) → jO U id W args vs →
   Calls P f vs.toArray W fun e W' => ∃ v b7 a8, e = .returned v ∧ post b7 a8 ∧ JF W W' r a8 U ∧ dc U id W b7 v ∧ b7.bc = true) : xV P f args r post := by
 intro i;refine ⟨fun U ad W vs cK ee dH => ?_⟩;obtain ⟨od, cO, X1⟩ := cK.rows i r (by unfold bI; exact cr _ _ _);obtain ⟨xs, ax, an⟩ := od.row bQ;have uW := fun g aw => X1 g (.inl aw);refine (h U W vs xs ax (an.I0 cO) cO (fun g aw => (uW g aw).1) (dH.I0 ek)).mono ?_;rintro e W' ⟨v, b7, a8, rfl, hp, ⟨iC, ⟨aV, gB, hq⟩, rR, oa⟩, pz, nm⟩;have NE := ZI iC fun g aw => (uW g aw).1
 have gn : ∀ b, ec ad ca (bI i r) b ↔ r.v.ownBlock = some b := fun b => by
  constructor
  ·rintro (⟨k, cs, af, _⟩ | ⟨j, q, ae, aw⟩)
   ·cases af
   ·obtain ⟨rfl, rfl⟩ := fG ae; exact bL.oD aw bQ
  ·intro aw; exact .inr ⟨i, r, by unfold bI; exact cr _ _ _, .inl aw⟩
 refine ⟨v, b7, ca, bI i a8, ad, fun b => U b ∧ b < W.heap.size, rfl, ⟨a8, rfl, rfl, hp⟩, ⟨fun k cs af => (by cases af), fun k cs x j af => (by cases af), fun k k' cs ar af => (by cases af), fun j q ae => ?_, fun j k q cy ae af kM => ?_⟩, ?_, fun j ae => absurd ae (ai.dw nm j), fun k cs af => (by cases af), fun j q ae => ?_, fun b ab => .inl ab.1, ?_, ⟨iC.os, iC.tape, iC.output, iC.size, fun b ab => iC.block b ab.1 fun e => ab.2 ((gn b).2 e.symm)⟩⟩
 ·obtain ⟨rfl, rfl⟩ := fG ae;refine ⟨.inl ⟨wX _ _ hp, aV, gB, hq.wo rR NE⟩, rR, fun g aw => ⟨fun hu => ?_, fun k cs af => (by cases af)⟩⟩;rcases oa g (bL.oD aw (wX _ _ hp)) with q | q
  ·exact (uW g q).1 hu.1
  ·omega
 ·obtain ⟨rfl, _⟩ := fG ae;obtain ⟨rfl, _⟩ := fG af;exact absurd rfl kM
 ·exact pz.map NE fun j ae => absurd ae (ai.dw nm j)
 ·obtain ⟨rfl, rfl⟩ := fG ae;exact ⟨a8, by unfold bI; exact cr _ _ _⟩
 ·rintro b (⟨k, cs, af, _⟩ | ⟨j, q, ae, aw⟩)
  ·cases af
  ·obtain ⟨rfl, rfl⟩ := fG ae;rcases oa b (bL.oD aw (wX _ _ hp)) with z | z
   ·exact .inl ((gn b).2 z)
   ·exact .inr z
theorem IF (i : Nat) {P : Program} {R : aJ} {s : aD} {c : Code} {Q : Exit → aJ → aD → Prop} {r : bL} (hi : R i = some r) (h : ∀ A k, r.v = .slice A r.n k → r.n ≤ k → k ≤ maxLen → (0 < r.n → ∃ g, A = some ⟨g, 0, none⟩) → r.aV.length = r.n * r.sz → fp P c Q R s) (bQ : 0 < r.sz := by first | decide | exact jd _) : fp P c Q R s := by
 rintro ok br bY a w ⟨A, ad, ay⟩;obtain ⟨xs, ax, an⟩ := (ay.rows i r hi).cells bQ;have hlen : r.aV.length = r.n * r.sz := an.1.trans ax.1;rcases ax.2 with ⟨e, dp⟩ | ⟨g, cap, cur, e, _, _, eK, jq, _⟩
 ·exact h none 0 (by rw [e, dp]) (by omega) (eC _) (fun h => by omega) hlen ok br bY a w ⟨A, ad, ay⟩
 ·exact h _ cap e eK jq (fun _ => ⟨g, rfl⟩) hlen ok br bY a w ⟨A, ad, ay⟩
theorem Rel.adA {B : eS} {A : Nat → Prop} {s : aD} {ad : Nat → Nat} {a : Act} {w : World} {k : Nat} {cs ds : List AC} (h : Rel B A s ad a w) (af : s.mem k = some cs) (aq : ∀ vs, bP (s.free A ad) ad w cs vs → bP (s.free A ad) ad w ds vs) : Rel B A (s.dV k ds) ad a w := by
 obtain ⟨vs, ty, g1, g2, _⟩ := h.du k cs af;have := h.set af (aq vs g2);rwa [setRow_self w (ad k) vs.toArray ty (0, 0) g1] at this
def uK (n : Int) : Bool := decide (-134217728 ≤ n) && decide (n ≤ 134217728)
theorem Pc {n : Int} {b : Bool} (ab : uK n = b) : aX aj 216 [aW n] (bF b) := by
 have cs : (-134217728 ≤ n ∧ n ≤ 134217728 ∧ b = true) ∨ (-134217728 ≤ n ∧ ¬ n ≤ 134217728 ∧ b = false) ∨ (¬ -134217728 ≤ n ∧ b = false) := by
  rw [← ab]; unfold uK
  by_cases h1 : -134217728 ≤ n <;> by_cases h2 : n ≤ 134217728 <;> simp [h1, h2]
 clear ab;rcases cs with ⟨h1, h2, rfl⟩ | ⟨h1, h2, rfl⟩ | ⟨h1, rfl⟩
 all_goals
  refine cl (f := 216) Tryz.func216 rfl rfl rfl rfl ?_;(repeat first | (with_reducible apply aA); exact rfl | (with_reducible apply c8 (c := true)); exact rfl; exact rfl; (exact bB (by omega)) | (with_reducible apply c8 (c := false)); exact rfl; exact rfl; (exact bR (by omega)) | (with_reducible first | apply bX | apply bN | apply bV | apply aB | apply cd))
  ((refine bU rfl (bE rfl bf) ?_))
  first | exact ai.bo.refl _ | exact ai.bo.of_eq (by rw [bB h2]; rfl) | exact ai.bo.of_eq (by rw [bR h2]; rfl)
theorem ads (x y : Int) : cH x y = (uK x && uK y) := by
 unfold cH uK;rw [oK];simp only [dQ, cB];omega
theorem kV {x y : Int} (h : cH x y = true) : eb x y = true := by rw [sw] at h; rw [PS]; omega
theorem oF {x y : Int} {b : Bool} (ab : cH x y = b) : aX aj 171 [bh x y] (bF b) := by
 have aP := Pc (n := x) rfl;have cc := Pc (n := y) rfl;rw [ads] at ab;cases q1 : uK x <;> cases q2 : uK y <;> rw [q1] at aP <;> rw [q2] at cc <;> rw [q1, q2] at ab <;> subst ab <;> clear q1 q2
 all_goals
  refine cl (f := 171) Tryz.func171 rfl rfl rfl rfl ?_;(repeat first | (with_reducible apply aA); exact rfl | refine fN rfl rfl rfl (by (first | exact aP | exact cc)) rfl ?_ | (with_reducible first | apply bX | apply bN | apply bV | apply aB | apply cd))
  ((refine bU rfl (bE rfl bf) ?_))
  exact ai.bo.refl _
theorem abS {n m : Int} : aX aj 285 [aW n, aW m] (aW (fJ n m)) :=
 mK [.int .i64 n, .int .i64 m] (.int .i64 (fJ n m)) rfl rfl rfl rfl rfl fun W => EL n m W
abbrev jH (n d : Int) (o : Bool) : ai := .w (.agg [.c (.int .i64 n), .c (.int .i64 d), .c (.bool o)])
abbrev ua (x : hl) : ai := jH x.n x.d x.own
def lA (x : hl) : Prop := (-2000000000 ≤ x.n ∧ x.n ≤ 2000000000) ∧ 0 < x.d ∧ x.d ≤ 2000000000
theorem aaM {x y : Int} (h1 : -2000000000 ≤ x) (h2 : x ≤ 2000000000) (ap : 0 ≤ y) (aL : y ≤ 2000000000) : -4000000000000000000 ≤ x * y ∧ x * y ≤ 4000000000000000000 := by
 have a1 : x * y ≤ 2000000000 * y := pI h2 ap;have a2 : -2000000000 * y ≤ x * y := pI h1 ap;omega
theorem Kp {x y : hl} (aa : lA x) (ag : lA y) : IntKind.i64.wrap (x.n * y.d) = x.n * y.d := by
 obtain ⟨⟨a1, a2⟩, a3, a4⟩ := aa;obtain ⟨⟨b1, b2⟩, ed, dD⟩ := ag;have := aaM a1 a2 (by omega : (0 : Int) ≤ y.d) dD;exact da (by omega)
theorem acR {n d m e c : Int} {o q : Bool} (aP : aX aj 285 [aW (n * e), aW (m * d)] (aW c)) (aO : IntKind.i64.wrap (n * e) = n * e) (w2 : IntKind.i64.wrap (m * d) = m * d) : aX aj 284 [jH n d o, jH m e q] (aW c) := by
 refine cl (f := 284) Tryz.func284 rfl rfl rfl rfl ?_;(repeat first | (with_reducible apply aA); exact rfl | (with_reducible apply sW); (iterate 3 exact rfl); (assumption); exact rfl | refine dM rfl rfl rfl rfl (by (exact aP)) rfl ?_ | (with_reducible first | apply bX | apply bN | apply bV | apply aB | apply cd))
 ((refine bU rfl (bE rfl bf) ?_))
 exact ai.bo.refl _
theorem Ik {x y : hl} (aa : lA x) (ag : lA y) : aX aj 284 [ua x, ua y] (aW (gT x y)) :=
 acR abS (Kp aa ag) (Kp ag aa)
theorem acL {n d m e c : Int} {o q : Bool} {cP ea : Int} {hB : Bool} (aP : aX aj 284 [jH n d o, jH m e q] (aW c)) (cs : (0 < c ∧ cP = n ∧ ea = d ∧ hB = o) ∨ (¬ 0 < c ∧ c = 0 ∧ q = true ∧ cP = n ∧ ea = d ∧ hB = o) ∨ (¬ 0 < c ∧ c = 0 ∧ q = false ∧ cP = m ∧ ea = e ∧ hB = q) ∨ (¬ 0 < c ∧ ¬ c = 0 ∧ cP = m ∧ ea = e ∧ hB = q)) : aX aj 294 [jH n d o, jH m e q] (jH cP ea hB) := by
 rcases cs with ⟨q1, rfl, rfl, rfl⟩ | ⟨q1, q2, rfl, rfl, rfl, rfl⟩ | ⟨q1, q2, rfl, rfl, rfl, rfl⟩ | ⟨q1, q2, rfl, rfl, rfl⟩
 all_goals
  refine cl (f := 294) Tryz.func294 rfl rfl rfl rfl ?_;(repeat first | (with_reducible apply aA); exact rfl | refine dM rfl rfl rfl rfl (by (exact aP)) rfl ?_ | (with_reducible apply c8 (c := true)); exact rfl; exact rfl; (exact bB (by omega)) | (with_reducible apply c8 (c := false)); exact rfl; exact rfl; (exact bR (by omega)) | (with_reducible first | apply bX | apply bN | apply bV | apply aB | apply cd | apply fr | apply gy) | (with_reducible apply kE); exact rfl | (with_reducible apply jm); exact rfl)
  ((refine bU rfl (eV rfl rfl rfl bf) ?_))
  exact ai.bo.refl _
theorem acK {x y : hl} (aa : lA x) (ag : lA y) : aX aj 294 [ua x, ua y] (ua (qA x y)) := by
 refine acL (Ik aa ag) ?_;rcases NF x y with ⟨e, h⟩ | ⟨e, h⟩ <;> rw [e]
 ·by_cases h1 : 0 < gT x y
  ·exact .inl ⟨h1, rfl, rfl, rfl⟩
  ·rcases h with h | ⟨h, k⟩
   ·exact absurd h h1
   ·exact .inr (.inl ⟨h1, h, k, rfl, rfl, rfl⟩)
 ·have h1 : ¬ 0 < gT x y := fun k => h (.inl k)
  by_cases h2 : gT x y = 0
  ·refine .inr (.inr (.inl ⟨h1, h2, ?_, rfl, rfl, rfl⟩));cases ag : y.own with
   | false => rfl
   | true => exact absurd (.inr ⟨h2, ag⟩) h
  ·exact .inr (.inr (.inr ⟨h1, h2, rfl, rfl, rfl⟩))
theorem acA {n d m e c : Int} {o q : Bool} {cP ea : Int} {hB : Bool} (aP : aX aj 284 [jH n d o, jH m e q] (aW c)) (cs : (c < 0 ∧ cP = n ∧ ea = d ∧ hB = o) ∨ (¬ c < 0 ∧ c = 0 ∧ q = true ∧ cP = n ∧ ea = d ∧ hB = o) ∨ (¬ c < 0 ∧ c = 0 ∧ q = false ∧ cP = m ∧ ea = e ∧ hB = q) ∨ (¬ c < 0 ∧ ¬ c = 0 ∧ cP = m ∧ ea = e ∧ hB = q)) : aX aj 295 [jH n d o, jH m e q] (jH cP ea hB) := by
 rcases cs with ⟨q1, rfl, rfl, rfl⟩ | ⟨q1, q2, rfl, rfl, rfl, rfl⟩ | ⟨q1, q2, rfl, rfl, rfl, rfl⟩ | ⟨q1, q2, rfl, rfl, rfl⟩
 all_goals
  refine cl (f := 295) Tryz.func295 rfl rfl rfl rfl ?_;(repeat first | (with_reducible apply aA); exact rfl | refine dM rfl rfl rfl rfl (by (exact aP)) rfl ?_ | (with_reducible apply c8 (c := true)); exact rfl; exact rfl; (exact bB (by omega)) | (with_reducible apply c8 (c := false)); exact rfl; exact rfl; (exact bR (by omega)) | (with_reducible first | apply bX | apply bN | apply bV | apply aB | apply cd | apply fr | apply gy) | (with_reducible apply kE); exact rfl | (with_reducible apply jm); exact rfl)
  ((refine bU rfl (eV rfl rfl rfl bf) ?_))
  exact ai.bo.refl _
theorem acz {x y : hl} (aa : lA x) (ag : lA y) : aX aj 295 [ua x, ua y] (ua (qh x y)) := by
 refine acA (Ik aa ag) ?_;rcases K8 x y with ⟨e, h⟩ | ⟨e, h⟩ <;> rw [e]
 ·by_cases h1 : gT x y < 0
  ·exact .inl ⟨h1, rfl, rfl, rfl⟩
  ·rcases h with h | ⟨h, k⟩
   ·exact absurd h h1
   ·exact .inr (.inl ⟨h1, h, k, rfl, rfl, rfl⟩)
 ·have h1 : ¬ gT x y < 0 := fun k => h (.inl k)
  by_cases h2 : gT x y = 0
  ·refine .inr (.inr (.inl ⟨h1, h2, ?_, rfl, rfl, rfl⟩));cases ag : y.own with
   | false => rfl
   | true => exact absurd (.inr ⟨h2, ag⟩) h
  ·exact .inr (.inr (.inr ⟨h1, h2, rfl, rfl, rfl⟩))
abbrev gv (a1 a2 b1 b2 n d : Int) (o : Bool) (m e : Int) (q : Bool) : ai := .w (.agg [.c (.int .i64 a1), .c (.int .i64 a2), .c (.int .i64 b1), .c (.int .i64 b2), .c (.int .i64 n), .c (.int .i64 d), .c (.bool o), .c (.int .i64 m), .c (.int .i64 e), .c (.bool q)])
abbrev Ex (a1 a2 b1 b2 : Int) (p : Pa) : ai := gv a1 a2 b1 b2 p.f.n p.f.d p.f.own p.t.n p.t.d p.t.own
def xT (p : Pa) : Prop := lA p.f ∧ lA p.t
theorem acJ {a1 a2 b1 b2 n d m e u v : Int} {o q w : Bool} {n' d' aH bu : Int} {fu cy : Bool} (hu : -1100000000 ≤ u ∧ u ≤ 1100000000) (hv : -1100000000 ≤ v ∧ v ≤ 1100000000)
  (cs : (0 < v - u ∧ aX aj 294 [jH n d o, jH (-u) (v - u) w] (jH n' d' fu) ∧ aH = m ∧ bu = e ∧ cy = q) ∨ (¬ 0 < v - u ∧ v - u < 0 ∧ aX aj 295 [jH m e q, jH u (-(v - u)) w] (jH aH bu cy) ∧ n' = n ∧ d' = d ∧ fu = o)
   ∨ (¬ 0 < v - u ∧ ¬ v - u < 0 ∧ u < 0 ∧ n' = 1 ∧ d' = 1 ∧ fu = false ∧ aH = 0 ∧ bu = 1 ∧ cy = false) ∨ (¬ 0 < v - u ∧ ¬ v - u < 0 ∧ ¬ u < 0 ∧ u = 0 ∧ w = false ∧ n' = 1 ∧ d' = 1 ∧ fu = false ∧ aH = 0 ∧ bu = 1 ∧ cy = false)
   ∨ (¬ 0 < v - u ∧ ¬ v - u < 0 ∧ ¬ u < 0 ∧ u = 0 ∧ w = true ∧ n' = n ∧ d' = d ∧ fu = o ∧ aH = m ∧ bu = e ∧ cy = q) ∨ (¬ 0 < v - u ∧ ¬ v - u < 0 ∧ ¬ u < 0 ∧ ¬ u = 0 ∧ n' = n ∧ d' = d ∧ fu = o ∧ aH = m ∧ bu = e ∧ cy = q)) :
  aX aj 283 [gv a1 a2 b1 b2 n d o m e q, aW u, aW v, bF w] (gv a1 a2 b1 b2 n' d' fu aH bu cy) := by
 rcases cs with ⟨q1, aP, rfl, rfl, rfl⟩ | ⟨q1, q2, aP, rfl, rfl, rfl⟩ | ⟨q1, q2, b5, rfl, rfl, rfl, rfl, rfl, rfl⟩ | ⟨q1, q2, b5, ew, rfl, rfl, rfl, rfl, rfl, rfl, rfl⟩ | ⟨q1, q2, b5, ew, rfl, rfl, rfl, rfl, rfl, rfl, rfl⟩ | ⟨q1, q2, b5, ew, rfl, rfl, rfl, rfl, rfl, rfl⟩
 ·refine cl (f := 283) Tryz.func283 rfl rfl rfl rfl ?_;(repeat first | (with_reducible apply aA); exact rfl | (with_reducible apply nX); (iterate 3 exact rfl); (exact da (by omega)); exact rfl | (with_reducible apply Kc); exact rfl; exact rfl; (exact da (by omega)); exact rfl | refine dM rfl rfl rfl rfl (by (exact aP)) rfl ?_ | (with_reducible first | apply bX | apply bN | apply bV | apply aB | apply cd | apply iS | apply mX) | (with_reducible apply hI); exact rfl; (exact bB (by omega)))
  ((refine bU rfl (eV rfl rfl rfl bf) ?_))
  exact ai.bo.refl _
 ·refine cl (f := 283) Tryz.func283 rfl rfl rfl rfl ?_;(repeat first | (with_reducible apply aA); exact rfl | (with_reducible apply nX); (iterate 3 exact rfl); (exact da (by omega)); exact rfl | (with_reducible apply Kc); exact rfl; exact rfl; (exact da (by omega)); exact rfl | refine dM rfl rfl rfl rfl (by (exact aP)) rfl ?_ | (with_reducible first | apply bX | apply bN | apply bV | apply aB | apply cd | apply iS | apply mX) | (with_reducible apply hI); exact rfl; (exact bB (by omega)) | (with_reducible apply hZ); exact rfl; (exact bR (by omega)))
  ((refine bU rfl (eV rfl rfl rfl bf) ?_))
  exact ai.bo.refl _
 all_goals
  refine cl (f := 283) Tryz.func283 rfl rfl rfl rfl ?_;(repeat first | (with_reducible apply aA); exact rfl | (with_reducible apply nX); (iterate 3 exact rfl); (exact da (by omega)); exact rfl | (with_reducible apply c8 (c := true)); exact rfl; exact rfl; (exact bB (by omega)) | (with_reducible apply c8 (c := false)); exact rfl; exact rfl; (exact bR (by omega)) | (with_reducible first | apply bX | apply bN | apply bV | apply aB | apply cd | apply fr | apply iS | apply mX) | (with_reducible apply kE); exact rfl | (with_reducible apply jm); exact rfl | (with_reducible apply hI); exact rfl; (exact bB (by omega)) | (with_reducible apply hZ); exact rfl; (exact bR (by omega)))
  ((refine bU rfl (eV rfl rfl rfl bf) ?_))
  exact ai.bo.refl _
theorem ZS {x y : hl} (aa : lA x) (ag : lA y) : lA (qA x y) := by unfold qA; split <;> assumption
theorem Vi {x y : hl} (aa : lA x) (ag : lA y) : lA (qh x y) := by unfold qh; split <;> assumption
theorem Db {p : Pa} {u v : Int} {w : Bool} (hp : xT p) (hu : -900000000 ≤ u ∧ u ≤ 900000000) (hv : -900000000 ≤ v ∧ v ≤ 900000000) : xT (nx p u v w) := by
 unfold nx
 by_cases h1 : 0 < v - u
 ·rw [if_pos h1]; exact ⟨ZS hp.1 ⟨by simp only; omega, by simp only; omega⟩, hp.2⟩
 ·rw [if_neg h1]
  by_cases h2 : v - u < 0
  ·rw [if_pos h2]; exact ⟨hp.1, Vi hp.2 ⟨by simp only; omega, by simp only; omega⟩⟩
  ·rw [if_neg h2]
   split
   ·exact ⟨⟨by decide, by decide⟩, ⟨by decide, by decide⟩⟩
   ·exact hp
theorem DM {a1 a2 b1 b2 u v : Int} {w : Bool} {p : Pa} (hp : xT p) (hu : -900000000 ≤ u ∧ u ≤ 900000000) (hv : -900000000 ≤ v ∧ v ≤ 900000000) : aX aj 283 [Ex a1 a2 b1 b2 p, aW u, aW v, bF w] (Ex a1 a2 b1 b2 (nx p u v w)) := by
 refine acJ (by omega) (by omega) ?_;unfold nx
 by_cases h1 : 0 < v - u
 ·rw [if_pos h1];exact .inl ⟨h1, acK hp.1 (y := ⟨-u, v - u, w⟩) ⟨by simp only; omega, by simp only; omega⟩, rfl, rfl, rfl⟩
 ·rw [if_neg h1]
  by_cases h2 : v - u < 0
  ·rw [if_pos h2];exact .inr (.inl ⟨h1, h2, acz hp.2 (y := ⟨u, -(v - u), w⟩) ⟨by simp only; omega, by simp only; omega⟩, rfl, rfl, rfl⟩)
  ·rw [if_neg h2]
   by_cases ap : u < 0
   ·rw [if_pos (.inl ap)];exact .inr (.inr (.inl ⟨h1, h2, ap, rfl, rfl, rfl, rfl, rfl, rfl⟩))
   ·by_cases aL : u = 0
    ·cases w with
     | false => rw [if_pos (.inr ⟨aL, rfl⟩)]; exact .inr (.inr (.inr (.inl ⟨h1, h2, ap, aL, rfl, rfl, rfl, rfl, rfl, rfl, rfl⟩)))
     | true => rw [if_neg (by simp [ap])]; exact .inr (.inr (.inr (.inr (.inl ⟨h1, h2, ap, aL, rfl, rfl, rfl, rfl, rfl, rfl, rfl⟩))))
    ·rw [if_neg (by simp [ap, aL])];exact .inr (.inr (.inr (.inr (.inr ⟨h1, h2, ap, aL, rfl, rfl, rfl, rfl, rfl, rfl⟩))))
instance ahy : Jp aj 287 4 false 1 := ⟨by kernel_rfl⟩
abbrev ub (l1 l2 h1 h2 : Int) (o p : Bool) : ai := .w (.agg [.c (.int .i64 l1), .c (.int .i64 l2), .c (.int .i64 h1), .c (.int .i64 h2), .c (.bool o), .c (.bool p)])
def s3 (n : Int) : Bool := decide (-536870912 ≤ n) && decide (n ≤ 536870912)
theorem KD {n : Int} : s3 n = true ↔ -536870912 ≤ n ∧ n ≤ 536870912 := by unfold s3; simp
def s4 (x y : Int) : Bool := s3 x && s3 y
theorem BN {x y : Int} : s4 x y = true ↔ (-536870912 ≤ x ∧ x ≤ 536870912) ∧ -536870912 ≤ y ∧ y ≤ 536870912 := by unfold s4; rw [dQ, KD, KD]
def C7 (k : Int) : Bool := decide (0 ≤ k) && decide (k ≤ 2)
theorem acx {a1 a2 b1 b2 l1 l2 h1 h2 n d m e n' d' aH bu : Int} {o p q r cy a8 : Bool} (aK : -134217728 ≤ a1 ∧ a1 ≤ 134217728) (ab : -134217728 ≤ b1 ∧ b1 ≤ 134217728) (an : -536870912 ≤ l1 ∧ l1 ≤ 536870912)
  (aP : aX aj 283 [gv a1 a2 b1 b2 n d q m e r, aW (2 * a1 - l1), aW (2 * b1 - l1), bF o] (gv a1 a2 b1 b2 n' d' cy aH bu a8)) : aX aj 252 [ub l1 l2 h1 h2 o p, gv a1 a2 b1 b2 n d q m e r] (gv a1 a2 b1 b2 n' d' cy aH bu a8) := by
 refine cl (f := 252) Tryz.func252 rfl rfl rfl rfl ?_;(repeat first | (with_reducible apply aA); exact rfl | (with_reducible apply nX); (iterate 3 exact rfl); (exact da (by omega)); exact rfl | (with_reducible apply sW); (iterate 3 exact rfl); (exact da (by omega)); exact rfl | refine nb rfl rfl rfl rfl rfl rfl (by (exact aP)) rfl ?_ | (with_reducible first | apply bX | apply bN | apply bV | apply aB | apply cd))
 ((refine bU rfl (eV rfl rfl rfl bf) ?_))
 exact ai.bo.refl _
theorem acw {a1 a2 b1 b2 l1 l2 h1 h2 n d m e n' d' aH bu : Int} {o p q r cy a8 : Bool} (aK : -134217728 ≤ a2 ∧ a2 ≤ 134217728) (ab : -134217728 ≤ b2 ∧ b2 ≤ 134217728) (an : -536870912 ≤ l2 ∧ l2 ≤ 536870912)
  (aP : aX aj 283 [gv a1 a2 b1 b2 n d q m e r, aW (2 * a2 - l2), aW (2 * b2 - l2), bF o] (gv a1 a2 b1 b2 n' d' cy aH bu a8)) : aX aj 253 [ub l1 l2 h1 h2 o p, gv a1 a2 b1 b2 n d q m e r] (gv a1 a2 b1 b2 n' d' cy aH bu a8) := by
 refine cl (f := 253) Tryz.func253 rfl rfl rfl rfl ?_;(repeat first | (with_reducible apply aA); exact rfl | (with_reducible apply nX); (iterate 3 exact rfl); (exact da (by omega)); exact rfl | (with_reducible apply sW); (iterate 3 exact rfl); (exact da (by omega)); exact rfl | refine nb rfl rfl rfl rfl rfl rfl (by (exact aP)) rfl ?_ | (with_reducible first | apply bX | apply bN | apply bV | apply aB | apply cd))
 ((refine bU rfl (eV rfl rfl rfl bf) ?_))
 exact ai.bo.refl _
theorem acy {a1 a2 b1 b2 l1 l2 h1 h2 n d m e n' d' aH bu : Int} {o p q r cy a8 : Bool} (aK : -134217728 ≤ a1 ∧ a1 ≤ 134217728) (ab : -134217728 ≤ b1 ∧ b1 ≤ 134217728) (an : -536870912 ≤ h1 ∧ h1 ≤ 536870912)
  (aP : aX aj 283 [gv a1 a2 b1 b2 n d q m e r, aW (h1 - 2 * a1), aW (h1 - 2 * b1), bF p] (gv a1 a2 b1 b2 n' d' cy aH bu a8)) : aX aj 254 [ub l1 l2 h1 h2 o p, gv a1 a2 b1 b2 n d q m e r] (gv a1 a2 b1 b2 n' d' cy aH bu a8) := by
 refine cl (f := 254) Tryz.func254 rfl rfl rfl rfl ?_;(repeat first | (with_reducible apply aA); exact rfl | (with_reducible apply nX); (iterate 3 exact rfl); (exact da (by omega)); exact rfl | (with_reducible apply sW); (iterate 3 exact rfl); (exact da (by omega)); exact rfl | refine nb rfl rfl rfl rfl rfl rfl (by (exact aP)) rfl ?_ | (with_reducible first | apply bX | apply bN | apply bV | apply aB | apply cd))
 ((refine bU rfl (eV rfl rfl rfl bf) ?_))
 exact ai.bo.refl _
theorem acv {a1 a2 b1 b2 l1 l2 h1 h2 n d m e n' d' aH bu : Int} {o p q r cy a8 : Bool} (aK : -134217728 ≤ a2 ∧ a2 ≤ 134217728) (ab : -134217728 ≤ b2 ∧ b2 ≤ 134217728) (an : -536870912 ≤ h2 ∧ h2 ≤ 536870912)
  (aP : aX aj 283 [gv a1 a2 b1 b2 n d q m e r, aW (h2 - 2 * a2), aW (h2 - 2 * b2), bF p] (gv a1 a2 b1 b2 n' d' cy aH bu a8)) : aX aj 255 [ub l1 l2 h1 h2 o p, gv a1 a2 b1 b2 n d q m e r] (gv a1 a2 b1 b2 n' d' cy aH bu a8) := by
 refine cl (f := 255) Tryz.func255 rfl rfl rfl rfl ?_;(repeat first | (with_reducible apply aA); exact rfl | (with_reducible apply nX); (iterate 3 exact rfl); (exact da (by omega)); exact rfl | (with_reducible apply sW); (iterate 3 exact rfl); (exact da (by omega)); exact rfl | refine nb rfl rfl rfl rfl rfl rfl (by (exact aP)) rfl ?_ | (with_reducible first | apply bX | apply bN | apply bV | apply aB | apply cd))
 ((refine bU rfl (eV rfl rfl rfl bf) ?_))
 exact ai.bo.refl _
theorem aci {a1 a2 b1 b2 : Int} : aX aj 251 [bh a1 a2, bh b1 b2] (Ex a1 a2 b1 b2 uy) := by
 refine cl (f := 251) Tryz.func251 rfl rfl rfl rfl ?_;(repeat first | (with_reducible apply aA); exact rfl | (with_reducible first | apply bX | apply bN | apply bV | apply aB | apply cd))
 ((refine bU rfl (eV rfl rfl rfl bf) ?_))
 exact ai.bo.refl _
theorem acE {a1 a2 b1 b2 n d m e c : Int} {o q r : Bool} (aP : aX aj 284 [jH n d o, jH m e q] (aW c)) (cs : (c < 0 ∧ r = true) ∨ (¬ c < 0 ∧ c = 0 ∧ o = true ∧ r = q) ∨ (¬ c < 0 ∧ c = 0 ∧ o = false ∧ r = false) ∨ (¬ c < 0 ∧ ¬ c = 0 ∧ r = false)) : aX aj 256 [gv a1 a2 b1 b2 n d o m e q] (bF r) := by
 rcases cs with ⟨q1, rfl⟩ | ⟨q1, q2, rfl, rfl⟩ | ⟨q1, q2, rfl, rfl⟩ | ⟨q1, q2, rfl⟩
 all_goals
  refine cl (f := 256) Tryz.func256 rfl rfl rfl rfl ?_;(repeat first | (with_reducible apply aA); exact rfl | refine dM rfl rfl rfl rfl (by (exact aP)) rfl ?_ | (with_reducible apply c8 (c := true)); exact rfl; exact rfl; (exact bB (by omega)) | (with_reducible apply c8 (c := false)); exact rfl; exact rfl; (exact bR (by omega)) | (with_reducible first | apply bX | apply bN | apply bV | apply aB | apply cd))
  ((refine bU rfl (bE rfl bf) ?_))
  exact ai.bo.refl _
theorem acD {a1 a2 b1 b2 : Int} {p : Pa} (hp : xT p) : aX aj 256 [Ex a1 a2 b1 b2 p] (bF (v7 p)) := by
 refine acE (Ik hp.1 hp.2) ?_;unfold v7
 by_cases h1 : gT p.f p.t < 0
 ·exact .inl ⟨h1, by rw [bB h1]; rfl⟩
 ·rw [bR h1]
  by_cases h2 : gT p.f p.t = 0
  ·rw [bB h2];cases ap : p.f.own with
   | true => exact .inr (.inl ⟨h1, h2, rfl, rfl⟩)
   | false => exact .inr (.inr (.inl ⟨h1, h2, rfl, rfl⟩))
  ·exact .inr (.inr (.inr ⟨h1, h2, by rw [bR h2]; rfl⟩))
theorem Pd {n : Int} {b : Bool} (ab : s3 n = b) : aX aj 282 [aW n] (bF b) := by
 have cs : (-536870912 ≤ n ∧ n ≤ 536870912 ∧ b = true) ∨ (-536870912 ≤ n ∧ ¬ n ≤ 536870912 ∧ b = false) ∨ (¬ -536870912 ≤ n ∧ b = false) := by
  rw [← ab]; unfold s3
  by_cases h1 : -536870912 ≤ n <;> by_cases h2 : n ≤ 536870912 <;> simp [h1, h2]
 clear ab;rcases cs with ⟨h1, h2, rfl⟩ | ⟨h1, h2, rfl⟩ | ⟨h1, rfl⟩
 all_goals
  refine cl (f := 282) Tryz.func282 rfl rfl rfl rfl ?_;(repeat first | (with_reducible apply aA); exact rfl | (with_reducible apply c8 (c := true)); exact rfl; exact rfl; (exact bB (by omega)) | (with_reducible apply c8 (c := false)); exact rfl; exact rfl; (exact bR (by omega)) | (with_reducible first | apply bX | apply bN | apply bV | apply aB | apply cd))
  ((refine bU rfl (bE rfl bf) ?_))
  first | exact ai.bo.refl _ | exact ai.bo.of_eq (by rw [bB h2]; rfl) | exact ai.bo.of_eq (by rw [bR h2]; rfl)
theorem DL {x y : Int} {b : Bool} (ab : s4 x y = b) : aX aj 249 [bh x y] (bF b) := by
 have aP := Pd (n := x) rfl;have cc := Pd (n := y) rfl;unfold s4 at ab;cases q1 : s3 x <;> cases q2 : s3 y <;> rw [q1] at aP <;> rw [q2] at cc <;> rw [q1, q2] at ab <;> subst ab <;> clear q1 q2
 all_goals
  refine cl (f := 249) Tryz.func249 rfl rfl rfl rfl ?_;(repeat first | (with_reducible apply aA); exact rfl | refine fN rfl rfl rfl (by (first | exact aP | exact cc)) rfl ?_ | (with_reducible first | apply bX | apply bN | apply bV | apply aB | apply cd))
  ((refine bU rfl (bE rfl bf) ?_))
  exact ai.bo.refl _
theorem Ph {k : Int} {b : Bool} (ab : C7 k = b) : aX aj 250 [aW k] (bF b) := by
 have cs : (k = 0 ∧ b = true) ∨ (¬ k = 0 ∧ k = 1 ∧ b = true) ∨ (¬ k = 0 ∧ ¬ k = 1 ∧ k = 2 ∧ b = true) ∨ (¬ k = 0 ∧ ¬ k = 1 ∧ ¬ k = 2 ∧ b = false) := by
  rw [← ab]; unfold C7
  by_cases h1 : k = 0
  ·exact .inl ⟨h1, by subst h1; rfl⟩
  ·by_cases h2 : k = 1
   ·exact .inr (.inl ⟨h1, h2, by subst h2; rfl⟩)
   ·by_cases ap : k = 2
    ·exact .inr (.inr (.inl ⟨h1, h2, ap, by subst ap; rfl⟩))
    ·refine .inr (.inr (.inr ⟨h1, h2, ap, ?_⟩));rw [Bool.and_eq_false_iff, ll, ll];omega
 clear ab;rcases cs with ⟨h1, rfl⟩ | ⟨h1, h2, rfl⟩ | ⟨h1, h2, ap, rfl⟩ | ⟨h1, h2, ap, rfl⟩
 all_goals
  refine cl (f := 250) Tryz.func250 rfl rfl rfl rfl ?_;(repeat first | (with_reducible apply aA); exact rfl | (with_reducible apply c8 (c := true)); exact rfl; exact rfl; (exact bB (by omega)) | (with_reducible apply c8 (c := false)); exact rfl; exact rfl; (exact bR (by omega)) | (with_reducible first | apply bX | apply bN | apply bV | apply aB | apply cd))
  ((refine bU rfl (bE rfl bf) ?_))
  first | exact ai.bo.refl _ | exact ai.bo.of_eq (by rw [bB ap]; rfl) | exact ai.bo.of_eq (by rw [bR ap]; rfl)
theorem ab4 {a1 a2 b1 b2 l1 l2 h1 h2 k : Int} {o p r : Bool} {hP d1 m1 aI iI d2 m2 aN sd d3 m3 cC se d4 m4 eH : Int} {q1 cP q2 ea b5 hB ew qP : Bool} (bn : aX aj 171 [bh a1 a2] (bF true)) (eY : aX aj 171 [bh b1 b2] (bF true)) (uj : aX aj 249 [bh l1 l2] (bF true)) (vL : aX aj 249 [bh h1 h2] (bF true)) (EW : aX aj 250 [aW k] (bF true))
  (Vt : (!decide (k = 2)) = o) (rJ : decide (k = 1) = p) (bY : aX aj 251 [bh a1 a2, bh b1 b2] (gv a1 a2 b1 b2 0 1 true 1 1 true))
  (aP : aX aj 252 [ub l1 l2 h1 h2 o p, gv a1 a2 b1 b2 0 1 true 1 1 true] (gv a1 a2 b1 b2 hP d1 q1 m1 aI cP))
  (cc : aX aj 253 [ub l1 l2 h1 h2 o p, gv a1 a2 b1 b2 hP d1 q1 m1 aI cP] (gv a1 a2 b1 b2 iI d2 q2 m2 aN ea))
  (e5 : aX aj 254 [ub l1 l2 h1 h2 o p, gv a1 a2 b1 b2 iI d2 q2 m2 aN ea] (gv a1 a2 b1 b2 sd d3 b5 m3 cC hB))
  (mS : aX aj 255 [ub l1 l2 h1 h2 o p, gv a1 a2 b1 b2 sd d3 b5 m3 cC hB] (gv a1 a2 b1 b2 se d4 ew m4 eH qP))
  (H1 : aX aj 256 [gv a1 a2 b1 b2 se d4 ew m4 eH qP] (bF r)) :
  aX aj 226 [bh a1 a2, bh b1 b2, bh l1 l2, bh h1 h2, aW k] (bF r) := by
 subst Vt;subst rJ;refine cl (f := 226) Tryz.func226 rfl rfl rfl rfl ?_;(repeat first | (with_reducible apply aA); exact rfl | (with_reducible apply x7); (iterate 4 exact rfl) | refine fN rfl rfl rfl (by (first | exact bn | exact eY | exact uj | exact vL | exact EW)) rfl ?_ | refine dM rfl rfl rfl rfl (by (exact bY)) rfl ?_ | (with_reducible first | apply bX | apply bN | apply bV | apply aB | apply fr | apply iS) | (with_reducible apply jm); exact rfl);refine TF 5 ?_;(repeat first | (with_reducible apply aA); exact rfl | (with_reducible apply fh); (iterate 3 exact rfl); (exact da (by omega)); exact rfl | (with_reducible apply Tg); (iterate 3 exact rfl); (decide); (decide); (rfl); exact rfl | refine fN rfl rfl rfl (by (exact H1)) rfl ?_ | refine S1 (bs := [_]) (args := [_]) rfl rfl rfl rfl (by (first | exact aP | exact cc | exact e5 | exact mS)) rfl ?_ | (with_reducible first | apply bX | apply bN | apply bV | apply aB | apply cd | apply fr | apply iS | apply mX | apply vW | apply wb | apply wa | apply adP) | (with_reducible apply kE); exact rfl | (with_reducible apply jm); exact rfl)
 ((refine bU rfl (bE rfl bf) ?_))
 exact ai.bo.refl _
def c9 (a1 a2 b1 b2 l1 l2 h1 h2 k : Int) : Pa := s6 (2 * a1 - l1) (2 * b1 - l1) (2 * a2 - l2) (2 * b2 - l2) (h1 - 2 * a1) (h1 - 2 * b1) (h2 - 2 * a2) (h2 - 2 * b2) (!decide (k = 2)) (decide (k = 1))
def w9 (a1 a2 b1 b2 l1 l2 h1 h2 k : Int) : Bool := cH a1 a2 && cH b1 b2 && s4 l1 l2 && s4 h1 h2 && C7 k
def w8 (a1 a2 b1 b2 l1 l2 h1 h2 k : Int) : Bool := w9 a1 a2 b1 b2 l1 l2 h1 h2 k && v7 (c9 a1 a2 b1 b2 l1 l2 h1 h2 k)
theorem ab5 {a1 a2 b1 b2 l1 l2 h1 h2 k : Int} {cP ea hB qP DY : Bool} (bn : aX aj 171 [bh a1 a2] (bF cP)) (eY : aX aj 171 [bh b1 b2] (bF ea)) (uj : aX aj 249 [bh l1 l2] (bF hB)) (vL : aX aj 249 [bh h1 h2] (bF qP)) (EW : aX aj 250 [aW k] (bF DY)) (h : (cP && ea && hB && qP && DY) = false) :
  aX aj 226 [bh a1 a2, bh b1 b2, bh l1 l2, bh h1 h2, aW k] (bF false) := by
 have cs : cP = false ∨ (cP = true ∧ ea = false) ∨ (cP = true ∧ ea = true ∧ hB = false) ∨ (cP = true ∧ ea = true ∧ hB = true ∧ qP = false) ∨ (cP = true ∧ ea = true ∧ hB = true ∧ qP = true ∧ DY = false) := by
  cases cP <;> cases ea <;> cases hB <;> cases qP <;> cases DY <;> simp_all
 clear h;rcases cs with rfl | ⟨rfl, rfl⟩ | ⟨rfl, rfl, rfl⟩ | ⟨rfl, rfl, rfl, rfl⟩ | ⟨rfl, rfl, rfl, rfl, rfl⟩
 all_goals
  refine cl (f := 226) Tryz.func226 rfl rfl rfl rfl ?_;(repeat first | (with_reducible apply aA); exact rfl | refine fN rfl rfl rfl (by (first | exact bn | exact eY | exact uj | exact vL | exact EW)) rfl ?_ | (with_reducible first | apply bX | apply bN | apply bV | apply aB | apply cd | apply gy) | (with_reducible apply kE); exact rfl)
  ((refine bU rfl (bE rfl bf) ?_))
  exact ai.bo.refl _
theorem J5 : xT uy := ⟨⟨by decide, by decide⟩, ⟨by decide, by decide⟩⟩
theorem ab3 {a1 a2 b1 b2 l1 l2 h1 h2 k : Int} : aX aj 226 [bh a1 a2, bh b1 b2, bh l1 l2, bh h1 h2, aW k] (bF (w8 a1 a2 b1 b2 l1 l2 h1 h2 k)) := by
 unfold w8;cases aq : w9 a1 a2 b1 b2 l1 l2 h1 h2 k with
 | false => exact ab5 (oF rfl) (oF rfl) (DL rfl) (DL rfl) (Ph rfl) aq
 | true =>
  rw [qO];unfold w9 at aq;simp only [dQ] at aq;obtain ⟨⟨⟨⟨sx, sy⟩, jf⟩, je⟩, adN⟩ := aq;have CV := sw.1 sx;have CW := sw.1 sy;have M3 := BN.1 jf;have cp := BN.1 je;unfold c9 s6;have o1 := Db (u := 2 * a1 - l1) (v := 2 * b1 - l1) (w := !decide (k = 2)) J5 (by omega) (by omega);have o2 := Db (u := 2 * a2 - l2) (v := 2 * b2 - l2) (w := !decide (k = 2)) o1 (by omega) (by omega);have ON := Db (u := h1 - 2 * a1) (v := h1 - 2 * b1) (w := decide (k = 1)) o2 (by omega) (by omega);have abq := Db (u := h2 - 2 * a2) (v := h2 - 2 * b2) (w := decide (k = 1)) ON (by omega) (by omega);exact ab4 (oF sx) (oF sy) (DL jf) (DL je) (Ph adN) rfl rfl aci (acx CV.1 CW.1 M3.1 (DM J5 (by omega) (by omega))) (acw CV.2 CW.2 M3.2 (DM o1 (by omega) (by omega))) (acy CV.1 CW.1 cp.1 (DM o2 (by omega) (by omega))) (acv CV.2 CW.2 cp.2 (DM ON (by omega) (by omega))) (acD abq)
theorem O8 {a1 a2 b1 b2 x y k : Int} {cP ea : Bool} (oV : aX aj 88 [aW k] (bF cP)) (xL : aX aj 77 [bh x y, aW k] (bF ea)) (h : (cP && ea) = false) : aX aj 178 [bh a1 a2, bh b1 b2, bh x y, aW k] (bF false) := by
 have cs : cP = false ∨ (cP = true ∧ ea = false) := by cases cP <;> cases ea <;> simp_all
 clear h;rcases cs with rfl | ⟨rfl, rfl⟩
 all_goals
  refine cl (f := 178) Tryz.func178 rfl rfl rfl rfl ?_;(repeat first | (with_reducible apply aA); exact rfl | refine fN rfl rfl rfl (by (exact oV)) rfl ?_ | refine dM rfl rfl rfl rfl (by (exact xL)) rfl ?_ | (with_reducible first | apply bX | apply bN | apply bV | apply aB | apply cd | apply gy) | (with_reducible apply kE); exact rfl)
  ((refine bU rfl (bE rfl bf) ?_))
  exact ai.bo.refl _
theorem abZ {a1 a2 b1 b2 x y k l1 l2 h1 h2 : Int} {r : Bool} (oV : aX aj 88 [aW k] (bF true)) (xL : aX aj 77 [bh x y, aW k] (bF true)) (RK : aX aj 225 [bh x y, aW k] (.cZ [.agg [.c (.int .i64 l1), .c (.int .i64 l2)], .agg [.c (.int .i64 h1), .c (.int .i64 h2)]])) (M : aX aj 226 [bh a1 a2, bh b1 b2, bh l1 l2, bh h1 h2, aW 0] (bF r)) : aX aj 178 [bh a1 a2, bh b1 b2, bh x y, aW k] (bF r) := by
 refine cl (f := 178) Tryz.func178 rfl rfl rfl rfl ?_;(repeat first | (with_reducible apply aA); exact rfl | refine fN rfl rfl rfl (by (exact oV)) rfl ?_ | refine dM rfl rfl rfl rfl (by (first | exact xL | exact RK)) rfl ?_ | refine S0 rfl rfl rfl rfl rfl rfl rfl (by (exact M)) rfl ?_ | (with_reducible first | apply bX | apply bN | apply bV | apply aB | apply cd | apply fr) | (with_reducible apply jm); exact rfl)
 ((refine bU rfl (bE rfl bf) ?_))
 exact ai.bo.refl _
def wR (a1 a2 b1 b2 x y k : Int) : Bool := decide (0 ≤ k) && decide (k ≤ 28) && eO k.toNat x y && w8 a1 a2 b1 b2 (2 * (2 ^ k.toNat * x) - 2 ^ k.toNat) (2 * (2 ^ k.toNat * y) - 2 ^ k.toNat) (2 * (2 ^ k.toNat * x) + 2 ^ k.toNat) (2 * (2 ^ k.toNat * y) + 2 ^ k.toNat) 0
theorem Y9 {k : Int} (h : (decide (0 ≤ k) && decide (k ≤ 28)) = true) : gw k k.toNat := by
 simp only [dQ, cB] at h;unfold gw;omega
theorem abY {a1 a2 b1 b2 x y k : Int} : aX aj 178 [bh a1 a2, bh b1 b2, bh x y, aW k] (bF (wR a1 a2 b1 b2 x y k)) := by
 unfold wR;have oV := acC (k := k);cases af : (decide (0 ≤ k) && decide (k ≤ 28)) with
 | false =>
  rw [af] at oV;obtain ⟨r, aq⟩ := Y8 k;exact O8 oV (zW aq rfl) rfl
 | true =>
  rw [af] at oV;have aq := Y9 af;cases hi : eO k.toNat x y with
  | false => exact O8 oV (zW aq hi) rfl
  | true => exact abZ oV (zW aq hi) (ace aq hi) ab3
end Go.Proofs.YtpochbhajmbfdaaGreat
namespace Go.Proofs.YtpochbhajmbfdaaGreat
def Jq (a1 a2 b1 b2 l1 l2 h1 h2 k : Int) : Prop := Met (2 * a1 - l1) (2 * b1 - l1) (2 * a2 - l2) (2 * b2 - l2) (h1 - 2 * a1) (h1 - 2 * b1) (h2 - 2 * a2) (h2 - 2 * b2) (!decide (k = 2)) (decide (k = 1))
theorem HP {a1 a2 b1 b2 l1 l2 h1 h2 k : Int} : w8 a1 a2 b1 b2 l1 l2 h1 h2 k = true ↔ w9 a1 a2 b1 b2 l1 l2 h1 h2 k = true ∧ Jq a1 a2 b1 b2 l1 l2 h1 h2 k := by
 unfold w8 c9 Jq;rw [dQ, Uy]
theorem aau {a1 a2 b1 b2 l1 l2 h1 h2 k : Int} : w9 a1 a2 b1 b2 l1 l2 h1 h2 k = true ↔ cH a1 a2 = true ∧ cH b1 b2 = true ∧ s4 l1 l2 = true ∧ s4 h1 h2 = true ∧ C7 k = true := by
 unfold w9;simp only [dQ, and_assoc]
end Go.Proofs.YtpochbhajmbfdaaGreat
namespace Go.Proofs.YtpochbhajmbfdaaGreat
open Go.ChangeShapes Go.WideShapes Go.ChangeAt Go.RowKit Go.Joins
theorem abL : ownKnob aj.godebug = none := by kernel_rfl
def wB (P : Program) : Nat → TypeId → Bool
 | 0, _ => false
 | d + 1, t => match P.underlying t with
  | some .bool | some (.int _) | some .string => true
  | some (.struct bl) => bl.toList.all fun f => wB P d f.type
  | some (.array _ e) => wB P d e
  | _ => false
theorem mapM_flat {α β : Type} {f g : α → Option (β × List MemPlace)} : ∀ (l : List α) (xs : List (β × List MemPlace)), l.mapM f = some xs → (∀ a ∈ l, ∀ x, f a = some x → x.2 = [] ∧ g a = some (x.1, [])) → xs.flatMap (·.2) = [] ∧ l.mapM g = some xs
 | [], xs, h, _ => by cases h; exact ⟨rfl, rfl⟩
 | a :: l, xs, h, af => by
  rw [List.mapM_cons] at h;cases aK : f a with
  | none => rw [aK] at h; cases h
  | some b =>
   rw [aK] at h;cases an : l.mapM f with
   | none => rw [an] at h; cases h
   | some bs =>
    rw [an] at h;cases h;obtain ⟨h1, h2⟩ := af a (by simp) b aK;obtain ⟨ap, aL⟩ := mapM_flat l bs an fun a' pp => af a' (by simp [pp]);refine ⟨by simp [h1]; intro a' bK mD; have := List.flatMap_eq_nil_iff.1 ap _ mD; exact this, ?_⟩;rw [List.mapM_cons, h2, aL];obtain ⟨b1, b2⟩ := b;simp only at h1;subst h1;rfl
section
variable {H : Type} {enc : TypeId × Value → H} {P : Program}
theorem Ly : ∀ (d : Nat) (t : TypeId), wB P d t = true → ∀ (fa : Nat) (w : World) (base : Nat) (sp : Nat → Bool) (held : Bool) (cs : List Value) (x : DataW H × List MemPlace), DataW.trod enc P w base sp held fa t cs = some x →
  x.2 = [] ∧ ∀ (w' : World) (o5 : Nat) (pS : Nat → Bool) (pt : Bool), DataW.trod enc P w' o5 pS pt fa t cs = some (x.1, [])
 | 0, _, h, _, _, _, _, _, _, _, _ => by cases h
 | d + 1, t, au, 0, _, _, _, _, _, _, h => by simp [DataW.trod] at h
 | d + 1, t, au, fa + 1, w, base, sp, held, cs, x, h => by
  have cp := fun nL (Yv : wB P d nL = true) => Ly d nL Yv fa;rw [DataW.trod_step] at h;simp only [DataW.trod_step];unfold wB at au;unfold DataW.trodStep at h ⊢;cases hu : P.underlying t with
  | none => rw [hu] at au; cases au
  | some D =>
   rw [hu] at au h;cases D with
   | bool =>
    match cs, h with
    | [.bool b], h => cases h; exact ⟨rfl, fun _ _ _ _ => rfl⟩
   | int k =>
    match cs, h with
    | [.int k' n], h =>
     simp only at h ⊢
     split at h
     ·rename_i ak; cases h; exact ⟨rfl, fun _ _ _ _ => by rw [if_pos ak]⟩
     ·cases h
   | string =>
    match cs, h with
    | [.string s], h =>
     simp only at h ⊢
     split at h
     ·rename_i ak; cases h; exact ⟨rfl, fun _ _ _ _ => by rw [if_pos ak]⟩
     ·cases h
   | struct bl =>
    simp only at h ⊢ au
    split at h
    ·rename_i ak;simp only [Option.map_eq_some_iff] at h;obtain ⟨xs, aa, rfl⟩ := h;have cX := cu.1 au;refine ⟨?_, fun w' o5 pS pt => ?_⟩
     ·exact (mapM_flat (g := fun f => DataW.trod enc P w base sp held fa f.type ((cs.drop f.offset).take (P.cellsOf f.type))) _ _ aa fun f lJ y ag => ⟨(cp f.type (cX f lJ) w base sp held _ y ag).1, (cp f.type (cX f lJ) w base sp held _ y ag).2 w base sp held⟩).1
     ·have := mapM_flat (g := fun f => DataW.trod enc P w' o5 pS pt fa f.type ((cs.drop f.offset).take (P.cellsOf f.type))) _ _ aa fun f lJ y ag => ⟨(cp f.type (cX f lJ) w base sp held _ y ag).1, (cp f.type (cX f lJ) w base sp held _ y ag).2 w' o5 pS pt⟩;rw [if_pos ak, this.2];simp only [gH, this.1]
    ·cases h
   | array n e =>
    simp only at h ⊢ au
    split at h
    ·rename_i ak;simp only [Option.map_eq_some_iff] at h;obtain ⟨xs, aa, rfl⟩ := h;refine ⟨?_, fun w' o5 pS pt => ?_⟩
     ·exact (mapM_flat (g := fun i => DataW.trod enc P w base sp held fa e ((cs.drop (i * P.cellsOf e)).take (P.cellsOf e))) _ _ aa fun f _ y ag => ⟨(cp e au w base sp held _ y ag).1, (cp e au w base sp held _ y ag).2 w base sp held⟩).1
     ·have := mapM_flat (g := fun i => DataW.trod enc P w' o5 pS pt fa e ((cs.drop (i * P.cellsOf e)).take (P.cellsOf e))) _ _ aa fun f _ y ag => ⟨(cp e au w base sp held _ y ag).1, (cp e au w base sp held _ y ag).2 w' o5 pS pt⟩;rw [if_pos ak, this.2];simp only [gH, this.1]
    ·cases h
   | _ => cases au
theorem VX {d : Nat} {t : TypeId} (au : wB P d t = true) {w : World} {base : Nat} {sp : Nat → Bool} {held : Bool} {v : Value} {D : DataW H} {p : List MemPlace} (h : DataW.Trod enc P w base sp held t v D p) :
  p = [] ∧ ∀ (w' : World) (o5 : Nat) (pS : Nat → Bool) (pt : Bool), DataW.Trod enc P w' o5 pS pt t v D [] := by
 obtain ⟨fa, h⟩ := h;obtain ⟨h1, h2⟩ := Ly d t au fa w base sp held _ _ h;exact ⟨h1, fun w' o5 pS pt => ⟨fa, h2 w' o5 pS pt⟩⟩
end
section
variable {P : Program} {W : World} {r : Reach} {b : Nat} {t : TypeId} {v : Value}
theorem abD {k : IntKind} (hu : P.underlying t = some (.int k)) (h : Cell.okWide P W r b t v) : ∃ n, v = .int k n ∧ k.min ≤ n ∧ n ≤ k.max := by
 unfold Cell.okWide Cell.ok at h;rw [hu] at h;cases v <;> simp only at h;rename_i k' n;obtain ⟨rfl, h⟩ := h;exact ⟨n, rfl, by simpa [IntKind.has] using h⟩
theorem abE {D : TypeDesc} (hu : P.underlying t = some D) (hs : ∀ bl, D ≠ .struct bl) (aK : ∀ n e, D ≠ .array n e) (h : Value.okWide P W r b t v) : Cell.okWide P W r b t v := by
 unfold Value.okWide at h;rw [hu] at h;cases D <;> first | exact h | exact absurd rfl (hs _) | exact absurd rfl (aK _ _)
end
end Go.Proofs.YtpochbhajmbfdaaGreat
namespace Go.Proofs.YtpochbhajmbfdaaGreat
open Go.RowKit
theorem Wt {P v : Int} (fC : 0 < P) : 2 * ((2 * v + P) / (2 * P) * P) ≤ 2 * v + P ∧ 2 * v + P < 2 * ((2 * v + P) / (2 * P) * P) + 2 * P := by
 have h1 := ss (2 * v + P) (2 * P);have h2 := oN (2 * v + P) (show 2 * P ≠ 0 by omega);have ap := nH (2 * v + P) (show 0 < 2 * P by omega);have e : 2 * P * ((2 * v + P) / (2 * P)) = 2 * ((2 * v + P) / (2 * P) * P) := by rw [lp, jE P]
 omega
theorem GK {a1 a2 b1 b2 q1 q2 : Int} {r : Nat} (aq : r ≤ 28) : wR a1 a2 b1 b2 q1 q2 r = true ↔ eO r q1 q2 = true ∧ w8 a1 a2 b1 b2 (2 * (2 ^ r * q1) - 2 ^ r) (2 * (2 ^ r * q2) - 2 ^ r) (2 * (2 ^ r * q1) + 2 ^ r) (2 * (2 ^ r * q2) + 2 ^ r) 0 = true := by
 unfold wR;have g1 : decide ((0 : Int) ≤ (r : Int)) = true := bB (by omega);have g2 : decide ((r : Int) ≤ 28) = true := bB (by omega);rw [g1, g2, kw, Bool.and_self, qO, dQ]
def qD (a1 a2 b1 b2 k : Int) (p : ao) : Bool := wR a1 a2 b1 b2 p.1 p.2 k
end Go.Proofs.YtpochbhajmbfdaaGreat
namespace Go.Proofs.YtpochbhajmbfdaaGreat
def sg (a b x yB t : Rat) : Prop := -yB ≤ 2 * a + t * (2 * (b - a)) - x ∧ 2 * a + t * (2 * (b - a)) - x ≤ yB
def mJ (S p q x u : Rat) : Prop := 2 * (S * x) - S ≤ 2 * (S * p + u * (S * q - S * p)) ∧ 2 * (S * p + u * (S * q - S * p)) < 2 * (S * x) + S
theorem OI {a b p q x S d t1 t2 u : Rat} (h1 : sg a b (2 * (S * p)) (d * S) t1) (h2 : sg a b (2 * (S * q)) (d * S) t2) (j8 : 0 ≤ u) (cE : u ≤ 1) (hm : mJ S p q x u) : sg a b (2 * (S * x)) ((d + 1) * S) (t1 + u * (t2 - t1)) := by
 obtain ⟨a1, a2⟩ := h1;obtain ⟨b1, b2⟩ := h2;obtain ⟨m1, m2⟩ := hm;have v0 : 0 ≤ 1 - u := by grind
 have bA := j2 v0 (show 0 ≤ 2 * a + t1 * (2 * (b - a)) - 2 * (S * p) + d * S by grind);have b9 := j2 v0 (show 0 ≤ d * S - (2 * a + t1 * (2 * (b - a)) - 2 * (S * p)) by grind);have hr := j2 j8 (show 0 ≤ 2 * a + t2 * (2 * (b - a)) - 2 * (S * q) + d * S by grind);have iZ := j2 j8 (show 0 ≤ d * S - (2 * a + t2 * (2 * (b - a)) - 2 * (S * q)) by grind)
 constructor
 ·grind
 ·grind
theorem OJ {a b x f g t : Rat} (wN : f ≤ g) (h : sg a b x f t) : sg a b x g t := by
 obtain ⟨h1, h2⟩ := h
 constructor <;> grind
abbrev bp (n : Int) : Rat := (n : Rat)
def xh (a1 a2 b1 b2 S : Int) (yB t : Rat) (v : ao) : Prop := sg (bp a1) (bp b1) (2 * (bp S * bp v.1)) yB t ∧ sg (bp a2) (bp b2) (2 * (bp S * bp v.2)) yB t
def p7 (S : Int) (p q : ao) (u : Rat) (x : ao) : Prop := (0 ≤ u ∧ u ≤ 1) ∧ mJ (bp S) (bp p.1) (bp q.1) (bp x.1) u ∧ mJ (bp S) (bp p.2) (bp q.2) (bp x.2) u
theorem abi {a1 a2 b1 b2 S : Int} {d t1 t2 u : Rat} {p q x : ao} (h1 : xh a1 a2 b1 b2 S (d * bp S) t1 p) (h2 : xh a1 a2 b1 b2 S (d * bp S) t2 q) (hm : p7 S p q u x) : xh a1 a2 b1 b2 S ((d + 1) * bp S) (t1 + u * (t2 - t1)) x :=
 ⟨OI h1.1 h2.1 hm.1.1 hm.1.2 hm.2.1, OI h1.2 h2.2 hm.1.1 hm.1.2 hm.2.2⟩
theorem abj {a1 a2 b1 b2 S : Int} {f g t : Rat} {v : ao} (wN : f ≤ g) (h : xh a1 a2 b1 b2 S f t v) : xh a1 a2 b1 b2 S g t v := ⟨OJ wN h.1, OJ wN h.2⟩
theorem qQ {a b : Int} : bp a ≤ bp b ↔ a ≤ b := Rat.intCast_le_intCast
theorem Ix {a b : Int} : bp a < bp b ↔ a < b := Rat.intCast_lt_intCast
theorem pO {a : Int} (h : 0 < a) : 0 < bp a := by have := Ix.2 h; simpa [bp] using this
theorem D0 {a b : Int} (h : a < b) : bp a + 1 ≤ bp b := by
 have := qQ.2 (show a + 1 ≤ b from h);simpa [bp, sv] using this
theorem Of {S p q x y : Int} {u w : Rat} (hS : 0 < S) (aa : mJ (bp S) (bp p) (bp q) (bp x) u) (ag : mJ (bp S) (bp p) (bp q) (bp y) w) (kP : x < y) (hL : p ≤ q) : u ≤ w := by
 have eF := pO hS;obtain ⟨c7, dq⟩ := aa;obtain ⟨lv, q3⟩ := ag;have h1 := D0 kP;have h2 := qQ.2 hL;have bA := j2 (Rat.le_of_lt eF) (show 0 ≤ bp y - (bp x + 1) by grind);refine Rat.not_lt.1 fun YG => ?_;have b9 := j2 (show 0 ≤ u - w by grind) (j2 (Rat.le_of_lt eF) (show 0 ≤ bp q - bp p by grind));grind
theorem Oe {S p q x y : Int} {u w : Rat} (hS : 0 < S) (aa : mJ (bp S) (bp p) (bp q) (bp x) u) (ag : mJ (bp S) (bp p) (bp q) (bp y) w) (kP : y < x) (hL : q ≤ p) : u ≤ w := by
 have eF := pO hS;obtain ⟨c7, dq⟩ := aa;obtain ⟨lv, q3⟩ := ag;have h1 := D0 kP;have h2 := qQ.2 hL;have bA := j2 (Rat.le_of_lt eF) (show 0 ≤ bp x - (bp y + 1) by grind);refine Rat.not_lt.1 fun YG => ?_;have b9 := j2 (show 0 ≤ u - w by grind) (j2 (Rat.le_of_lt eF) (show 0 ≤ bp p - bp q by grind));grind
theorem Dq {S p q x y : Int} {u w : Rat} (hS : 0 < S) (aa : mJ (bp S) (bp p) (bp q) (bp x) u) (ag : mJ (bp S) (bp p) (bp q) (bp y) w) (rZ : u ≤ w) (hL : p ≤ q) : x ≤ y := by
 have eF := pO hS;obtain ⟨c7, dq⟩ := aa;obtain ⟨lv, q3⟩ := ag;refine Int.not_lt.1 fun Hp => ?_;have h1 := D0 Hp;have h2 := qQ.2 hL;have bA := j2 (Rat.le_of_lt eF) (show 0 ≤ bp x - (bp y + 1) by grind);have b9 := j2 (show 0 ≤ w - u by grind) (j2 (Rat.le_of_lt eF) (show 0 ≤ bp q - bp p by grind));grind
theorem Dp {S p q x y : Int} {u w : Rat} (hS : 0 < S) (aa : mJ (bp S) (bp p) (bp q) (bp x) u) (ag : mJ (bp S) (bp p) (bp q) (bp y) w) (rZ : u ≤ w) (hL : q ≤ p) : y ≤ x := by
 have eF := pO hS;obtain ⟨c7, dq⟩ := aa;obtain ⟨lv, q3⟩ := ag;refine Int.not_lt.1 fun Hp => ?_;have h1 := D0 Hp;have h2 := qQ.2 hL;have bA := j2 (Rat.le_of_lt eF) (show 0 ≤ bp y - (bp x + 1) by grind);have b9 := j2 (show 0 ≤ w - u by grind) (j2 (Rat.le_of_lt eF) (show 0 ≤ bp p - bp q by grind));grind
theorem Oc {S p q : Int} (hS : 0 < S) : mJ (bp S) (bp p) (bp q) (bp p) 0 := by
 have eF := pO hS
 constructor <;> grind
theorem Od {S p q : Int} (hS : 0 < S) : mJ (bp S) (bp p) (bp q) (bp q) 1 := by
 have eF := pO hS
 constructor <;> grind
theorem Dn {S p q x : Int} {u : Rat} (hS : 0 < S) (aG : 0 ≤ u) (h1 : u ≤ 1) (aa : mJ (bp S) (bp p) (bp q) (bp x) u) : (p ≤ q → p ≤ x ∧ x ≤ q) ∧ (q ≤ p → q ≤ x ∧ x ≤ p) :=
 ⟨fun h => ⟨Dq hS (Oc hS) aa aG h, Dq hS aa (Od hS) h1 h⟩, fun h => ⟨Dp hS aa (Od hS) h1 h, Dp hS (Oc hS) aa aG h⟩⟩
theorem N8 {S : Int} {p q x y : ao} {u w : Rat} (hS : 0 < S) (aa : p7 S p q u x) (ag : p7 S p q w y) (h : dA (decide (S * q.1 < S * p.1)) (decide (S * q.2 < S * p.2)) x y = true) : u ≤ w := by
 have aI : (S * q.1 < S * p.1) ↔ q.1 < p.1 := ⟨fun h => Int.lt_of_mul_lt_mul_left h (by omega), fun h => Int.mul_lt_mul_of_pos_left h hS⟩;have aN : (S * q.2 < S * p.2) ↔ q.2 < p.2 := ⟨fun h => Int.lt_of_mul_lt_mul_left h (by omega), fun h => Int.mul_lt_mul_of_pos_left h hS⟩;rw [x2] at h;simp only [cB, aI, aN] at h;rcases h with h | ⟨he, h⟩
 ·by_cases g : q.1 < p.1
  ·rw [if_pos g] at h; exact Oe hS aa.2.1 ag.2.1 h (by omega)
  ·rw [if_neg g] at h; exact Of hS aa.2.1 ag.2.1 h (by omega)
 ·by_cases g : q.2 < p.2
  ·rw [if_pos g] at h; exact Oe hS aa.2.2 ag.2.2 h (by omega)
  ·rw [if_neg g] at h; exact Of hS aa.2.2 ag.2.2 h (by omega)
theorem X5 {a b l n d u : Rat} (d0 : 0 < d) (hu : u * d = n) (h : 0 ≤ (2 * a - l) * (d - n) + (2 * b - l) * n) : l ≤ 2 * (a + u * (b - a)) := by
 subst hu;refine Rat.not_lt.1 fun bi => ?_;have k := Rat.mul_pos d0 (show 0 < l - 2 * (a + u * (b - a)) by grind);grind
theorem X6 {a b l n d u : Rat} (d0 : 0 < d) (hu : u * d = n) (h : 0 < (l - 2 * a) * (d - n) + (l - 2 * b) * n) : 2 * (a + u * (b - a)) < l := by
 subst hu;refine Rat.not_le.1 fun bi => ?_;have k := j2 (Rat.le_of_lt d0) (show 0 ≤ 2 * (a + u * (b - a)) - l by grind);grind
theorem DZ {n d : Int} (hd : 0 < d) : bp n / bp d * bp d = bp n := Rat.div_mul_cancel (by have := pO hd; grind)
theorem Mz {a b l : Int} {n d : Int} (hd : 0 < d) (h : jl (2 * a - l) (2 * b - l) true n d) : bp l ≤ 2 * (bp a + bp n / bp d * (bp b - bp a)) := by
 have h1 : 0 ≤ (2 * a - l) * (d - n) + (2 * b - l) * n := by rcases h with h | ⟨_, h⟩ <;> omega
 refine X5 (pO hd) (DZ hd) ?_;have := qQ.2 h1;simpa [bp, sv, Rat.intCast_mul, Rat.intCast_sub] using this
theorem MA {a b l : Int} {n d : Int} (hd : 0 < d) (h : jl (l - 2 * a) (l - 2 * b) false n d) : 2 * (bp a + bp n / bp d * (bp b - bp a)) < bp l := by
 have h1 : 0 < (l - 2 * a) * (d - n) + (l - 2 * b) * n := by
  rcases h with h | ⟨h, _⟩
  ·exact h
  ·cases h
 refine X6 (pO hd) (DZ hd) ?_;have := Ix.2 h1;simpa [bp, sv, Rat.intCast_mul, Rat.intCast_sub] using this
theorem aaD {r : Nat} (aq : r ≤ 28) {p q x : ao} (h : qD (2 ^ r * p.1) (2 ^ r * p.2) (2 ^ r * q.1) (2 ^ r * q.2) r x = true) : eO r x.1 x.2 = true ∧ ∃ u, p7 (2 ^ r) p q u x := by
 unfold qD at h;rw [GK aq] at h;refine ⟨h.1, ?_⟩;obtain ⟨_, n, d, hd, ⟨y0, uV⟩, g1, g2, g3, g4⟩ := HP.1 h.2;have d0 := pO hd;refine ⟨bp n / bp d, ⟨?_, ?_⟩, ⟨?_, ?_⟩, ?_, ?_⟩
 ·refine Rat.not_lt.1 fun bi => ?_;have k := Rat.mul_pos d0 (show 0 < -(bp n / bp d) by grind);have e := DZ (n := n) hd;have mj := qQ.2 y0;have z : bp 0 = 0 := by simp [bp]
  rw [z] at mj;generalize bp n / bp d = u at *;grind
 ·refine Rat.not_lt.1 fun bi => ?_;have k := Rat.mul_pos d0 (show 0 < bp n / bp d - 1 by grind);have e := DZ (n := n) hd;have hP := qQ.2 uV;generalize bp n / bp d = u at *;grind
 ·have := Mz hd g1;simpa [bp, sv, Rat.intCast_mul, Rat.intCast_sub] using this
 ·have := MA hd g3;simpa [bp, sv, Rat.intCast_mul, Rat.intCast_sub] using this
 ·have := Mz hd g2;simpa [bp, sv, Rat.intCast_mul, Rat.intCast_sub] using this
 ·have := MA hd g4;simpa [bp, sv, Rat.intCast_mul, Rat.intCast_sub] using this
def pd (p q : ao) (out : List ao) (x : ao) : List ao := if x ≠ p ∧ x ≠ q ∧ out.getLast? ≠ some x then out ++ [x] else out
def K0 (p q : ao) (l : List ao) : List ao := l.foldl (pd p q) []
theorem Na {fx fy : Bool} {q : ao} : ∀ {l : List ao}, l.Pairwise (fun a b => dA fx fy b a = false) → (lN fx fy q l).Pairwise fun a b => dA fx fy b a = false
 | [], _ => by unfold lN; simp
 | p :: l, h => by
  have ak := iN.1 h;unfold lN
  split
  ·rename_i al;refine iN.2 ⟨fun r aq => ?_, h⟩;rcases gI.1 aq with rfl | aq
   ·exact J3 al
   ·cases aY : dA fx fy r q with
    | false => rfl
    | true => have := ak.1 r aq; rw [x3 aY al] at this; cases this
  ·rename_i al;refine iN.2 ⟨fun r aq => ?_, Na ak.2⟩;rcases gI.1 ((zq fx fy q l).mem_iff.1 aq) with rfl | aq
   ·simpa using al
   ·exact ak.1 r aq
theorem aeM (fx fy : Bool) (f : ao → Bool) (l : List ao) : (qX fx fy f l).Pairwise fun a b => dA fx fy b a = false := by
 have key : ∀ (l out : List ao), out.Pairwise (fun a b => dA fx fy b a = false) → (l.foldl (fun out q => if f q then lN fx fy q out else out) out).Pairwise fun a b => dA fx fy b a = false := by
  intro l
  induction l with
  | nil => intro out h; exact h
  | cons q l cp =>
   intro out h;rw [sq];refine cp _ ?_
   split
   ·exact Na h
   ·exact h
 exact key l [] .nil
theorem FJ {fx fy : Bool} {p q : ao} : ∀ (l out : List ao), jJ fx fy out → (∀ a ∈ out, ∀ b ∈ l, dA fx fy b a = false) → l.Pairwise (fun a b => dA fx fy b a = false) → jJ fx fy (l.foldl (pd p q) out) ∧ (∀ x ∈ l.foldl (pd p q) out, x ∈ out ∨ (x ∈ l ∧ x ≠ p ∧ x ≠ q)) ∧ (l.foldl (pd p q) out).length ≤ out.length + l.length
 | [], out, h, _, _ => ⟨h, fun x aa => .inl aa, dL _⟩
 | x :: l, out, h, hw, an => by
  have ak := iN.1 an;rw [sq]
  by_cases aa : x ≠ p ∧ x ≠ q ∧ out.getLast? ≠ some x
  ·have e : pd p q out x = out ++ [x] := by unfold pd; rw [if_pos aa]
   rw [e]
   have aK : jJ fx fy (out ++ [x]) := by
    unfold jJ;rw [List.pairwise_append];refine ⟨h, List.pairwise_singleton _ _, fun a aK b ab => ?_⟩;rw [jc] at ab;subst ab;have h1 := hw a aK b (kr ..)
    by_cases mD : a = b
    ·subst mD;rcases List.eq_nil_or_concat out with aG | ⟨fu, z, aG⟩
     ·subst aG; cases aK
     ·rw [List.concat_eq_append] at aG;subst aG;have a6 : z ≠ a := fun aY => aa.2.2 (by rw [aY]; simp)
      have pp : a ∈ fu := by
       rcases kt.1 aK with aC | aC
       ·exact aC
       ·exact absurd (jc.1 aC).symm a6
      have h2 := (List.pairwise_append.1 h).2.2 a pp z (jc.2 rfl);have ap := hw z (by simp) a (kr ..);rw [h2] at ap; cases ap
    ·exact (Fe mD).resolve_right (by rw [h1]; decide)
   obtain ⟨g1, g2, g3⟩ := FJ l (out ++ [x]) aK (fun a pp b ab => by
    rcases kt.1 pp with aC | aC
    ·exact hw a aC b (nD _ ab)
    ·rw [jc.1 aC]; exact ak.1 b ab) ak.2
   refine ⟨g1, fun y ag => ?_, by rw [cR, List.length_singleton] at g3; simp only [lm]; omega⟩;rcases g2 y ag with aC | aC
   ·rcases kt.1 aC with aC | aC
    ·exact .inl aC
    ·rw [jc.1 aC]; exact .inr ⟨kr .., aa.1, aa.2.1⟩
   ·exact .inr ⟨nD _ aC.1, aC.2⟩
  ·have e : pd p q out x = out := by unfold pd; rw [if_neg aa]
   rw [e];obtain ⟨g1, g2, g3⟩ := FJ l out h (fun a pp b ab => hw a pp b (nD _ ab)) ak.2;refine ⟨g1, fun y ag => ?_, by simp only [lm]; omega⟩;rcases g2 y ag with aC | aC
   ·exact .inl aC
   ·exact .inr ⟨nD _ aC.1, aC.2⟩
def rz (r : Nat) (l : List ao) (p q : ao) : List ao := K0 p q (qX (decide ((2 : Int) ^ r * q.1 < 2 ^ r * p.1)) (decide ((2 : Int) ^ r * q.2 < 2 ^ r * p.2)) (qD (2 ^ r * p.1) (2 ^ r * p.2) (2 ^ r * q.1) (2 ^ r * q.2) r) l)
theorem Bt {r : Nat} (aq : r ≤ 28) (l : List ao) (p q : ao) : jJ (decide ((2 : Int) ^ r * q.1 < 2 ^ r * p.1)) (decide ((2 : Int) ^ r * q.2 < 2 ^ r * p.2)) (rz r l p q) ∧ (∀ x ∈ rz r l p q, (x ≠ p ∧ x ≠ q) ∧ eO r x.1 x.2 = true ∧ ∃ u, p7 (2 ^ r) p q u x) ∧ (rz r l p q).length ≤ l.length := by
 obtain ⟨g1, g2, g3⟩ := FJ (p := p) (q := q) _ [] (List.Pairwise.nil : jJ (decide ((2 : Int) ^ r * q.1 < 2 ^ r * p.1)) (decide ((2 : Int) ^ r * q.2 < 2 ^ r * p.2)) []) (fun a aK => by cases aK) (aeM _ _ (qD (2 ^ r * p.1) (2 ^ r * p.2) (2 ^ r * q.1) (2 ^ r * q.2) r) l);refine ⟨g1, fun x aa => ?_, ?_⟩
 ·rcases g2 x aa with h | ⟨h1, h2⟩
  ·cases h
  ·have ap := (List.mem_filter.1 ((El _ _ _ l).mem_iff.1 h1)).2;exact ⟨h2, aaD aq ap⟩
 ·refine ln g3 ?_;rw [List.length_nil, jF];exact aeL _ _ _ l
def hJ (R : ao → ao → Prop) : List ao → Prop
 | p :: q :: W => R p q ∧ hJ R (q :: W)
 | _ => True
theorem FE {R : ao → ao → Prop} : ∀ {l : List ao}, l.Pairwise R → hJ R l
 | [], _ => trivial
 | [_], _ => trivial
 | p :: q :: W, h => by
  have ak := iN.1 h;exact ⟨ak.1 q (kr ..), FE ak.2⟩
theorem FD {R : ao → ao → Prop} {q : ao} {W : List ao} : ∀ {A : List ao}, hJ R (A ++ [q]) → hJ R (q :: W) → hJ R (A ++ q :: W)
 | [], _, h => h
 | [a], h, aC => ⟨h.1, aC⟩
 | a :: b :: A, h, aC => ⟨h.1, FD (A := b :: A) h.2 aC⟩
theorem Bu {r : Nat} (aq : r ≤ 28) (l : List ao) (p q : ao) {R : ao → ao → Prop} (aG : R p q) (h1 : ∀ x, (∃ u, p7 (2 ^ r) p q u x) → R p x ∧ R x q) (h2 : ∀ x y u w, p7 (2 ^ r) p q u x → p7 (2 ^ r) p q w y → u ≤ w → R x y) : hJ R (p :: (rz r l p q ++ [q])) := by
 obtain ⟨s1, s2, _⟩ := Bt aq l p q;have hS : (0 : Int) < 2 ^ r := jG (by decide);refine FE (iN.2 ⟨fun x aa => ?_, List.pairwise_append.2 ⟨s1.imp_of_mem fun {x y} aa ag kP => ?_, List.pairwise_singleton _ _, fun x aa y ag => ?_⟩⟩)
 ·rcases kt.1 aa with aa | aa
  ·exact (h1 x (s2 x aa).2.2).1
  ·rw [jc.1 aa]; exact aG
 ·obtain ⟨u, hu⟩ := (s2 x aa).2.2;obtain ⟨w, hw⟩ := (s2 y ag).2.2;exact h2 x y u w hu hw (N8 hS hu hw kP)
 ·rw [jc.1 ag]; exact (h1 x (s2 x aa).2.2).2
theorem TD {r : Nat} (aq : r ≤ 28) (l : List ao) (p q : ao) (h : p ≠ q) : hJ (· ≠ ·) (p :: (rz r l p q ++ [q])) := by
 obtain ⟨s1, s2, _⟩ := Bt aq l p q;refine FE (iN.2 ⟨fun x aa => ?_, List.pairwise_append.2 ⟨s1.imp fun {x y} kP e => ?_, List.pairwise_singleton _ _, fun x aa y ag => ?_⟩⟩)
 ·rcases kt.1 aa with aa | aa
  ·exact fun e => (s2 x aa).1.1 e.symm
  ·rw [jc.1 aa]; exact h
 ·subst e; rw [J4] at kP; cases kP
 ·rw [jc.1 ag]; exact (s2 x aa).1.2
def Em (V : List ao) (j : Nat) (l : List ao) : List ao := V.take (j + 1) ++ l ++ V.drop (j + 1)
def Ap (D : List Int) (j : Nat) (n : Nat) : List Int := D.take j ++ List.replicate (n + 1) (D.getD j 0 + 1) ++ D.drop (j + 1)
theorem Vb {V : List ao} {j : Nat} {p q : ao} (hp : V[j]? = some p) (al : V[j + 1]? = some q) : V.drop j = p :: q :: V.drop (j + 2) := by
 obtain ⟨h1, aI⟩ := bS.1 hp;obtain ⟨h2, aN⟩ := bS.1 al;rw [nE h1, aI, nE h2, aN]
end Go.Proofs.YtpochbhajmbfdaaGreat
namespace Go.Proofs.YtpochbhajmbfdaaGreat
open Go.RowKit
def oH (a b c d : Int) : Int := if dN a b c d = true then 0 else if a < c ∨ (a = c ∧ b < d) then -1 else 1
theorem acO {a b c d : Int} : aX aj 242 [bh a b, bh c d] (aW (oH a b c d)) := by
 have cs : (dN a b c d = true ∧ oH a b c d = 0) ∨ (dN a b c d = false ∧ a < c ∧ oH a b c d = -1) ∨ (dN a b c d = false ∧ ¬ a < c ∧ a = c ∧ b < d ∧ oH a b c d = -1) ∨ (dN a b c d = false ∧ ¬ a < c ∧ a = c ∧ ¬ b < d ∧ oH a b c d = 1) ∨ (dN a b c d = false ∧ ¬ a < c ∧ ¬ a = c ∧ oH a b c d = 1) := by
  unfold oH;cases h : dN a b c d with
  | true => simp
  | false =>
   by_cases h1 : a < c <;> by_cases h2 : a = c <;> by_cases ap : b < d <;> simp [h1, h2, ap] <;> omega
 rcases cs with ⟨h1, h⟩ | ⟨h1, h2, h⟩ | ⟨h1, h2, ap, aL, h⟩ | ⟨h1, h2, ap, aL, h⟩ | ⟨h1, h2, ap, h⟩ <;> rw [h] <;> clear h
 all_goals
  refine cl (f := 242) Tryz.func242 rfl rfl rfl rfl ?_;(repeat first | (with_reducible apply aA); exact rfl | (with_reducible apply vY); (iterate 4 exact rfl) | (with_reducible apply c8 (c := true)); exact rfl; exact rfl; (exact bB (by omega)) | (with_reducible apply c8 (c := false)); exact rfl; exact rfl; (exact bR (by omega)) | (with_reducible first | apply bX | apply bN | apply bV | apply aB | apply cd | apply fr | apply gy | apply iS | apply mX | apply rs) | (with_reducible apply jm); exact rfl | (with_reducible apply hI); exact rfl; (first | assumption | exact bB (by omega)) | (with_reducible apply hZ); exact rfl; (first | assumption | exact bR (by omega)))
  ((refine bU rfl (bE rfl bf) ?_))
  exact ai.bo.refl _
theorem Pr {n m : Int} (aG : -9223372036854775808 ≤ n) (h1 : n < 9223372036854775808) (jy : -9223372036854775808 ≤ m) (bA : m < 9223372036854775808) : aX aj 222 [aW n, aW m] (q0 (n * m)) :=
 mK [.int .i64 n, .int .i64 m] (fm (n * m)) rfl rfl rfl rfl rfl fun W => (Sw n m W aG h1 jy bA).mono fun e w' h => ad9 h
theorem Vz (a b c d a' bK c' d' : Int) (W : World) : (Op.equalIn 10000 216 (.agg #[.int .i64 a, .int .i64 b, .int .i64 c, .int .i64 d]) (.agg #[.int .i64 a', .int .i64 bK, .int .i64 c', .int .i64 d'])).run aj W = .ok (uI a b c d a' bK c' d') W := by
 unfold uI dN
 go_simp
 by_cases h1 : a = a' <;> by_cases h2 : b = bK <;> by_cases ap : c = c' <;> by_cases aL : d = d' <;> simp [h1, h2, ap, aL]
instance ahu : Jl aj 216 := ⟨by kernel_rfl, Vz⟩
theorem acU {a b c d : Int} : (oH a b c d > 0 ↔ ¬ dl a b c d) := by
 unfold oH dl;cases h : dN a b c d with
 | true => rw [rK] at h; rw [if_pos rfl]; omega
 | false =>
  have : ¬ (a = c ∧ b = d) := fun k => by rw [rK.2 k] at h; cases h
  rw [if_neg (by simp)]
  split <;> omega
theorem Ih {a1 a2 b1 b2 : Int} : aX aj 217 [bh a1 a2, bh b1 b2] (.cZ [.agg [.c (.int .i64 (eB a1 a2 b1 b2)), .c (.int .i64 (ef a1 a2 b1 b2))], .agg [.c (.int .i64 (en a1 a2 b1 b2)), .c (.int .i64 (dO a1 a2 b1 b2))]]) := by
 have aP := acO (a := a1) (b := a2) (c := b1) (d := b2);have h := acU (a := a1) (b := a2) (c := b1) (d := b2)
 have cs : (oH a1 a2 b1 b2 > 0 ∧ eB a1 a2 b1 b2 = b1 ∧ ef a1 a2 b1 b2 = b2 ∧ en a1 a2 b1 b2 = a1 ∧ dO a1 a2 b1 b2 = a2) ∨ (¬ oH a1 a2 b1 b2 > 0 ∧ eB a1 a2 b1 b2 = a1 ∧ ef a1 a2 b1 b2 = a2 ∧ en a1 a2 b1 b2 = b1 ∧ dO a1 a2 b1 b2 = b2) := by
  rw [h];unfold eB ef en dO
  by_cases k : dl a1 a2 b1 b2 <;> simp [k]
 clear h;generalize eB a1 a2 b1 b2 = l1 at *;generalize ef a1 a2 b1 b2 = l2 at *;generalize en a1 a2 b1 b2 = h1 at *;generalize dO a1 a2 b1 b2 = h2 at *;generalize oH a1 a2 b1 b2 = c at *;rcases cs with ⟨q, rfl, rfl, rfl, rfl⟩ | ⟨q, rfl, rfl, rfl, rfl⟩
 all_goals
  refine cl (f := 217) Tryz.func217 rfl rfl rfl rfl ?_;(repeat first | (with_reducible apply aA); exact rfl | refine dM rfl rfl rfl rfl (by (exact aP)) rfl ?_ | (with_reducible apply hX); kernel_rfl | (with_reducible apply h0); kernel_rfl; kernel_rfl; exact rfl | (with_reducible first | apply bX | apply bN | apply bV | apply aB | apply cd | apply fr | apply gy) | (with_reducible apply hI); exact rfl; (exact bB (by omega)) | (with_reducible apply hZ); exact rfl; (exact bR (by omega)))
  ((refine bU rfl (eV rfl rfl rfl (eV rfl rfl rfl bf)) ?_))
  exact ai.bo.refl _
theorem DJ {a1 a2 b1 b2 : Int} : aX aj 172 [bh a1 a2, bh b1 b2] (iO (eB a1 a2 b1 b2) (ef a1 a2 b1 b2) (en a1 a2 b1 b2) (dO a1 a2 b1 b2)) := by
 have aP := Ih (a1 := a1) (a2 := a2) (b1 := b1) (b2 := b2);generalize eB a1 a2 b1 b2 = l1 at *;generalize ef a1 a2 b1 b2 = l2 at *;generalize en a1 a2 b1 b2 = h1 at *;generalize dO a1 a2 b1 b2 = h2 at *;refine cl (f := 172) Tryz.func172 rfl rfl rfl rfl ?_;(repeat first | (with_reducible apply aA); exact rfl | refine dM rfl rfl rfl rfl (by (exact aP)) rfl ?_ | (with_reducible first | apply bX | apply bN | apply bV | apply aB | apply cd))
 ((refine bU rfl (eV rfl rfl rfl bf) ?_))
 exact ai.bo.refl _
theorem DI {s1 s2 bO bT p1 p2 : Int} (h1 : eb s1 s2 = true) (h2 : eb bO bT = true) (ap : eb p1 p2 = true) : aX aj 173 [iO s1 s2 bO bT, bh p1 p2] (aW (cf s1 s2 bO bT p1 p2)) := by
 have aP := O7 h1 h2 ap;clear h1 h2 ap;generalize cf s1 s2 bO bT p1 p2 = c at *;refine cl (f := 173) Tryz.func173 rfl rfl rfl rfl ?_;(repeat first | (with_reducible apply aA); exact rfl | refine jP rfl rfl rfl rfl rfl (by (exact aP)) rfl ?_ | (with_reducible first | apply bX | apply bN | apply bV | apply aB | apply cd))
 ((refine bU rfl (bE rfl bf) ?_))
 exact ai.bo.refl _
theorem abF {s1 s2 bO bT p1 p2 : Int} (h1 : eb s1 s2 = true) (h2 : eb bO bT = true) (ap : eb p1 p2 = true) : DF p1 p2 s1 s2 bO bT = decide (dj p1 p2 s1 s2 bO bT) := by
 rw [oK, cB];unfold DF dj r5;rw [h1, h2, ap];simp only [qO, dQ, cB, WK]
 constructor
 ·rintro ⟨⟨a, b, c, d⟩, e⟩; exact ⟨e, a, b, c, d⟩
 ·rintro ⟨e, a, b, c, d⟩; exact ⟨⟨a, b, c, d⟩, e⟩
theorem Pg {s1 s2 bO bT p1 p2 : Int} (h1 : eb s1 s2 = true) (h2 : eb bO bT = true) (ap : eb p1 p2 = true) : aX aj 219 [iO s1 s2 bO bT, bh p1 p2] (bF (decide (dj p1 p2 s1 s2 bO bT))) := by
 have aP := ab9 (abF h1 h2 ap);clear h1 h2 ap;generalize decide (dj p1 p2 s1 s2 bO bT) = c at *;refine cl (f := 219) Tryz.func219 rfl rfl rfl rfl ?_;(repeat first | (with_reducible apply aA); exact rfl | refine jP rfl rfl rfl rfl rfl (by (exact aP)) rfl ?_ | (with_reducible first | apply bX | apply bN | apply bV | apply aB | apply cd))
 ((refine bU rfl (bE rfl bf) ?_))
 exact ai.bo.refl _
theorem Po {m n : Int} {r : Bool} (aq : decide (same m n) = r) : aX aj 175 [aW m, aW n] (bF r) := by
 have cs : (m > 0 ∧ n > 0 ∧ r = true) ∨ (m > 0 ∧ ¬ n > 0 ∧ ¬ m < 0 ∧ r = false) ∨ (¬ m > 0 ∧ m < 0 ∧ n < 0 ∧ r = true) ∨ (¬ m > 0 ∧ m < 0 ∧ ¬ n < 0 ∧ r = false) ∨ (¬ m > 0 ∧ ¬ m < 0 ∧ r = false) := by
  rw [← aq];unfold same
  by_cases h1 : m > 0 <;> by_cases h2 : n > 0 <;> by_cases ap : m < 0 <;> by_cases aL : n < 0 <;> simp [h1, h2, ap, aL] <;> omega
 clear aq;rcases cs with ⟨q1, q2, rfl⟩ | ⟨q1, q2, b5, rfl⟩ | ⟨q1, q2, b5, rfl⟩ | ⟨q1, q2, b5, rfl⟩ | ⟨q1, q2, rfl⟩
 all_goals
  refine cl (f := 175) Tryz.func175 rfl rfl rfl rfl ?_;(repeat first | (with_reducible apply aA); exact rfl | (with_reducible apply c8 (c := true)); exact rfl; exact rfl; (exact bB (by omega)) | (with_reducible apply c8 (c := false)); exact rfl; exact rfl; (exact bR (by omega)) | (with_reducible first | apply bX | apply bN | apply bV | apply aB | apply cd))
  ((refine bU rfl (bE rfl bf) ?_))
  first | exact ai.bo.refl _ | exact ai.bo.of_eq (by rw [bB q2]; rfl) | exact ai.bo.of_eq (by rw [bB b5]; rfl) | exact ai.bo.of_eq (by rw [bR b5]; rfl)
theorem Bv {x A : Int} (h1 : -134217728 ≤ x) (h2 : x ≤ 134217728) (ap : -144115188075855872 ≤ A) (aL : A ≤ 144115188075855872) : -19342813113834066795298816 ≤ x * A ∧ x * A ≤ 19342813113834066795298816 := by
 have := H2 h1 h2 ap aL;omega
theorem Ps {l h A B n d : Int} (cn : A ≠ B) (qz : -134217728 ≤ l) (l1 : l ≤ 134217728) (aG : -134217728 ≤ h) (h1 : h ≤ 134217728) (bY : -144115188075855872 ≤ A) (mv : A ≤ 144115188075855872) (br : -144115188075855872 ≤ B) (mw : B ≤ 144115188075855872) (aF : jb (h * A - l * B) (A - B) = n) (hd : h9 (A - B) = d) : aX aj 176 [aW l, aW h, aW A, aW B] (fv n d) := by
 have b1 := Bv aG h1 bY mv;have b2 := Bv qz l1 br mw;have rp := Pr (n := h) (m := A) (by omega) (by omega) (by omega) (by omega);have vU := Pr (n := l) (m := B) (by omega) (by omega) (by omega) (by omega);have f1 : fits (h * A) = true := by unfold fits; rw [cB]; omega
 have f2 : fits (l * B) = true := by unfold fits; rw [cB]; omega
 have f3 : fits (h * A - l * B) = true := by unfold fits; rw [cB]; omega
 have f4 : fits (A - B) = true := by unfold fits; rw [cB]; omega
 have JI := acQ f1 f2;have JJ := acP (n := A - B) (by omega) (by omega);simp only [wf, f3, if_true] at JI
 have JK : aX aj 223 [q0 (h * A - l * B), q0 (A - B)] (.cZ [Ca n d, .one (.c (.bool true))]) := by
  by_cases q : A - B < 0
  ·unfold jb at aF;unfold h9 at hd;rw [if_pos q] at aF hd;have g1 : fits (-(h * A - l * B)) = true := by unfold fits; rw [cB]; omega
   have g2 : fits (-(A - B)) = true := by unfold fits; rw [cB]; omega
   exact ab1 f3 f4 q (s := true) (by rw [g1, g2]; rfl) (by rw [if_pos rfl, aF]) (by rw [if_pos rfl, hd])
  ·unfold jb at aF;unfold h9 at hd;rw [if_neg q] at aF hd;have := ab2 f3 f4 (by omega);rw [aF, hd] at this;rw [aF, hd];exact this
 obtain ⟨D, kh⟩ : ∃ D, A - B = D := ⟨_, rfl⟩;have aO : IntKind.i64.wrap (A - B) = D := by rw [← kh]; exact da (by omega)
 rw [kh] at JJ JK;clear f1 f2 f3 f4 b1 b2 aF hd kh bY mv br mw cn;generalize h * A - l * B = X at *;generalize h * A = Y at *;generalize l * B = Z at *;refine cl (f := 176) Tryz.func176 rfl rfl rfl rfl ?_;(repeat first | (with_reducible apply aA); exact rfl | (with_reducible apply nX); (iterate 3 exact rfl); (assumption); exact rfl | refine fN rfl rfl rfl (by (exact JJ)) rfl ?_ | refine dM rfl rfl rfl rfl (by (first | exact rp | exact vU | exact JI | exact JK)) rfl ?_ | (with_reducible apply hX); kernel_rfl | (with_reducible apply h0); kernel_rfl; kernel_rfl; exact rfl | (with_reducible first | apply bX | apply bN | apply bV | apply aB | apply cd))
 ((refine bU rfl (eV rfl rfl rfl bf) ?_))
 exact ai.bo.refl _
instance ahv : Jm aj 163 0 0 false 1 := ⟨by kernel_rfl⟩
abbrev afm (k n d m e p1 p2 q1 q2 : Int) : ai := .w (.agg [.c (.int .i64 k), .c (.int .i64 (km n)), .c (.int .u64 (kq n)), .c (.int .i64 (km d)), .c (.int .u64 (kq d)), .c (.int .i64 (km m)), .c (.int .u64 (kq m)), .c (.int .i64 (km e)), .c (.int .u64 (kq e)), .c (.int .i64 p1), .c (.int .i64 p2), .c (.int .i64 q1), .c (.int .i64 q2)])
abbrev nO (M : fz) : ai := afm M.k M.n M.d M.m M.e M.p1 M.p2 M.q1 M.q2
theorem YW {s1 s2 bO bT t1 t2 t3 t4 f1 f2 g1 g2 c7 dq lv q3 : Int} {p q : Bool} {M : fz}
  (Ju : aX aj 217 [bh s1 s2, bh t1 t2] (.cZ [.agg [.c (.int .i64 c7), .c (.int .i64 dq)], .agg [.c (.int .i64 f1), .c (.int .i64 f2)]]))
  (Jv : aX aj 217 [bh bO bT, bh t3 t4] (.cZ [.agg [.c (.int .i64 g1), .c (.int .i64 g2)], .agg [.c (.int .i64 lv), .c (.int .i64 q3)]]))
  (H1 : aX aj 219 [iO s1 s2 bO bT, bh f1 f2] (bF p)) (b8 : aX aj 219 [iO t1 t2 t3 t4, bh f1 f2] (bF q))
  (kc : aX aj 220 [aW f1] (fv f1 1)) (lW : aX aj 220 [aW f2] (fv f2 1))
  (iW : (if (p && q) = true then u4 f1 f2 g1 g2 else ht) = M) : aX aj 174 [iO s1 s2 bO bT, iO t1 t2 t3 t4] (nO M) := by
 unfold u4 at iW;have hp : (f1 = g1 ∧ f2 = g2) ↔ dN f1 f2 g1 g2 = true := rK.symm
 have cs : (p = false ∧ M = ht) ∨ (p = true ∧ q = false ∧ M = ht) ∨ (p = true ∧ q = true ∧ dN f1 f2 g1 g2 = true ∧ M = iK f1 1 f2 1) ∨ (p = true ∧ q = true ∧ dN f1 f2 g1 g2 = false ∧ M = sT f1 f2 g1 g2) := by
  rw [← iW];cases al : dN f1 f2 g1 g2 <;> rw [al] at hp <;> cases p <;> cases q <;> simp [hp]
 clear iW hp;refine cl (f := 174) Tryz.func174 rfl rfl rfl rfl ?_;(repeat first | (with_reducible apply aA); exact rfl | refine dM rfl rfl rfl rfl (by (first | exact Ju | exact Jv)) rfl ?_ | (with_reducible first | apply bX | apply bN | apply bV | apply aB));clear Ju Jv;rcases cs with ⟨rfl, rfl⟩ | ⟨rfl, rfl, rfl⟩ | ⟨rfl, rfl, h, rfl⟩ | ⟨rfl, rfl, h, rfl⟩
 all_goals
  (repeat first | (with_reducible apply aA); exact rfl | (with_reducible apply vY); (iterate 4 exact rfl) | refine fN rfl rfl rfl (by (first | exact kc | exact lW)) rfl ?_ | refine dM rfl rfl rfl rfl (by (first | exact H1 | exact b8)) rfl ?_ | (with_reducible apply hX); kernel_rfl | (with_reducible apply h0); kernel_rfl; kernel_rfl; exact rfl | (with_reducible first | apply bX | apply bN | apply bV | apply aB | apply cd | apply fr | apply gy) | (with_reducible apply kE); exact rfl | (with_reducible apply jm); exact rfl | (with_reducible apply hI); exact rfl; (assumption) | (with_reducible apply hZ); exact rfl; (assumption))
  ((refine bU rfl (eV rfl rfl rfl bf) ?_))
  first | exact ai.bo.refl _ | exact ai.bo.of_eq (by simp only [ht, yU, zD]; rfl) | exact ai.bo.of_eq (by simp only [sT, yU, zD]; rfl)
theorem Iw {a1 a2 b1 b2 : Int} (h : cH a1 a2 = true) (k : cH b1 b2 = true) : cH (en a1 a2 b1 b2) (dO a1 a2 b1 b2) = true := by
 rcases mH a1 a2 b1 b2 with ⟨_, _, ap, aL, _⟩ | ⟨_, _, ap, aL, _⟩ <;> rw [ap, aL] <;> assumption
theorem PR {a1 a2 b1 b2 : Int} (h : cH a1 a2 = true) (k : cH b1 b2 = true) : cH (eB a1 a2 b1 b2) (ef a1 a2 b1 b2) = true := by
 rcases mH a1 a2 b1 b2 with ⟨ap, aL, _⟩ | ⟨ap, aL, _⟩ <;> rw [ap, aL] <;> assumption
theorem acF {s1 s2 bO bT t1 t2 t3 t4 : Int} (h1 : cH s1 s2 = true) (h2 : cH bO bT = true) (ap : cH t1 t2 = true) (aL : cH t3 t4 = true) : aX aj 174 [iO s1 s2 bO bT, iO t1 t2 t3 t4] (nO (inl s1 s2 bO bT t1 t2 t3 t4)) := by
 have au := Iw h1 ap;have ab := sw.1 au;refine YW Ih Ih (Pg (kV h1) (kV h2) (kV au)) (Pg (kV ap) (kV aL) (kV au)) (O9 (by omega) (by omega)) (O9 (by omega) (by omega)) ?_;unfold inl;exact zt (by rw [dQ, cB, cB])
theorem aco {a1 a2 b1 b2 c1 c2 d1 d2 : Int} (h : (cH a1 a2 && cH b1 b2 && cH c1 c2 && cH d1 d2) = false) : aX aj 119 [bh a1 a2, bh b1 b2, bh c1 c2, bh d1 d2] (nO ht) := by
 have bn := oF (x := a1) (y := a2) rfl;have eY := oF (x := b1) (y := b2) rfl;have jL := oF (x := c1) (y := c2) rfl;have ul := oF (x := d1) (y := d2) rfl
 have cs : cH a1 a2 = false ∨ (cH a1 a2 = true ∧ cH b1 b2 = false) ∨ (cH a1 a2 = true ∧ cH b1 b2 = true ∧ cH c1 c2 = false) ∨ (cH a1 a2 = true ∧ cH b1 b2 = true ∧ cH c1 c2 = true ∧ cH d1 d2 = false) := by
  generalize cH a1 a2 = cP at *;generalize cH b1 b2 = ea at *;generalize cH c1 c2 = hB at *;generalize cH d1 d2 = qP at *;cases cP <;> cases ea <;> cases hB <;> cases qP <;> simp_all
 clear h;rcases cs with h1 | ⟨h1, h2⟩ | ⟨h1, h2, ap⟩ | ⟨h1, h2, ap, aL⟩ <;> simp only [*] at bn eY jL ul
 all_goals
  refine cl (f := 119) Tryz.func119 rfl rfl rfl rfl ?_;(repeat first | (with_reducible apply aA); exact rfl | refine fN rfl rfl rfl (by (first | exact bn | exact eY | exact jL | exact ul)) rfl ?_ | (with_reducible first | apply bX | apply bN | apply bV | apply aB | apply cd | apply gy) | (with_reducible apply kE); exact rfl)
  ((refine bU rfl (eV rfl rfl rfl bf) ?_))
  exact ai.bo.of_eq (by simp only [ht, yU, zD]; rfl)
theorem Uo {a1 a2 b1 b2 c1 c2 d1 d2 s1 s2 bO bT t1 t2 t3 t4 A B C D n d m e : Int} {x y : Bool} {I M : fz}
  (bn : aX aj 171 [bh a1 a2] (bF true)) (eY : aX aj 171 [bh b1 b2] (bF true)) (jL : aX aj 171 [bh c1 c2] (bF true)) (ul : aX aj 171 [bh d1 d2] (bF true))
  (mw : aX aj 172 [bh a1 a2, bh b1 b2] (iO s1 s2 bO bT)) (sO : aX aj 172 [bh c1 c2, bh d1 d2] (iO t1 t2 t3 t4))
  (fA : aX aj 173 [iO s1 s2 bO bT, bh t1 t2] (aW A)) (fU : aX aj 173 [iO s1 s2 bO bT, bh t3 t4] (aW B))
  (o0 : aX aj 173 [iO t1 t2 t3 t4, bh s1 s2] (aW C)) (uv : aX aj 173 [iO t1 t2 t3 t4, bh bO bT] (aW D))
  (uj : aX aj 175 [aW A, aW B] (bF x)) (vL : aX aj 175 [aW C, aW D] (bF y))
  (L : aX aj 174 [iO s1 s2 bO bT, iO t1 t2 t3 t4] (nO I))
  (rq : A ≠ B → aX aj 176 [aW t1, aW t3, aW A, aW B] (fv n d)) (ux : A ≠ B → aX aj 176 [aW t2, aW t4, aW A, aW B] (fv m e))
  (iW : (if A = B then I else if (x || y) = true then ht else iK n d m e) = M) : aX aj 119 [bh a1 a2, bh b1 b2, bh c1 c2, bh d1 d2] (nO M) := by
 have cs : (A = B ∧ M = I) ∨ (¬ A = B ∧ x = true ∧ M = ht) ∨ (¬ A = B ∧ x = false ∧ y = true ∧ M = ht) ∨ (¬ A = B ∧ x = false ∧ y = false ∧ M = iK n d m e) := by
  rw [← iW]
  by_cases h : A = B
  ·simp [h]
  ·cases x <;> cases y <;> simp [h]
 clear iW;refine cl (f := 119) Tryz.func119 rfl rfl rfl rfl ?_;(repeat first | (with_reducible apply aA); exact rfl | refine fN rfl rfl rfl (by (first | exact bn | exact eY | exact jL | exact ul)) rfl ?_ | refine dM rfl rfl rfl rfl (by (first | exact mw | exact sO | exact fA | exact fU)) rfl ?_ | (with_reducible apply hX); kernel_rfl | (with_reducible apply h0); kernel_rfl; kernel_rfl; exact rfl | (with_reducible first | apply bX | apply bN | apply bV | apply aB | apply fr | apply iS) | (with_reducible apply jm); exact rfl);clear bn eY jL ul mw sO fA fU;rcases cs with ⟨h, rfl⟩ | ⟨h, rfl, rfl⟩ | ⟨h, rfl, rfl, rfl⟩ | ⟨h, rfl, rfl, rfl⟩
 ·clear rq ux;(repeat first | (with_reducible apply aA); exact rfl | refine dM rfl rfl rfl rfl (by (exact L)) rfl ?_ | (with_reducible first | apply bX | apply bN | apply bV | apply aB | apply cd | apply gy | apply rs) | (with_reducible apply hI); exact rfl; (exact bB (by omega)))
  ((refine bU rfl (eV rfl rfl rfl bf) ?_))
  exact ai.bo.refl _
 ·clear rq ux;(repeat first | (with_reducible apply aA); exact rfl | refine dM rfl rfl rfl rfl (by (exact uj)) rfl ?_ | (with_reducible first | apply bX | apply bN | apply bV | apply aB | apply cd | apply fr | apply gy | apply rs) | (with_reducible apply kE); exact rfl | (with_reducible apply hZ); exact rfl; (exact bR (by omega)))
  ((refine bU rfl (eV rfl rfl rfl bf) ?_))
  exact ai.bo.of_eq (by simp only [ht, yU, zD]; rfl)
 ·clear rq ux;(repeat first | (with_reducible apply aA); exact rfl | refine dM rfl rfl rfl rfl (by (first | exact o0 | exact uv | exact uj | exact vL)) rfl ?_ | (with_reducible apply hX); kernel_rfl | (with_reducible apply h0); kernel_rfl; kernel_rfl; exact rfl | (with_reducible first | apply bX | apply bN | apply bV | apply aB | apply cd | apply gy | apply rs) | (with_reducible apply kE); exact rfl | (with_reducible apply jm); exact rfl | (with_reducible apply hZ); exact rfl; (exact bR (by omega)))
  ((refine bU rfl (eV rfl rfl rfl bf) ?_))
  exact ai.bo.of_eq (by simp only [ht, yU, zD]; rfl)
 ·have Sz := rq h;have SA := ux h;clear rq ux;(repeat first | (with_reducible apply aA); exact rfl | refine dM rfl rfl rfl rfl (by (first | exact o0 | exact uv | exact uj | exact vL)) rfl ?_ | refine nb rfl rfl rfl rfl rfl rfl (by (first | exact Sz | exact SA)) rfl ?_ | (with_reducible apply hX); kernel_rfl | (with_reducible apply h0); kernel_rfl; kernel_rfl; exact rfl | (with_reducible first | apply bX | apply bN | apply bV | apply aB | apply cd | apply fr | apply mX) | (with_reducible apply jm); exact rfl | (with_reducible apply hZ); exact rfl; (exact bR (by omega)))
  ((refine bU rfl (eV rfl rfl rfl bf) ?_))
  exact ai.bo.refl _
theorem Dr {x y : Int} (h1 : -268435456 ≤ x) (h2 : x ≤ 268435456) (ap : -268435456 ≤ y) (aL : y ≤ 268435456) : -72057594037927936 ≤ x * y ∧ x * y ≤ 72057594037927936 := by
 have := H2 h1 h2 ap aL;omega
theorem KN {o1 o2 a1 a2 b1 b2 : Int} (h1 : cH o1 o2 = true) (h2 : cH a1 a2 = true) (ap : cH b1 b2 = true) : -144115188075855872 ≤ cf o1 o2 a1 a2 b1 b2 ∧ cf o1 o2 a1 a2 b1 b2 ≤ 144115188075855872 := by
 rw [sw] at h1 h2 ap;have m1 := Dr (x := a1 - o1) (y := b2 - o2) (by omega) (by omega) (by omega) (by omega);have m2 := Dr (x := a2 - o2) (y := b1 - o1) (by omega) (by omega) (by omega) (by omega);unfold cf;omega
def qC (a1 a2 b1 b2 c1 c2 d1 d2 : Int) : fz := if (cH a1 a2 && cH b1 b2 && cH c1 c2 && cH d1 d2) = true then hO a1 a2 b1 b2 c1 c2 d1 d2 else ht
theorem acp {a1 a2 b1 b2 c1 c2 d1 d2 : Int} (aK : cH a1 a2 = true) (ab : cH b1 b2 = true) (ak : cH c1 c2 = true) (hd : cH d1 d2 = true) : aX aj 119 [bh a1 a2, bh b1 b2, bh c1 c2, bh d1 d2] (nO (hO a1 a2 b1 b2 c1 c2 d1 d2)) := by
 have bn := oF aK;have eY := oF ab;have jL := oF ak;have ul := oF hd;have mw := DJ (a1 := a1) (a2 := a2) (b1 := b1) (b2 := b2);have sO := DJ (a1 := c1) (a2 := c2) (b1 := d1) (b2 := d2);have q1 := PR aK ab;have q2 := Iw aK ab;have b5 := PR ak hd;have ew := Iw ak hd;have l1 := w5 a1 a2 b1 b2;have l2 := w5 c1 c2 d1 d2;rw [← aaz];generalize eB a1 a2 b1 b2 = s1 at *;generalize ef a1 a2 b1 b2 = s2 at *;generalize en a1 a2 b1 b2 = bO at *;generalize dO a1 a2 b1 b2 = bT at *;generalize eB c1 c2 d1 d2 = t1 at *;generalize ef c1 c2 d1 d2 = t2 at *;generalize en c1 c2 d1 d2 = t3 at *;generalize dO c1 c2 d1 d2 = t4 at *;have bA := KN q1 q2 b5;have b9 := KN q1 q2 ew;have i3 := sw.1 b5;have i4 := sw.1 ew
 refine Uo bn eY jL ul mw sO (DI (kV q1) (kV q2) (kV b5)) (DI (kV q1) (kV q2) (kV ew)) (DI (kV b5) (kV ew) (kV q1)) (DI (kV b5) (kV ew) (kV q2)) (Po rfl) (Po rfl) (acF q1 q2 b5 ew)
  (fun cn => Ps cn i3.1.1 i3.1.2 i4.1.1 i4.1.2 bA.1 bA.2 b9.1 b9.2 rfl rfl) (fun cn => Ps cn i3.2.1 i3.2.2 i4.2.1 i4.2.2 bA.1 bA.2 b9.1 b9.2 rfl rfl) ?_
 rw [← aay l1 l2];unfold HQ
 by_cases h : cf s1 s2 bO bT t1 t2 = cf s1 s2 bO bT t3 t4
 ·rw [if_pos h, if_pos h]
 ·rw [if_neg h, if_neg h];exact zt (by rw [qM, cB, cB])
theorem Ig {a1 a2 b1 b2 c1 c2 d1 d2 : Int} : aX aj 119 [bh a1 a2, bh b1 b2, bh c1 c2, bh d1 d2] (nO (qC a1 a2 b1 b2 c1 c2 d1 d2)) := by
 unfold qC
 by_cases h : (cH a1 a2 && cH b1 b2 && cH c1 c2 && cH d1 d2) = true
 ·rw [if_pos h];simp only [dQ] at h;exact acp h.1.1.1 h.1.1.2 h.1.2 h.2
 ·rw [if_neg h];exact aco (by simpa using h)
def FU (M : fz) (a1 a2 b1 b2 c1 c2 d1 d2 : Int) : Bool :=
 if M.k = 1 then dN a1 a2 c1 c2 || dN a1 a2 d1 d2 || dN b1 b2 c1 c2 || dN b1 b2 d1 d2
 else if M.k = 2 then uI (eB a1 a2 b1 b2) (ef a1 a2 b1 b2) (en a1 a2 b1 b2) (dO a1 a2 b1 b2) (eB c1 c2 d1 d2) (ef c1 c2 d1 d2) (en c1 c2 d1 d2) (dO c1 c2 d1 d2)
 else true
theorem TR {a1 a2 b1 b2 c1 c2 d1 d2 s1 s2 bO bT t1 t2 t3 t4 : Int} {M : fz} {r : Bool} (aP : aX aj 119 [bh a1 a2, bh b1 b2, bh c1 c2, bh d1 d2] (nO M))
  (mw : aX aj 172 [bh a1 a2, bh b1 b2] (iO s1 s2 bO bT)) (sO : aX aj 172 [bh c1 c2, bh d1 d2] (iO t1 t2 t3 t4))
  (aq : (if M.k = 1 then dN a1 a2 c1 c2 || dN a1 a2 d1 d2 || dN b1 b2 c1 c2 || dN b1 b2 d1 d2 else if M.k = 2 then uI s1 s2 bO bT t1 t2 t3 t4 else true) = r) : aX aj 185 [bh a1 a2, bh b1 b2, bh c1 c2, bh d1 d2] (bF r) := by
 obtain ⟨k, n, d, m, e, p1, p2, q1, q2⟩ := M;simp only at aq aP
 have cs : (k = 1 ∧ dN a1 a2 c1 c2 = true ∧ r = true) ∨ (k = 1 ∧ dN a1 a2 c1 c2 = false ∧ dN a1 a2 d1 d2 = true ∧ r = true) ∨ (k = 1 ∧ dN a1 a2 c1 c2 = false ∧ dN a1 a2 d1 d2 = false ∧ dN b1 b2 c1 c2 = true ∧ r = true) ∨ (k = 1 ∧ dN a1 a2 c1 c2 = false ∧ dN a1 a2 d1 d2 = false ∧ dN b1 b2 c1 c2 = false ∧ r = dN b1 b2 d1 d2) ∨ (¬ k = 1 ∧ k = 2 ∧ r = uI s1 s2 bO bT t1 t2 t3 t4) ∨ (¬ k = 1 ∧ ¬ k = 2 ∧ r = true) := by
  rw [← aq]
  by_cases h1 : k = 1
  ·rw [if_pos h1];cases dN a1 a2 c1 c2 <;> cases dN a1 a2 d1 d2 <;> cases dN b1 b2 c1 c2 <;> simp [h1]
  ·rw [if_neg h1]
   by_cases h2 : k = 2
   ·rw [if_pos h2]; simp [h2]
   ·rw [if_neg h2]; simp [h1, h2]
 clear aq;refine cl (f := 185) Tryz.func185 rfl rfl rfl rfl ?_;(repeat first | (with_reducible apply aA); exact rfl | (with_reducible apply S9); (iterate 4 exact rfl) | refine nb rfl rfl rfl rfl rfl rfl (by (exact aP)) rfl ?_ | (with_reducible first | apply bX | apply bN | apply bV | apply aB | apply iS));clear aP;rcases cs with ⟨h1, h2, rfl⟩ | ⟨h1, h2, ap, rfl⟩ | ⟨h1, h2, ap, aL, rfl⟩ | ⟨h1, h2, ap, aL, rfl⟩ | ⟨h1, h2, rfl⟩ | ⟨h1, h2, rfl⟩
 all_goals
  (repeat first | (with_reducible apply aA); exact rfl | (with_reducible apply vY); (iterate 4 exact rfl) | (with_reducible apply S4); (iterate 4 exact rfl) | refine dM rfl rfl rfl rfl (by (first | exact mw | exact sO)) rfl ?_ | (with_reducible apply c8 (c := true)); exact rfl; exact rfl; (assumption) | (with_reducible apply c8 (c := false)); exact rfl; exact rfl; (assumption) | (with_reducible apply hX); kernel_rfl | (with_reducible apply h0); kernel_rfl; kernel_rfl; exact rfl | (with_reducible first | apply bX | apply bN | apply bV | apply aB | apply cd | apply fr | apply gy | apply mX | apply rs) | (with_reducible apply hI); exact rfl; (exact bB (by omega)) | (with_reducible apply hZ); exact rfl; (exact bR (by omega)))
  ((refine bU rfl (bE rfl bf) ?_))
  first | exact ai.bo.refl _ | exact ai.bo.of_eq (by rw [h2]; rfl) | exact ai.bo.of_eq (by rw [ap]; rfl) | exact ai.bo.of_eq (by rw [aL]; rfl)
theorem acn {a1 a2 b1 b2 c1 c2 d1 d2 : Int} : aX aj 185 [bh a1 a2, bh b1 b2, bh c1 c2, bh d1 d2] (bF (FU (qC a1 a2 b1 b2 c1 c2 d1 d2) a1 a2 b1 b2 c1 c2 d1 d2)) :=
 TR Ig DJ DJ rfl
end Go.Proofs.YtpochbhajmbfdaaGreat
