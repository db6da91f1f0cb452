/-
  My own texts, without what this claim does not need. My own text.
-/
import Derived.Test.YtpochbhajmbfdaaGreatProg
import Derived.ProofKit
import Derived.OpenShut
import Derived.Deep.DeepHandedRow
import Derived.Lib.LaidTab
import Derived.Lib.SmallJoins
import Derived.Test.YtpochbhajmbfdaaGreatSEndsK7
set_option maxRecDepth 100000
set_option maxHeartbeats 64000000
set_option linter.unusedVariables false
set_option linter.unusedSimpArgs false
set_option linter.unusedSectionVars false
open Go.Proofs.Tryz renaming prog → ai
namespace Go.Proofs.YtpochbhajmbfdaaGreat
open Go.RowKit
def gB (k : Int) (r : Nat) : Prop := r ≤ 28 ∧ ((k < 0 ∧ r = 0) ∨ (28 < k ∧ r = 28) ∨ (r : Int) = k)
theorem Za (k : Int) : ∃ r, gB k r := by
 by_cases h : k < 0
 ·exact ⟨0, by omega, .inl ⟨h, rfl⟩⟩
 ·by_cases aF : 28 < k
  ·exact ⟨28, by omega, .inr (.inl ⟨aF, rfl⟩)⟩
  ·exact ⟨k.toNat, by omega, .inr (.inr (by omega))⟩
theorem vA {a b : Int} {w w' : World} (e : a = b) (h : Below w.heap.size w w') : gP (.int .i64 b) w (.returned (.int .i64 a)) w' := ⟨by rw [e], h⟩
theorem xy {a b : Bool} {w w' : World} (e : a = b) (h : Below w.heap.size w w') : gP (.bool b) w (.returned (.bool a)) w' := ⟨by rw [e], h⟩
theorem zO (k : Int) (r : Nat) (w : World) (h : gB k r) : Calls ai 136 #[.int .i64 k] w (gP (.int .i64 r) w) := by
 have nb := Lib.hid h;clear h
 go_enter Tryz.func136, Tryz.ntmps136
 go_wp2
 all_goals
  go_ret
  refine vA ?_ (Below.refl _ _);have h1 := nb.out;unfold gB at h1;omega
theorem Rh (n : Int) (h : -9223372036854775808 ≤ n ∧ n ≤ 9223372036854775807) : wrap64 n = n := by unfold wrap64; omega
theorem Is {r : Nat} (h : r ≤ 28) : (1 : Int) ≤ 2 ^ r ∧ (2 : Int) ^ r ≤ 268435456 := by
 have h1 := Nat.pow_le_pow_right (show 0 < 2 by decide) h;have h2 := Nat.pow_pos (show 0 < 2 by decide) (n := r);have e : ((2 : Int) ^ r) = ((2 ^ r : Nat) : Int) := by simp
 rw [show (2 : Nat) ^ 28 = 268435456 by decide] at h1;rw [e];omega
def cz (v : Int) (r : Nat) : Int := (2 * v + 2 ^ r) / (2 * 2 ^ r)
theorem WA (v : Int) : cz v 0 = v := by unfold cz; omega
theorem Wz (v : Int) (r : Nat) : cz v (r + 1) = v / 2 ^ (r + 1) + v / 2 ^ r % 2 := by
 unfold cz;have hp : (0 : Int) < 2 ^ r := jI (by decide);rw [Int.pow_succ];generalize (2 : Int) ^ r = P at *
 have aI : (2 * v + P * 2) / (2 * (P * 2)) = (v + P) / (P * 2) := by
  rw [show 2 * v + P * 2 = 2 * (v + P) by omega, Int.mul_ediv_mul_of_pos _ _ (by decide)]
 rw [aI, ← xu (by omega), ← xu (by omega), show v + P = v + 1 * P by omega, Int.add_mul_ediv_right _ _ (by omega)];omega
theorem TG (x : Int) : bits BinOp.and IntKind.i64 x 1 = x % 2 := by
 unfold bits
 have h : (BitVec.ofInt 64 x &&& BitVec.ofInt 64 1).toNat = (x % 2).toNat := by
  rw [BitVec.toNat_and, BitVec.toNat_ofInt, BitVec.toNat_ofInt, show ((1 : Int) % ((2 ^ 64 : Nat) : Int)).toNat = 1 by decide, Nat.and_one_is_mod];omega
 show IntKind.i64.wrap ((BitVec.ofInt 64 x &&& BitVec.ofInt 64 1).toNat : Int) = x % 2;rw [h];have h2 : ((x % 2).toNat : Int) = x % 2 := by omega
 rw [h2];rcases (show x % 2 = 0 ∨ x % 2 = 1 by omega) with e | e <;> rw [e] <;> decide
theorem aeQ {v : Int} (r : Nat) (v0 : -9223372036854775808 ≤ v) (v1 : v < 9223372036854775808) : wrap64 (v / 2 ^ (r + 1) + v / 2 ^ r % 2) = cz v (r + 1) := by
 rw [Wz];refine Rh _ ?_;have hp : (0 : Int) < 2 ^ r := jI (by decide);rw [Int.pow_succ, ← xu (by omega)]
 have h1 : -9223372036854775808 ≤ v / 2 ^ r := by
  rw [pQ hp];have := pK (show (1 : Int) ≤ 2 ^ r by omega) (show (0 : Int) ≤ 9223372036854775808 by omega);omega
 have h2 : v / 2 ^ r ≤ 9223372036854775807 := by
  by_cases h : 0 ≤ v
  ·have := Int.ediv_le_self (2 ^ r) h;omega
  ·have := Int.ediv_neg_of_neg_of_pos (show v < 0 by omega) hp;omega
 generalize v / 2 ^ r = q at *;omega
theorem We (v k : Int) (w : World) (h : gB k 0) : Calls ai 72 #[.int .i64 v, .int .i64 k] w (gP (.int .i64 v) w) := by
 have nb := Lib.hid (fun w => zO k 0 w h);clear h
 go_enter Tryz.func72, Tryz.ntmps72
 go_wp2_with (go_at_call 136; ((with_reducible refine (nb.out _).mono ?_); rintro e aP ⟨rfl, ab⟩))
 go_ret
 exact vA rfl (by (repeat first | with_reducible assumption))
theorem Wd (v k : Int) (r : Nat) (w : World) (h : gB k (r + 1)) (v0 : -9223372036854775808 ≤ v) (v1 : v < 9223372036854775808) : Calls ai 72 #[.int .i64 v, .int .i64 k] w (gP (.int .i64 (cz v (r + 1))) w) := by
 have nb := Lib.hid (fun w => zO k (r + 1) w h);have A2 := Lib.hid (aeQ r v0 v1);have aq : r < 28 := by unfold gB at h; omega
 clear h v0 v1
 go_enter Tryz.func72, Tryz.ntmps72
 go_wp2_with (go_at_call 136; ((with_reducible refine (nb.out _).mono ?_); rintro e aP ⟨rfl, ab⟩))
 go_region
 go_wp2
 go_ret
 exact vA (by rw [TG]; exact A2.out) (by (repeat first | with_reducible assumption | with_reducible refine Below.drew ?_))
theorem Wc (v k : Int) (r : Nat) (w : World) (h : gB k r) (v0 : -9223372036854775808 ≤ v) (v1 : v < 9223372036854775808) : Calls ai 72 #[.int .i64 v, .int .i64 k] w (gP (.int .i64 (cz v r)) w) := by
 rcases r with _ | r
 ·rw [WA]; exact We v k w h
 ·exact Wd v k r w h v0 v1
theorem afF {r : Nat} (h : r ≤ 28) : wrap64 (2 ^ r) = 2 ^ r := Rh _ (by have := Is h; omega)
theorem aeA (k : Int) (r : Nat) (w : World) (h : gB k r) : Calls ai 78 #[.int .i64 k] w (gP (.int .i64 (2 ^ r)) w) := by
 have nb := Lib.hid (fun w => zO k r w h);have aq : r ≤ 28 := h.1;clear h
 go_enter Tryz.func78, Tryz.ntmps78
 go_wp2_with (go_at_call 136; ((with_reducible refine (nb.out _).mono ?_); rintro e aP ⟨rfl, ab⟩))
 go_ret
 exact vA (afF aq) (by (repeat first | with_reducible assumption))
def Sh (m : Int) (w : World) (e : Ending) (w' : World) : Prop := ∃ b, e = .returned (.func (Fn.func 196) #[] #[.pointer (some ⟨b, 0, none⟩)]) ∧ w'.cell? ⟨b, 0, none⟩ = some (.int .i64 m) ∧ Below w.heap.size w w'
theorem OL (k : Int) (r : Nat) (w : World) (h : gB k r) : Calls ai 146 #[.int .i64 k] w (Sh (134217728 / 2 ^ r) w) := by
 have nb := Lib.hid (fun w => zO k r w h);have aq : r ≤ 28 := h.1;clear h
 go_enter Tryz.func146, Tryz.ntmps146
 go_wp2_with (go_at_call 136; ((with_reducible refine (nb.out _).mono ?_); rintro e aP ⟨rfl, ab⟩))
 go_ret
 exact ⟨_, rfl, by go_simp, by (repeat first | with_reducible assumption | with_reducible refine cT ?_ _)⟩
def wi (m n : Int) : Bool := decide (-m ≤ n) && decide (n ≤ m)
theorem Dy (b : Nat) (m n : Int) (w : World) (ak : w.cell? ⟨b, 0, none⟩ = some (.int .i64 m)) (m0 : 0 ≤ m) (m1 : m ≤ 134217728) : Calls ai 196 #[.int .i64 n, .pointer (some ⟨b, 0, none⟩)] w (gP (.bool (wi m n)) w) := by
 go_enter Tryz.func196, Tryz.ntmps196
 go_wp2
 ·go_ret
  exact xy (by unfold wi; rw [bG (show -m ≤ n by assumption)]; rfl) (Below.refl _ _)
 ·go_ret
  exact xy (by unfold wi; rw [b3 (show ¬ (-m ≤ n) by omega)]; rfl) (Below.refl _ _)
def eS (r : Nat) (x y : Int) : Bool := wi (134217728 / 2 ^ r) x && wi (134217728 / 2 ^ r) y
theorem F0 (r : Nat) : (0 : Int) ≤ 134217728 / 2 ^ r ∧ (134217728 : Int) / 2 ^ r ≤ 134217728 := by
 have hp : (0 : Int) < 2 ^ r := jI (by decide);exact ⟨pO (by decide) (by omega), Int.ediv_le_self _ (by decide)⟩
theorem Rf (r : Nat) (n : Int) : wi (134217728 / 2 ^ r) n = decide (-134217728 ≤ 2 ^ r * n ∧ 2 ^ r * n ≤ 134217728) := by
 have hp : (0 : Int) < 2 ^ r := jI (by decide);unfold wi;rw [oL, dS, cE, cE, cE, jG];generalize (2 : Int) ^ r = P at *;have h1 := pQ (a := n) (b := 134217728) hp;have h2 := pQ (a := -n) (b := 134217728) hp;rw [Int.neg_mul] at h2
 constructor
 ·intro ⟨q1, q2⟩;exact ⟨by have := h2.1 (by omega); omega, h1.1 q2⟩
 ·intro ⟨q1, q2⟩;exact ⟨by have := h2.2 (by omega); omega, h1.2 q2⟩
theorem CY (r : Nat) (x y : Int) : eS r x y = true ↔ (-134217728 ≤ 2 ^ r * x ∧ 2 ^ r * x ≤ 134217728) ∧ (-134217728 ≤ 2 ^ r * y ∧ 2 ^ r * y ≤ 134217728) := by
 unfold eS;rw [Rf, Rf, dS, cE, cE]
theorem RZ (x y k : Int) (r : Nat) (w : World) (h : gB k r) : Calls ai 77 #[.agg #[.int .i64 x, .int .i64 y], .int .i64 k] w (gP (.bool (eS r x y)) w) := by
 have nb := Lib.hid (fun w => OL k r w h);obtain ⟨m0, m1⟩ := F0 r;have A3 := Lib.hid (show eS r x y = (wi (134217728 / 2 ^ r) x && wi (134217728 / 2 ^ r) y) from rfl);clear h;generalize (134217728 : Int) / 2 ^ r = M at *;have xP := Lib.hid m0;have xQ := Lib.hid m1;clear m0 m1
 go_enter Tryz.func77, Tryz.ntmps77
 go_wp2_with (first
  | (go_at_call 146; ((with_reducible refine (nb.out _).mono ?_); rintro e aP ⟨b, rfl, ak, ab⟩; have ga : ag aP (w.heap.size) (.int .i64 x) (.int .i64 y) := (by (repeat first | focus ((with_reducible refine ag.new ?_); simp; done) | with_reducible refine ag.call ?_ ab)); obtain ⟨⟨lG, lH⟩, lJ, lK⟩ := id ga))
  | (go_at_call 196; ((with_reducible refine (Dy b M x _ ak xP.out xQ.out).mono ?_); rintro e w2 ⟨rfl, bZ⟩; have hB := (bZ.cell (p := ⟨b, 0, none⟩) (World.block_lt_of_cell? _ _ ak)).trans ak; clear ak; have iT : ag w2 (w.heap.size) (.int .i64 x) (.int .i64 y) := (by (repeat first | with_reducible assumption | with_reducible refine ag.call ?_ bZ)); obtain ⟨⟨pa, pf⟩, pn, pp⟩ := id iT))
  | (go_at_call 196; ((with_reducible refine (Dy b M y _ hB xP.out xQ.out).mono ?_); rintro e w3 ⟨rfl, cV⟩)))
 ·go_ret
  exact xy (by rw [A3.out]; simp_all) (by (repeat first | with_reducible exact Below.refl _ _ | with_reducible refine cT ?_ _ | with_reducible refine b4 ?_ cV | with_reducible refine b4 ?_ bZ | with_reducible refine b4 ?_ ab))
 ·go_ret
  exact xy (by rw [A3.out]; simp_all) (by (repeat first | with_reducible exact Below.refl _ _ | with_reducible refine cT ?_ _ | with_reducible refine b4 ?_ bZ | with_reducible refine b4 ?_ ab))
theorem Wb (k : Int) (w : World) : Calls ai 88 #[.int .i64 k] w (gP (.bool (decide (0 ≤ k) && decide (k ≤ 28))) w) := by
 go_enter Tryz.func88, Tryz.ntmps88
 go_wp2
 ·go_ret
  exact xy (by rw [bG (show 0 ≤ k by assumption)]; rfl) (Below.refl _ _)
 ·go_ret
  exact xy (by rw [b3 (show ¬ (0 ≤ k) by omega)]; rfl) (Below.refl _ _)
theorem EM (n m : Int) (w : World) : Calls ai 285 #[.int .i64 n, .int .i64 m] w (gP (.int .i64 (fM n m)) w) := by
 go_enter Tryz.func285, Tryz.ntmps285
 go_wp2
 all_goals
  go_ret
  refine vA ?_ (Below.refl _ _);unfold fM
  repeat' split
  all_goals omega
def lT (x y x' y' : Int) : Int := if x = x' then fM y y' else fM x x'
theorem Wa (x y x' y' : Int) (w : World) : Calls ai 261 #[.agg #[.int .i64 x, .int .i64 y], .agg #[.int .i64 x', .int .i64 y']] w (gP (.int .i64 (lT x y x' y')) w) := by
 have aM := Lib.hid (fun w => EM x x' w);have bU := Lib.hid (fun w => EM y y' w);have n1 : Hid (x = x' → fM y y' = lT x y x' y') := fun h => by unfold lT; rw [if_pos h]
 have k5 : Hid (¬ (x = x') → fM x x' = lT x y x' y') := fun h => by unfold lT; rw [if_neg h]
 go_enter Tryz.func261, Tryz.ntmps261
 go_wp2_with (first
  | (go_at_call 285; ((with_reducible refine (aM.out _).mono ?_); rintro e aP ⟨rfl, ab⟩))
  | (go_at_call 285; ((with_reducible refine (bU.out _).mono ?_); rintro e aP ⟨rfl, ab⟩)))
 ·go_ret
  exact vA (k5.out (by simpa using ‹(x != x') = true›)) (by (repeat first | with_reducible exact Below.refl _ _ | with_reducible refine cT ?_ _ | with_reducible refine b4 ?_ ab))
 ·go_ret
  exact vA (n1.out (by simpa using ‹(x != x') = false›)) (by (repeat first | with_reducible exact Below.refl _ _ | with_reducible refine cT ?_ _ | with_reducible refine b4 ?_ ab))
end Go.Proofs.YtpochbhajmbfdaaGreat
namespace Go.Proofs.YtpochbhajmbfdaaGreat
open Go.RowKit
attribute [local go_sem ↓] Go.wp_at_zero Go.wp_at_succ
end Go.Proofs.YtpochbhajmbfdaaGreat
namespace Go.Proofs.YtpochbhajmbfdaaGreat
open Go.RowKit
attribute [local go_sem ↓] Go.wp_at_zero Go.wp_at_succ
def So (s : Bool) (z : Int) (w : World) (e : Ending) (w' : World) : Prop := ∃ H L, e = .returned (.tuple #[.agg #[.int .i64 H, .int .u64 L], .bool s]) ∧ bu H L z ∧ Below w.heap.size w w'
def uv (v : Int) (b : Bool) (w : World) (e : Ending) (w' : World) : Prop := e = .returned (.tuple #[.int .i64 v, .bool b]) ∧ Below w.heap.size w w'
def Sw (w : World) (s : Bool) (z : Int) (u v : Value) (W : World) : Prop := ∃ g rK rL, u = .pointer (some ⟨g, 0, none⟩) ∧ v = .bool s ∧ bu rK rL z ∧ ag W g (.int .i64 rK) (.int .u64 rL) ∧ Below w.heap.size w W
theorem IZ (aK dM aF cx k : Int) (r : Nat) (s : Bool) (z v : Int) (b : Bool) (w : World) (h : gB k r)
  (Ju : ∀ w, Calls ai 240 #[.agg #[.int .i64 aK, .int .u64 dM, .int .i64 aF, .int .u64 cx], .int .i64 r] w (So s z w))
  (hv : (s = false ∧ v = 0 ∧ b = false) ∨ (s = true ∧ small z = false ∧ v = 0 ∧ b = false) ∨ (s = true ∧ small z = true ∧ wi (134217728 / 2 ^ r) z = false ∧ v = 0 ∧ b = false) ∨ (s = true ∧ small z = true ∧ wi (134217728 / 2 ^ r) z = true ∧ v = z ∧ b = true)) :
  Calls ai 215 #[.agg #[.int .i64 aK, .int .u64 dM, .int .i64 aF, .int .u64 cx], .int .i64 k] w (uv v b w) := by
 have nc := Lib.hid (fun w => zO k r w h);have EQ := Lib.hid (fun w => OL k r w h);have A2 := Lib.hid Ju;obtain ⟨m0, m1⟩ := F0 r;clear h Ju;generalize (134217728 : Int) / 2 ^ r = M at *;have xP := Lib.hid m0;have xQ := Lib.hid m1;have rf := Lib.hid hv;clear m0 m1 hv
 go_enter Tryz.func215, Tryz.ntmps215
 go_upto_region 1 with fail
 have e3 : dn (w.alloc (.cells #[.int .i64 aK, .int .u64 dM, .int .i64 aF, .int .u64 cx] 161)) w.heap.size (.int .i64 aK) (.int .u64 dM) (.int .i64 aF) (.int .u64 cx) := (by (repeat first | focus ((with_reducible refine dn.new ?_); simp; done)));have Fw : Below w.heap.size w (w.alloc (.cells #[.int .i64 aK, .int .u64 dM, .int .i64 aF, .int .u64 cx] 161)) := (by (repeat first | with_reducible exact Below.refl _ _ | with_reducible refine cT ?_ _))
 go_cut [6, 7] (fun u v fo => Sw w s z u v fo)
 case first =>
  clear rf EQ
  go_region_held3 (fun w' => w'.cell? ⟨w.heap.size, 0, none⟩ = some (.int .i64 aK) ∧ w'.cell? ⟨w.heap.size, 1, none⟩ = some (.int .u64 dM) ∧ w'.cell? ⟨w.heap.size, 2, none⟩ = some (.int .i64 aF) ∧ w'.cell? ⟨w.heap.size, 3, none⟩ = some (.int .u64 cx))
   (((refine dn.cs ?_); ((repeat first | with_reducible assumption | with_reducible refine dn.alloc ?_ _ | with_reducible refine dn.drew ?_ | focus ((with_reducible refine dn.set ?_ _ ?_); rotate_left; omega) | with_reducible refine dn.call ?_ bZ | with_reducible refine dn.call ?_ bD); done)))
   (first
    | (go_at_call 136; ((with_reducible refine (nc.out _).mono ?_); rintro e aP ⟨rfl, bD⟩; have Ho := Below.size bD; (try simp at Ho)))
    | (go_at_call 240; ((with_reducible refine (A2.out _).mono ?_); rintro e w2 ⟨sD, sE, rfl, hu, bZ⟩; have zl := Below.size bZ; (try simp at zl); (try ((refine k8 (p := ag w2 (w.heap.size + 1) (.int .i64 0) (.int .u64 0)) ?_ ?_); (repeat first | focus ((with_reducible refine ag.new ?_); simp; done) | with_reducible refine ag.alloc ?_ _ | with_reducible refine ag.drew ?_ | with_reducible refine ag.call ?_ bZ | with_reducible refine ag.call ?_ bD); intro q7; obtain ⟨⟨T8, UP⟩, VU, Wm⟩ := id q7; have ZS := ag.lt q7; have aaY := iu (ag.lt q7); have aat := iv (ag.lt q7))); (try ((refine k8 (p := ag w2 (aP.heap.size) (.int .i64 0) (.int .u64 0)) ?_ ?_); (repeat first | focus ((with_reducible refine ag.new ?_); simp; done) | with_reducible refine ag.alloc ?_ _ | with_reducible refine ag.drew ?_ | with_reducible refine ag.call ?_ bZ | with_reducible refine ag.call ?_ bD); intro q8; obtain ⟨⟨T9, UQ⟩, VV, Wn⟩ := id q8; have ZT := ag.lt q8; have aaZ := iu (ag.lt q8); have aau := iv (ag.lt q8))))))
  all_goals
   go_wp2_with fail
   go_meet
   refine ⟨_, sD, sE, rfl, rfl, hu, ?_, ?_⟩
   ·(repeat first | focus ((with_reducible refine ag.new ?_); simp; done) | with_reducible refine ag.put ?_ | focus ((with_reducible apply fi.of); with_reducible assumption))
   ·(repeat first | with_reducible assumption | with_reducible refine cT ?_ _ | focus ((with_reducible refine eJ ?_ _ _ _ ?_); rotate_left; omega) | with_reducible refine Below.drew ?_ | with_reducible refine b4 ?_ bZ | with_reducible refine b4 ?_ bD)
 case rest =>
  obtain ⟨g, rK, rL, rfl, rfl, aw, qo, iH⟩ := hcut;clear e3 Fw A2 nc;obtain ⟨⟨Ri, c5⟩, dt, kw⟩ := id qo;rcases rf.out with ⟨rfl, rfl, rfl⟩ | ⟨rfl, q, rfl, rfl⟩ | ⟨rfl, q, cA, rfl, rfl⟩ | ⟨rfl, q, cA, rfl, rfl⟩
  ·clear rf
   go_wp2
   go_ret2
   exact ⟨rfl, by (repeat first | with_reducible assumption)⟩
  ·have nZ : Hid (∀ w, Calls ai 241 #[.agg #[.int .i64 rK, .int .u64 rL]] w (uv 0 false w)) := fun w => (E7 rK rL z w aw).mono fun e w' k => by unfold vW at k; rw [q] at k; exact k
   clear rf q
   go_wp2_with (first
    | (go_at_call 241; ((with_reducible refine (nZ.out _).mono ?_); rintro e fh ⟨rfl, eZ⟩)))
   go_ret2
   exact ⟨rfl, by (repeat first | with_reducible assumption | with_reducible refine b4 ?_ eZ)⟩
  ·have nZ : Hid (∀ w, Calls ai 241 #[.agg #[.int .i64 rK, .int .u64 rL]] w (uv z true w)) := fun w => (E7 rK rL z w aw).mono fun e w' k => by unfold vW at k; rw [q] at k; exact k
   have EP : Hid (∀ b w, w.cell? ⟨b, 0, none⟩ = some (.int .i64 M) → Calls ai 196 #[.int .i64 z, .pointer (some ⟨b, 0, none⟩)] w (gP (.bool false) w)) := fun b w ak => by have := Dy b M z w ak xP.out xQ.out; rw [cA] at this; exact this
   clear rf q cA
   go_wp2_with (first
    | (go_at_call 241; ((with_reducible refine (nZ.out _).mono ?_); rintro e fh ⟨rfl, eZ⟩))
    | (go_at_call 146; ((with_reducible refine (EQ.out _).mono ?_); rintro e iz ⟨b, rfl, ak, hg⟩))
    | (go_at_call 196; ((with_reducible refine (EP.out _ _ ak).mono ?_); rintro e afz ⟨rfl, GA⟩)))
   go_ret2
   exact ⟨rfl, by (repeat first | with_reducible assumption | with_reducible refine b4 ?_ GA | with_reducible refine b4 ?_ hg | with_reducible refine b4 ?_ eZ)⟩
  ·have nZ : Hid (∀ w, Calls ai 241 #[.agg #[.int .i64 rK, .int .u64 rL]] w (uv v true w)) := fun w => (E7 rK rL v w aw).mono fun e w' k => by unfold vW at k; rw [q] at k; exact k
   have EP : Hid (∀ b w, w.cell? ⟨b, 0, none⟩ = some (.int .i64 M) → Calls ai 196 #[.int .i64 v, .pointer (some ⟨b, 0, none⟩)] w (gP (.bool true) w)) := fun b w ak => by have := Dy b M v w ak xP.out xQ.out; rw [cA] at this; exact this
   clear rf q cA
   go_wp2_with (first
    | (go_at_call 241; ((with_reducible refine (nZ.out _).mono ?_); rintro e fh ⟨rfl, eZ⟩))
    | (go_at_call 146; ((with_reducible refine (EQ.out _).mono ?_); rintro e iz ⟨b, rfl, ak, hg⟩))
    | (go_at_call 196; ((with_reducible refine (EP.out _ _ ak).mono ?_); rintro e afz ⟨rfl, GA⟩)))
   go_ret2
   exact ⟨rfl, by (repeat first | with_reducible assumption | with_reducible refine b4 ?_ GA | with_reducible refine b4 ?_ hg | with_reducible refine b4 ?_ eZ)⟩
theorem afB {r : Nat} {z : Int} (h : wi (134217728 / 2 ^ r) z = true) : small z = true := by
 obtain ⟨m0, m1⟩ := F0 r;unfold wi at h;rw [dS, cE, cE] at h;unfold small;rw [cE];omega
theorem aeM (aK dM n aF cx d k : Int) (r : Nat) (w : World) (h : gB k r) (H : bu aK dM n) (e9 : bu aF cx d) (hd : ¬ (0 < d)) :
  Calls ai 215 #[.agg #[.int .i64 aK, .int .u64 dM, .int .i64 aF, .int .u64 cx], .int .i64 k] w (uv 0 false w) :=
 IZ aK dM aF cx k r false 0 0 false w h (fun w => (Sx aK dM n aF cx d r w H e9 (.inl hd)).mono fun e w' ⟨he, ab⟩ => ⟨0, 0, he, ou, ab⟩) (.inl ⟨rfl, rfl, rfl⟩)
theorem aeN (aK dM n aF cx d k : Int) (r : Nat) (w : World) (h : gB k r) (H : bu aK dM n) (e9 : bu aF cx d) (hd : 0 < d) (ar : wi (134217728 / 2 ^ r) (k0 n d r) = false) :
  Calls ai 215 #[.agg #[.int .i64 aK, .int .u64 dM, .int .i64 aF, .int .u64 cx], .int .i64 k] w (uv 0 false w) :=
 IZ aK dM aF cx k r true (k0 n d r) 0 false w h (fun w => (JO aK dM n aF cx d r w H e9 hd (by have := h.1; omega)).mono fun e w' k => k)
  (by
   cases hs : small (k0 n d r)
   ·exact .inr (.inl ⟨rfl, rfl, rfl, rfl⟩)
   ·exact .inr (.inr (.inl ⟨rfl, rfl, ar, rfl, rfl⟩)))
theorem aeO (aK dM n aF cx d k : Int) (r : Nat) (w : World) (h : gB k r) (H : bu aK dM n) (e9 : bu aF cx d) (hd : 0 < d) (ar : wi (134217728 / 2 ^ r) (k0 n d r) = true) :
  Calls ai 215 #[.agg #[.int .i64 aK, .int .u64 dM, .int .i64 aF, .int .u64 cx], .int .i64 k] w (uv (k0 n d r) true w) :=
 IZ aK dM aF cx k r true (k0 n d r) _ true w h (fun w => (JO aK dM n aF cx d r w H e9 hd (by have := h.1; omega)).mono fun e w' k => k)
  (.inr (.inr (.inr ⟨rfl, afB ar, ar, rfl, rfl⟩)))
end Go.Proofs.YtpochbhajmbfdaaGreat
namespace Go.Proofs.YtpochbhajmbfdaaGreat
open Go.RowKit
theorem Pn {v k : Int} {r : Nat} (h : gB k r) (v0 : -9223372036854775808 ≤ v) (v1 : v < 9223372036854775808) : aR ai 72 [aT v, aT k] (aT (cz v r)) :=
 mS [.int .i64 v, .int .i64 k] (.int .i64 (cz v r)) rfl rfl rfl rfl rfl fun W => Wc v k r W h v0 v1
theorem Pw {k : Int} {r : Nat} (h : gB k r) : aR ai 78 [aT k] (aT (2 ^ r)) :=
 mS [.int .i64 k] (.int .i64 (2 ^ r)) rfl rfl rfl rfl rfl fun W => aeA k r W h
theorem acH {k : Int} : aR ai 88 [aT k] (bE (decide (0 ≤ k) && decide (k ≤ 28))) :=
 mS [.int .i64 k] (.bool (decide (0 ≤ k) && decide (k ≤ 28))) rfl rfl rfl rfl rfl fun W => Wb k W
theorem zU {x y k : Int} {r : Nat} {b : Bool} (h : gB k r) (ab : eS r x y = b) : aR ai 77 [bh x y, aT k] (bE b) := by
 subst ab;exact mS [.agg #[.int .i64 x, .int .i64 y], .int .i64 k] (.bool (eS r x y)) rfl rfl rfl rfl rfl fun W => RZ x y k r W h
theorem acG {x y x' y' : Int} : aR ai 261 [bh x y, bh x' y'] (aT (lT x y x' y')) :=
 mS [.agg #[.int .i64 x, .int .i64 y], .agg #[.int .i64 x', .int .i64 y']] (.int .i64 (lT x y x' y')) rfl rfl rfl rfl rfl fun W => Wa x y x' y' W
theorem Pm {x y k : Int} {r : Nat} (h : gB k r) (Ri : -9223372036854775808 ≤ x) (c5 : x < 9223372036854775808) (nW : -9223372036854775808 ≤ y) (lz : y < 9223372036854775808) : aR ai 32 [bh x y, aT k] (bh (cz x r) (cz y r)) := by
 refine cc (f := 32) Tryz.func32 rfl rfl rfl rfl ?_;(repeat first | (with_reducible apply aA); exact rfl | refine dI rfl rfl rfl rfl (by (first | exact Pn h Ri c5 | exact Pn h nW lz)) rfl ?_ | (with_reducible apply h6); kernel_rfl | (with_reducible apply h9); kernel_rfl; kernel_rfl; exact rfl | (with_reducible first | apply bN | apply bH | apply bL | apply aB | apply b6))
 ((refine bR rfl (e0 rfl rfl rfl bf) ?_))
 exact aj.bp.refl _
theorem se {x y k : Int} {r : Nat} (h : gB k r) (ab : eS r x y = true) : aR ai 37 [bh x y, aT k] (bh (2 ^ r * x) (2 ^ r * y)) := by
 obtain ⟨⟨q1, q2⟩, cg, ep⟩ := (CY r x y).1 ab;have aM := zU h ab;have bU := Pw h;clear h ab;generalize (2 : Int) ^ r = P at *;refine cc (f := 37) Tryz.func37 rfl rfl rfl rfl ?_;(repeat first | (with_reducible apply aA); exact rfl | (with_reducible apply rq); (iterate 3 exact rfl); (exact cX (by omega)); exact rfl | refine eO rfl rfl rfl (by (exact bU)) rfl ?_ | refine dI rfl rfl rfl rfl (by (exact aM)) rfl ?_ | (with_reducible first | apply bN | apply bH | apply bL | apply aB | apply b6 | apply eR) | (with_reducible apply hA); exact rfl)
 ((refine bR rfl (e0 rfl rfl rfl bf) ?_))
 exact aj.bp.refl _
theorem aci {x y k : Int} {r : Nat} (h : gB k r) (ab : eS r x y = true) : aR ai 225 [bh x y, aT k] (.cZ [.agg [.c (.int .i64 (2 * (2 ^ r * x) - 2 ^ r)), .c (.int .i64 (2 * (2 ^ r * y) - 2 ^ r))], .agg [.c (.int .i64 (2 * (2 ^ r * x) + 2 ^ r)), .c (.int .i64 (2 * (2 ^ r * y) + 2 ^ r))]]) := by
 obtain ⟨⟨q1, q2⟩, cg, ep⟩ := (CY r x y).1 ab;obtain ⟨ln, zY⟩ := Is h.1;have aM := zU h ab;have bU := Pw h;have e8 := se h ab;clear h ab;generalize (2 : Int) ^ r = P at *;generalize P * x = X at *;generalize P * y = Y at *;refine cc (f := 225) Tryz.func225 rfl rfl rfl rfl ?_;(repeat first | (with_reducible apply aA); exact rfl | (with_reducible apply fe); (iterate 3 exact rfl); (exact cX (by omega)); exact rfl | (with_reducible apply n2); (iterate 3 exact rfl); (exact cX (by omega)); exact rfl | (with_reducible apply rq); (iterate 3 exact rfl); (exact cX (by omega)); exact rfl | refine eO rfl rfl rfl (by (exact bU)) rfl ?_ | refine dI rfl rfl rfl rfl (by (first | exact aM | exact e8)) rfl ?_ | (with_reducible apply h6); kernel_rfl | (with_reducible apply h9); kernel_rfl; kernel_rfl; exact rfl | (with_reducible first | apply bN | apply bH | apply bL | apply aB | apply b6 | apply eR) | (with_reducible apply hA); exact rfl)
 ((refine bR rfl (e0 rfl rfl rfl (e0 rfl rfl rfl bf)) ?_))
 exact aj.bp.refl _
def sC (n d : Int) (r : Nat) : Bool := decide (0 < d) && wi (134217728 / 2 ^ r) (k0 n d r)
def El (n d : Int) (r : Nat) : Int := if sC n d r then k0 n d r else 0
theorem Px {n d k : Int} {r : Nat} (h : gB k r) (f : fits n = true) (g : fits d = true) : aR ai 215 [fv n d, aT k] (.cZ [.one (.c (.int .i64 (El n d r))), .one (.c (.bool (sC n d r)))]) := by
 refine mS [fx n d, .int .i64 k] (.tuple #[.int .i64 (El n d r), .bool (sC n d r)]) rfl rfl rfl rfl rfl fun W => ?_;unfold El sC
 by_cases hd : 0 < d
 ·rw [bG hd, pR];cases hw : wi (134217728 / 2 ^ r) (k0 n d r) with
  | true => exact aeO _ _ n _ _ d k r W h (ov f) (ov g) hd hw
  | false => exact aeN _ _ n _ _ d k r W h (ov f) (ov g) hd hw
 ·rw [b3 hd, Bool.false_and];exact aeM _ _ n _ _ d k r W h (ov f) (ov g) hd
theorem abU {n d n' d' k : Int} {r : Nat} {b : Bool} (h : gB k r) (f : fits n = true) (g : fits d = true) (kH : fits n' = true) (iW : fits d' = true) (ab : (sC n d r && sC n' d' r) = b) :
  aR ai 170 [fv n d, fv n' d', aT k] (.cZ [.agg [.c (.int .i64 (if b then k0 n d r else 0)), .c (.int .i64 (if b then k0 n' d' r else 0))], .one (.c (.bool b))]) := by
 have aM := Px h f g;have bU := Px h kH iW;clear h f g kH iW;unfold El at aM bU;cases q1 : sC n d r <;> cases q2 : sC n' d' r <;> rw [q1] at aM <;> rw [q2] at bU <;> rw [q1, q2] at ab <;> subst ab <;> clear q1 q2
 all_goals
  generalize k0 n d r = X at *;generalize k0 n' d' r = Y at *;refine cc (f := 170) Tryz.func170 rfl rfl rfl rfl ?_;(repeat first | (with_reducible apply aA); exact rfl | refine dI rfl rfl rfl rfl (by (first | exact aM | exact bU)) rfl ?_ | (with_reducible first | apply bN | apply bH | apply bL | apply aB | apply b6 | apply eR | apply fC) | (with_reducible apply h8); exact rfl | (with_reducible apply hA); exact rfl)
  ((refine bR rfl (e0 rfl rfl rfl (bC rfl bf)) ?_))
  exact aj.bp.refl _
end Go.Proofs.YtpochbhajmbfdaaGreat
namespace Go.Proofs.YtpochbhajmbfdaaGreat
abbrev di := Int × Int × Int
def lS (x y z w : Int) : Bool := decide (x < z) || (decide (x = z) && decide (y < w))
theorem oF {x y z w : Int} : lS x y z w = true ↔ x < z ∨ (x = z ∧ y < w) := by
 unfold lS; simp
def tV (l : List di) (x y : Int) : List di := l.filter fun e => lS e.1 e.2.1 x y
def DT (l : List di) (x y : Int) : List di := l.filter fun e => lS x y e.1 e.2.1
def sg (l : List di) (x y v : Int) : List di := tV l x y ++ (x, y, v) :: DT l x y
def tj (l : List di) (x y : Int) : Int := match l.findIdx? fun e => decide (e.1 = x) && decide (e.2.1 = y) with
 | some k => k
 | none => -1
def jQ (l : List di) : Prop := l.Pairwise fun a b => lS a.1 a.2.1 b.1 b.2.1 = true
theorem abR {a b c d e f : Int} (h1 : lS a b c d = true) (h2 : lS c d e f = true) : lS a b e f = true := by
 rw [oF] at *; omega
theorem adj {l : List di} (h : jQ l) (x y v : Int) : jQ (sg l x y v) := by
 unfold sg tV DT jQ;rw [List.pairwise_append, iR];refine ⟨h.filter _, ⟨fun e he => ?_, h.filter _⟩, fun a aK b ab => ?_⟩
 ·exact (List.mem_filter.1 he).2
 ·have h1 := (List.mem_filter.1 aK).2;rcases gM.1 ab with rfl | ab
  ·exact h1
  ·exact abR h1 (List.mem_filter.1 ab).2
def hf (l : List di) (x y : Int) : Bool := l.any fun e => decide (e.1 = x) && decide (e.2.1 = y)
theorem LZ (l : List di) (x y : Int) : decide (0 ≤ tj l x y) = hf l x y := by
 unfold tj hf;cases h : l.findIdx? fun e => decide (e.1 = x) && decide (e.2.1 = y) with
 | none =>
  rw [List.findIdx?_eq_none_iff] at h
  have : (l.any fun e => decide (e.1 = x) && decide (e.2.1 = y)) = false := by
   rw [List.any_eq_false]; intro e he; rw [h e he]; decide
  rw [this]; rfl
 | some k =>
  have aH := List.findIdx?_eq_some_iff_getElem.1 h;obtain ⟨af, h1, _⟩ := aH;have : (l.any fun e => decide (e.1 = x) && decide (e.2.1 = y)) = true := List.any_eq_true.2 ⟨l[k], List.getElem_mem af, h1⟩;rw [this]; simp
theorem Wt {l : List di} {x y : Int} (h : 0 ≤ tj l x y) : ∃ k v, tj l x y = (k : Nat) ∧ k < l.length ∧ l[k]? = some (x, y, v) := by
 unfold tj at h ⊢;cases ar : l.findIdx? fun e => decide (e.1 = x) && decide (e.2.1 = y) with
 | none => rw [ar] at h; simp at h
 | some k =>
  obtain ⟨af, h1, _⟩ := List.findIdx?_eq_some_iff_getElem.1 ar;simp only [dS, cE] at h1;refine ⟨k, l[k].2.2, rfl, af, ?_⟩;rw [cp af];congr 1;exact Prod.ext h1.1 (Prod.ext h1.2 rfl)
def nV (l : List di) (x y : Int) : Int := match l.findIdx? fun e => decide (e.1 = x) && decide (e.2.1 = y) with
 | some k => (l.getD k (0, 0, 0)).2.2
 | none => 0
theorem afx {l : List di} {x y v : Int} {k : Nat} (h : tj l x y = k) (ao : l[k]? = some (x, y, v)) : nV l x y = v := by
 unfold tj at h;unfold nV;cases ar : l.findIdx? fun e => decide (e.1 = x) && decide (e.2.1 = y) with
 | none => rw [ar] at h; simp at h
 | some j =>
  rw [ar] at h;have : j = k := by simp at h; omega
  subst this;simp only [xq, ao]; rfl
theorem afv {l : List di} {x y : Int} (h : hf l x y = false) : nV l x y = 0 := by
 have h2 := LZ l x y;rw [h] at h2;unfold tj at h2;unfold nV;cases ar : l.findIdx? fun e => decide (e.1 = x) && decide (e.2.1 = y) with
 | none => rfl
 | some j => rw [ar] at h2; simp at h2
theorem adh (l : List di) (x y : Int) : (tV l x y).length ≤ l.length := List.length_filter_le _ _
theorem Q1 {l : List di} (h : jQ l) {x y v : Int} (hm : (x, y, v) ∈ l) : hf l x y = true ∧ nV l x y = v := by
 have a6 : hf l x y = true := List.any_eq_true.2 ⟨_, hm, by simp⟩;have aw := LZ l x y;rw [a6] at aw;obtain ⟨k, u, h1, h2, ap⟩ := Wt (of_decide_eq_true aw);refine ⟨a6, ?_⟩;rw [afx h1 ap];obtain ⟨j, ae⟩ := jZ hm;have CF := (bX.1 ae).1;have hc : l[k] = (x, y, u) := (bX.1 ap).2;have la : l[j] = (x, y, v) := (bX.1 ae).2;unfold jQ at h;rw [List.pairwise_iff_getElem] at h;rcases Nat.lt_trichotomy k j with q | q | q
 ·have := h k j h2 CF q;rw [hc, la, oF] at this;simp at this
 ·subst q;rw [hc] at la;cases la; rfl
 ·have := h j k CF h2 q;rw [hc, la, oF] at this;simp at this
end Go.Proofs.YtpochbhajmbfdaaGreat
namespace Go.Proofs.YtpochbhajmbfdaaGreat
open Go.RowKit
def dY : List di → List AC
 | [] => []
 | e :: l => .c (.int .i64 e.1) :: .c (.int .i64 e.2.1) :: .c (.int .i64 e.2.2) :: dY l
theorem FT : ∀ (l : List di) (i : Nat) (e : di), l[i]? = some e → ((dY l).drop (i * 3)).take 3 = [.c (.int .i64 e.1), .c (.int .i64 e.2.1), .c (.int .i64 e.2.2)]
 | [], i, p, h => by simp at h
 | q :: l, 0, p, h => by simp at h; subst h; simp [dY]
 | q :: l, i + 1, p, h => by
  have e : (i + 1) * 3 = i * 3 + 1 + 1 + 1 := by omega
  rw [e];simp only [dY, List.drop_succ_cons];exact FT l i p (by simpa using h)
theorem Lq {l : List di} {j : Int} {i : Nat} {x y v : Int} (ae : j = i) (h : l[i]? = some (x, y, v)) : ((dY l).drop (j.toNat * 3)).take 3 = [.c (.int .i64 x), .c (.int .i64 y), .c (.int .i64 v)] := by
 subst ae;exact FT l i (x, y, v) h
theorem yt : ∀ (l : List di), (dY l).length = l.length * 3
 | [] => rfl
 | p :: l => by simp only [dY, lr, yt l]; omega
theorem ys : ∀ (l m : List di), dY (l ++ m) = dY l ++ dY m
 | [], _ => rfl
 | p :: l, m => by simp only [List.cons_append, dY, ys l m]
theorem Lm : ∀ (l : List di), (dY l).all AC.bb = true
 | [] => rfl
 | p :: l => by simp only [dY, j3, Lm l]; rfl
abbrev Dl (x y : Int) : List AC := [.c (.int .i64 x), .c (.int .i64 y)]
abbrev Q0 (k : Nat) : aj := .w (.one (.own k 0))
def lv (n : Int) : Int := if n < 1 then 1 else if 1024 < n then 1024 else n
def kR (l : List an) (x y : Int) : Int := match l.findIdx? fun e => decide (e.1 = x) && decide (e.2 = y) with
 | some k => k
 | none => -1
def xW (P : Program) (f : FuncId) (args : List aj) (r : bP) (post : aj → bP → Prop) : Prop :=
 ∀ i, c6 P f args cb (bJ i r) fun v aG az => ∃ a7, aG = cb ∧ az = bJ i a7 ∧ post v a7
theorem P2 {args : List aj} (aK : args.all aj.bb = true) : args.map (aj.ba fun j => j) = args := by
 rw [ct] at aK
 conv => rhs; rw [← List.map_id args]
 exact oP fun x aa => ua (aK x aa)
theorem adA {P : Program} {f : FuncId} {args : List aj} {r : bP} {post : aj → bP → Prop} (aK : args.all aj.bb = true) (hp : ∀ v a7, post v a7 → v.bb = true)
  (h : c6 P f args cb (bJ 0 r) fun v aG az => ∃ a7, aG = cb ∧ az = bJ 0 a7 ∧ post v a7) : xW P f args r post := by
 intro i;have h1 := h.ba (bK := fun j => j) (b7 := swp 0 i) (h4 := swp 0 i) (fun _ => rfl) (mz _ _) (mz _ _);rw [P2 aK, show Mem.ba (fun j => j) cb = cb from rfl, Ac] at h1;refine ⟨fun U ad W vs cK ef dJ => (h1.call U ad W vs cK ef dJ).mono ?_⟩;rintro e bo ⟨v, cQ, aG, az, bg, cC, cY, ⟨dN, m2, eV, ⟨a7, rfl, rfl, al⟩, rfl, rfl, rfl⟩, q⟩;rw [show Mem.ba (fun j => j) cb = cb from rfl, Ac, ua (hp _ _ al)] at q;exact ⟨v, dN, cb, bJ i a7, bg, cC, cY, ⟨a7, rfl, rfl, al⟩, q⟩
theorem Mr {P : Program} {fn : Func} {l : List ResultVar} {xs : List bI} {R : aJ} {s : aC} {r a7 : bP} {post : aj → bP → Prop} (aq : fn.results = l.toArray) (h : l.map (iw P s) = xs.map some) (hi : R 0 = some a7) (aa : (packed xs).bb = true)
  (hp : post (packed xs) a7) : tr P fn cb (bJ 0 r) (fun v aG az => ∃ a7, aG = cb ∧ az = bJ 0 a7 ∧ post v a7) R s := by
 refine ⟨xs, packed xs, cb, bJ 0 a7, by rw [aq]; exact h, .refl _, ⟨a7, rfl, rfl, hp⟩, fun k c h => (by cases h), fun i q h => ?_, fun j ae => absurd ae (aj.dy aa j), fun k c x j h => (by cases h), fun k c h => (by cases h), fun i q h => ?_⟩
 ·obtain ⟨rfl, rfl⟩ := fI h; exact hi
 ·obtain ⟨rfl, rfl⟩ := fI h; exact ⟨a7, by unfold bJ; exact cr _ _ _⟩
section
variable {P : Program} {R : aJ} {s : aC} {ops : Array Oper} {dr : Option (List Nat)} {ty : Nat} {pos : String} {after : Array Edge} {guard : Option (Nat × Bool)} {K : aJ → aC → Prop} {rest : List Oper}
theorem tS (s : aC) : s.over cb = s := by
 show ({ s with mem := b0 (fun _ => none) s.mem } : aC) = s;rw [Pb]
theorem MT (i : Nat) {dst : Option Nat} {f : FuncId} {g : Operand} {aS : Array TypeId} {l : List Operand} {args : List aj} {r : bP} {post : aj → bP → Prop} [E : Enters P f] (hw : want ops ⟨dst, .call ⟨.value g, l.toArray, aS⟩, ty, pos, after, guard⟩ s = some true) (hm : dL dr ⟨dst, .call ⟨.value g, l.toArray, aS⟩, ty, pos, after, guard⟩ = true)
  (aw : s.look g = some (aQ (.func (.func f) #[] #[]))) (aK : l.map s.look = args.map some) (hp : xW P f args r post) (hi : R i = some r) (ea : args.all aj.bb = true) (hd : kF dst s.n = true)
  (h : ∀ v a7, post v a7 → cL P ops dr K rest (bQ R i a7) (s.put dst v)) : cL P ops dr K (⟨dst, .call ⟨.value g, l.toArray, aS⟩, ty, pos, after, guard⟩ :: rest) R s := by
 refine u6 hw hm aw aK (hp i) (fun x aa j ae => absurd ae (aj.dy (ct.1 ea x aa) j)) (fun k' au aF => by cases aF) (fun ft a7 aF => ?_) (fun k' au x j aF aa ae => by cases aF) hd ?_
 ·obtain ⟨rfl, rfl⟩ := fI aF; exact hi
 ·rintro v aG az ⟨a7, rfl, rfl, al⟩;refine ⟨fun k' c aF => (by cases aF), ?_⟩;rw [show b0 (bJ i a7) R = bQ R i a7 from vu R i a7, tS];exact h v a7 al
theorem zb {x : Operand} {t f hR off : Nat} {r : bP} (i : Nat) [S : mC P t f hR] {d : Nat} (hi : R i = some r) (hw : want ops ⟨some d, .fieldAddr t x f, ty, pos, after, guard⟩ s = some true) (aa : s.look x = some (aQ (jg r.v off))) (aE : 0 < r.n) (aq : tZ ops dr (some d) = true) (hd : Nat.blt d s.n = true) (h : cL P ops dr K rest R (s.put (some d) (aQ (jg r.v (off + hR))))) : cL P ops dr K (⟨some d, .fieldAddr t x f, ty, pos, after, guard⟩ :: rest) R s :=
 zf hw (.nr i r off t f hR x hi aE rfl aa S.h) rfl aq hd h
end
structure JN (W bo : World) (r a7 : bP) (U : Nat → Prop) : Prop where
 grown : W.grownBy bo r.v.ownBlock
 row : ∃ xs, bo.ownsRow 0 a7.e a7.sz a7.v a7.n xs ∧ bV U id W a7.aU xs
 pd : ∀ y ∈ a7.aU, y.bb = true
 afW : ∀ g, a7.v.ownBlock = some g → r.v.ownBlock = some g ∨ W.heap.size ≤ g
theorem bV.I7 {U : Nat → Prop} {ad bg : Nat → Nat} {W : World} {xs : List AC} {vs : List Value} (ak : ∀ y ∈ xs, y.bb = true) (h : bV U ad W xs vs) : bV U bg W xs vs := h.wu ak fun b ab _ => ⟨ab, rfl⟩
theorem jR.I7 {U : Nat → Prop} {ad : Nat → Nat} {W : World} {args : List aj} {vs : List Value} (ak : args.all aj.bb = true) (h : jR U ad W args vs) : jR U id W args vs :=
 ⟨h.1, fun i x v aa hv => Rel.M8 (aj.dy (ct.1 ak x (dG aa))) (h.2 i x v aa hv)⟩
theorem ZN {U : Nat → Prop} {W bo : World} {row : Option Nat} (aw : W.grownBy bo row) (aq : ∀ g, row = some g → ¬ U g) : ∀ b, U b → b < W.heap.size → (U b ∧ b < W.heap.size) ∧ bo.heap[b]? = W.heap[b]? := fun b ab ao =>
 ⟨⟨ab, ao⟩, aw.block b ao fun e => aq b e.symm ab⟩
theorem adB {P : Program} {f : FuncId} {args : List aj} {r : bP} {post : aj → bP → Prop} (ea : args.all aj.bb = true) (bW : 0 < r.sz) (wZ : ∀ ca a7, post ca a7 → 0 < a7.sz)
  (h : ∀ (U : Nat → Prop) (W : World) (vs : List Value) (xs : List Value), W.ownsRow 0 r.e r.sz r.v r.n xs → bV U id W r.aU xs → (∀ y ∈ r.aU, y.bb = true) → (∀ g, r.v.ownBlock = some g → ¬ U g) → jR U id W args vs →
   Calls P f vs.toArray W fun e bo => ∃ v ca a7, e = .returned v ∧ post ca a7 ∧ JN W bo r a7 U ∧ c9 U id W ca v ∧ ca.bb = true) : xW P f args r post := by
 intro i;refine ⟨fun U ad W vs cK ef dJ => ?_⟩;obtain ⟨oh, cO, X4⟩ := cK.rows i r (by unfold bJ; exact cr _ _ _);obtain ⟨xs, ay, ao⟩ := oh.row bW;have u2 := fun g aw => X4 g (.inl aw);refine (h U W vs xs ay (ao.I7 cO) cO (fun g aw => (u2 g aw).1) (dJ.I7 ea)).mono ?_;rintro e bo ⟨v, ca, a7, rfl, hp, ⟨iI, ⟨aU, gF, hD⟩, rN, od⟩, pD, nz⟩;have NH := ZN iI fun g aw => (u2 g aw).1
 have gq : ∀ b, ec ad cb (bJ i r) b ↔ r.v.ownBlock = some b := fun b => by
  constructor
  ·rintro (⟨k, cs, af, _⟩ | ⟨j, q, ae, aw⟩)
   ·cases af
   ·obtain ⟨rfl, rfl⟩ := fI ae; exact bP.oE aw bW
  ·intro aw; exact .inr ⟨i, r, by unfold bJ; exact cr _ _ _, .inl aw⟩
 refine ⟨v, ca, cb, bJ i a7, ad, fun b => U b ∧ b < W.heap.size, rfl, ⟨a7, rfl, rfl, hp⟩, ⟨fun k cs af => (by cases af), fun k cs x j af => (by cases af), fun k k' cs au af => (by cases af), fun j q ae => ?_, fun j k q cA ae af kK => ?_⟩, ?_, fun j ae => absurd ae (aj.dy nz j), fun k cs af => (by cases af), fun j q ae => ?_, fun b ab => .inl ab.1, ?_, ⟨iI.os, iI.tape, iI.output, iI.size, fun b ab => iI.block b ab.1 fun e => ab.2 ((gq b).2 e.symm)⟩⟩
 ·obtain ⟨rfl, rfl⟩ := fI ae;refine ⟨.inl ⟨wZ _ _ hp, aU, gF, hD.wu rN NH⟩, rN, fun g aw => ⟨fun hu => ?_, fun k cs af => (by cases af)⟩⟩;rcases od g (bP.oE aw (wZ _ _ hp)) with q | q
  ·exact (u2 g q).1 hu.1
  ·omega
 ·obtain ⟨rfl, _⟩ := fI ae;obtain ⟨rfl, _⟩ := fI af;exact absurd rfl kK
 ·exact pD.map NH fun j ae => absurd ae (aj.dy nz j)
 ·obtain ⟨rfl, rfl⟩ := fI ae;exact ⟨a7, by unfold bJ; exact cr _ _ _⟩
 ·rintro b (⟨k, cs, af, _⟩ | ⟨j, q, ae, aw⟩)
  ·cases af
  ·obtain ⟨rfl, rfl⟩ := fI ae;rcases od b (bP.oE aw (wZ _ _ hp)) with z | z
   ·exact .inl ((gq b).2 z)
   ·exact .inr z
theorem IM (i : Nat) {P : Program} {R : aJ} {s : aC} {c : Code} {Q : Exit → aJ → aC → Prop} {r : bP} (hi : R i = some r) (h : ∀ A k, r.v = .slice A r.n k → r.n ≤ k → k ≤ maxLen → (0 < r.n → ∃ g, A = some ⟨g, 0, none⟩) → r.aU.length = r.n * r.sz → fq P c Q R s) (bW : 0 < r.sz := by first | decide | exact jd _) : fq P c Q R s := by
 rintro ok bt bS a w ⟨A, ad, ax⟩;obtain ⟨xs, ay, ao⟩ := (ax.rows i r hi).cells bW;have hlen : r.aU.length = r.n * r.sz := ao.1.trans ay.1;rcases ay.2 with ⟨e, dp⟩ | ⟨g, cap, cur, e, _, _, eM, js, _⟩
 ·exact h none 0 (by rw [e, dp]) (by omega) (eF _) (fun h => by omega) hlen ok bt bS a w ⟨A, ad, ax⟩
 ·exact h _ cap e eM js (fun _ => ⟨g, rfl⟩) hlen ok bt bS a w ⟨A, ad, ax⟩
theorem Rel.adH {B : eX} {A : Nat → Prop} {s : aC} {ad : Nat → Nat} {a : Act} {w : World} {k : Nat} {cs ds : List AC} (h : Rel B A s ad a w) (af : s.mem k = some cs) (aq : ∀ vs, bV (s.free A ad) ad w cs vs → bV (s.free A ad) ad w ds vs) : Rel B A (s.dX k ds) ad a w := by
 obtain ⟨vs, ty, g1, g2, _⟩ := h.dx k cs af;have := h.set af (aq vs g2);rwa [setRow_self w (ad k) vs.toArray ty (0, 0) g1] at this
theorem DR {x y : Int} {b : Bool} (ab : cy x y = b) : aR ai 58 [bh x y] (bE b) := by
 have cs : (x ≤ 134217728 ∧ y ≤ 134217728 ∧ -134217728 ≤ x ∧ -134217728 ≤ y ∧ b = true) ∨ (x ≤ 134217728 ∧ y ≤ 134217728 ∧ -134217728 ≤ x ∧ ¬ -134217728 ≤ y ∧ b = false) ∨ (x ≤ 134217728 ∧ y ≤ 134217728 ∧ ¬ -134217728 ≤ x ∧ b = false) ∨ (x ≤ 134217728 ∧ ¬ y ≤ 134217728 ∧ b = false) ∨ (¬ x ≤ 134217728 ∧ b = false) := by
  rw [← ab]; unfold cy
  by_cases q1 : x ≤ 134217728 <;> by_cases q2 : y ≤ 134217728 <;> by_cases cg : -134217728 ≤ x <;> by_cases ep : -134217728 ≤ y <;> simp [q1, q2, cg, ep]
 clear ab;rcases cs with ⟨q1, q2, cg, ep, rfl⟩ | ⟨q1, q2, cg, ep, rfl⟩ | ⟨q1, q2, cg, rfl⟩ | ⟨q1, q2, rfl⟩ | ⟨q1, rfl⟩
 all_goals
  refine cc (f := 58) Tryz.func58 rfl rfl rfl rfl ?_;(repeat first | (with_reducible apply aA); exact rfl | (with_reducible apply dv (c := true)); exact rfl; exact rfl; (exact bG (by omega)) | (with_reducible apply dv (c := false)); exact rfl; exact rfl; (exact b3 (by omega)) | (with_reducible first | apply bN | apply bH | apply bL | apply aB | apply b6))
  ((refine bR rfl (bC rfl bf) ?_))
  first | exact aj.bp.refl _ | exact aj.bp.of_eq (by rw [bG ep]; rfl) | exact aj.bp.of_eq (by rw [b3 ep]; rfl)
def uQ (n : Int) : Bool := decide (-134217728 ≤ n) && decide (n ≤ 134217728)
theorem Pk {n : Int} {b : Bool} (ab : uQ n = b) : aR ai 216 [aT n] (bE b) := by
 have cs : (-134217728 ≤ n ∧ n ≤ 134217728 ∧ b = true) ∨ (-134217728 ≤ n ∧ ¬ n ≤ 134217728 ∧ b = false) ∨ (¬ -134217728 ≤ n ∧ b = false) := by
  rw [← ab]; unfold uQ
  by_cases h1 : -134217728 ≤ n <;> by_cases h2 : n ≤ 134217728 <;> simp [h1, h2]
 clear ab;rcases cs with ⟨h1, h2, rfl⟩ | ⟨h1, h2, rfl⟩ | ⟨h1, rfl⟩
 all_goals
  refine cc (f := 216) Tryz.func216 rfl rfl rfl rfl ?_;(repeat first | (with_reducible apply aA); exact rfl | (with_reducible apply dv (c := true)); exact rfl; exact rfl; (exact bG (by omega)) | (with_reducible apply dv (c := false)); exact rfl; exact rfl; (exact b3 (by omega)) | (with_reducible first | apply bN | apply bH | apply bL | apply aB | apply b6))
  ((refine bR rfl (bC rfl bf) ?_))
  first | exact aj.bp.refl _ | exact aj.bp.of_eq (by rw [bG h2]; rfl) | exact aj.bp.of_eq (by rw [b3 h2]; rfl)
theorem ady (x y : Int) : cy x y = (uQ x && uQ y) := by
 unfold cy uQ;rw [oL];simp only [dS, cE];omega
theorem kW {x y : Int} (h : cy x y = true) : eb x y = true := by rw [ss] at h; rw [P1]; omega
theorem oG {x y : Int} {b : Bool} (ab : cy x y = b) : aR ai 171 [bh x y] (bE b) := by
 have aM := Pk (n := x) rfl;have bU := Pk (n := y) rfl;rw [ady] at ab;cases q1 : uQ x <;> cases q2 : uQ y <;> rw [q1] at aM <;> rw [q2] at bU <;> rw [q1, q2] at ab <;> subst ab <;> clear q1 q2
 all_goals
  refine cc (f := 171) Tryz.func171 rfl rfl rfl rfl ?_;(repeat first | (with_reducible apply aA); exact rfl | refine eO rfl rfl rfl (by (first | exact aM | exact bU)) rfl ?_ | (with_reducible first | apply bN | apply bH | apply bL | apply aB | apply b6))
  ((refine bR rfl (bC rfl bf) ?_))
  exact aj.bp.refl _
theorem abV {n m : Int} : aR ai 285 [aT n, aT m] (aT (fM n m)) :=
 mS [.int .i64 n, .int .i64 m] (.int .i64 (fM n m)) rfl rfl rfl rfl rfl fun W => EM n m W
abbrev jJ (n d : Int) (o : Bool) : aj := .w (.agg [.c (.int .i64 n), .c (.int .i64 d), .c (.bool o)])
abbrev uc (x : ht) : aj := jJ x.n x.d x.own
def lD (x : ht) : Prop := (-2000000000 ≤ x.n ∧ x.n ≤ 2000000000) ∧ 0 < x.d ∧ x.d ≤ 2000000000
theorem aaR {x y : Int} (h1 : -2000000000 ≤ x) (h2 : x ≤ 2000000000) (ap : 0 ≤ y) (aL : y ≤ 2000000000) : -4000000000000000000 ≤ x * y ∧ x * y ≤ 4000000000000000000 := by
 have a1 : x * y ≤ 2000000000 * y := pL h2 ap;have a2 : -2000000000 * y ≤ x * y := pL h1 ap;omega
theorem Kx {x y : ht} (aa : lD x) (ah : lD y) : IntKind.i64.wrap (x.n * y.d) = x.n * y.d := by
 obtain ⟨⟨a1, a2⟩, a3, a4⟩ := aa;obtain ⟨⟨b1, b2⟩, ed, dD⟩ := ah;have := aaR a1 a2 (by omega : (0 : Int) ≤ y.d) dD;exact cX (by omega)
theorem acX {n d m e c : Int} {o q : Bool} (aM : aR ai 285 [aT (n * e), aT (m * d)] (aT c)) (aP : IntKind.i64.wrap (n * e) = n * e) (w2 : IntKind.i64.wrap (m * d) = m * d) : aR ai 284 [jJ n d o, jJ m e q] (aT c) := by
 refine cc (f := 284) Tryz.func284 rfl rfl rfl rfl ?_;(repeat first | (with_reducible apply aA); exact rfl | (with_reducible apply rq); (iterate 3 exact rfl); (assumption); exact rfl | refine dI rfl rfl rfl rfl (by (exact aM)) rfl ?_ | (with_reducible first | apply bN | apply bH | apply bL | apply aB | apply b6))
 ((refine bR rfl (bC rfl bf) ?_))
 exact aj.bp.refl _
theorem Io {x y : ht} (aa : lD x) (ah : lD y) : aR ai 284 [uc x, uc y] (aT (hb x y)) :=
 acX abV (Kx aa ah) (Kx ah aa)
theorem acQ {n d m e c : Int} {o q : Bool} {cQ dN : Int} {hM : Bool} (aM : aR ai 284 [jJ n d o, jJ m e q] (aT c)) (cs : (0 < c ∧ cQ = n ∧ dN = d ∧ hM = o) ∨ (¬ 0 < c ∧ c = 0 ∧ q = true ∧ cQ = n ∧ dN = d ∧ hM = o) ∨ (¬ 0 < c ∧ c = 0 ∧ q = false ∧ cQ = m ∧ dN = e ∧ hM = q) ∨ (¬ 0 < c ∧ ¬ c = 0 ∧ cQ = m ∧ dN = e ∧ hM = q)) : aR ai 294 [jJ n d o, jJ m e q] (jJ cQ dN hM) := by
 rcases cs with ⟨q1, rfl, rfl, rfl⟩ | ⟨q1, q2, rfl, rfl, rfl, rfl⟩ | ⟨q1, q2, rfl, rfl, rfl, rfl⟩ | ⟨q1, q2, rfl, rfl, rfl⟩
 all_goals
  refine cc (f := 294) Tryz.func294 rfl rfl rfl rfl ?_;(repeat first | (with_reducible apply aA); exact rfl | refine dI rfl rfl rfl rfl (by (exact aM)) rfl ?_ | (with_reducible apply dv (c := true)); exact rfl; exact rfl; (exact bG (by omega)) | (with_reducible apply dv (c := false)); exact rfl; exact rfl; (exact b3 (by omega)) | (with_reducible first | apply bN | apply bH | apply bL | apply aB | apply b6 | apply eR | apply fC) | (with_reducible apply h8); exact rfl | (with_reducible apply hA); exact rfl)
  ((refine bR rfl (e0 rfl rfl rfl bf) ?_))
  exact aj.bp.refl _
theorem acP {x y : ht} (aa : lD x) (ah : lD y) : aR ai 294 [uc x, uc y] (uc (qA x y)) := by
 refine acQ (Io aa ah) ?_;rcases NI x y with ⟨e, h⟩ | ⟨e, h⟩ <;> rw [e]
 ·by_cases h1 : 0 < hb x y
  ·exact .inl ⟨h1, rfl, rfl, rfl⟩
  ·rcases h with h | ⟨h, k⟩
   ·exact absurd h h1
   ·exact .inr (.inl ⟨h1, h, k, rfl, rfl, rfl⟩)
 ·have h1 : ¬ 0 < hb x y := fun k => h (.inl k)
  by_cases h2 : hb x y = 0
  ·refine .inr (.inr (.inl ⟨h1, h2, ?_, rfl, rfl, rfl⟩));cases ah : y.own with
   | false => rfl
   | true => exact absurd (.inr ⟨h2, ah⟩) h
  ·exact .inr (.inr (.inr ⟨h1, h2, rfl, rfl, rfl⟩))
theorem acE {n d m e c : Int} {o q : Bool} {cQ dN : Int} {hM : Bool} (aM : aR ai 284 [jJ n d o, jJ m e q] (aT c)) (cs : (c < 0 ∧ cQ = n ∧ dN = d ∧ hM = o) ∨ (¬ c < 0 ∧ c = 0 ∧ q = true ∧ cQ = n ∧ dN = d ∧ hM = o) ∨ (¬ c < 0 ∧ c = 0 ∧ q = false ∧ cQ = m ∧ dN = e ∧ hM = q) ∨ (¬ c < 0 ∧ ¬ c = 0 ∧ cQ = m ∧ dN = e ∧ hM = q)) : aR ai 295 [jJ n d o, jJ m e q] (jJ cQ dN hM) := by
 rcases cs with ⟨q1, rfl, rfl, rfl⟩ | ⟨q1, q2, rfl, rfl, rfl, rfl⟩ | ⟨q1, q2, rfl, rfl, rfl, rfl⟩ | ⟨q1, q2, rfl, rfl, rfl⟩
 all_goals
  refine cc (f := 295) Tryz.func295 rfl rfl rfl rfl ?_;(repeat first | (with_reducible apply aA); exact rfl | refine dI rfl rfl rfl rfl (by (exact aM)) rfl ?_ | (with_reducible apply dv (c := true)); exact rfl; exact rfl; (exact bG (by omega)) | (with_reducible apply dv (c := false)); exact rfl; exact rfl; (exact b3 (by omega)) | (with_reducible first | apply bN | apply bH | apply bL | apply aB | apply b6 | apply eR | apply fC) | (with_reducible apply h8); exact rfl | (with_reducible apply hA); exact rfl)
  ((refine bR rfl (e0 rfl rfl rfl bf) ?_))
  exact aj.bp.refl _
theorem acD {x y : ht} (aa : lD x) (ah : lD y) : aR ai 295 [uc x, uc y] (uc (qj x y)) := by
 refine acE (Io aa ah) ?_;rcases Li x y with ⟨e, h⟩ | ⟨e, h⟩ <;> rw [e]
 ·by_cases h1 : hb x y < 0
  ·exact .inl ⟨h1, rfl, rfl, rfl⟩
  ·rcases h with h | ⟨h, k⟩
   ·exact absurd h h1
   ·exact .inr (.inl ⟨h1, h, k, rfl, rfl, rfl⟩)
 ·have h1 : ¬ hb x y < 0 := fun k => h (.inl k)
  by_cases h2 : hb x y = 0
  ·refine .inr (.inr (.inl ⟨h1, h2, ?_, rfl, rfl, rfl⟩));cases ah : y.own with
   | false => rfl
   | true => exact absurd (.inr ⟨h2, ah⟩) h
  ·exact .inr (.inr (.inr ⟨h1, h2, rfl, rfl, rfl⟩))
abbrev gA (a1 a2 b1 b2 n d : Int) (o : Bool) (m e : Int) (q : Bool) : aj := .w (.agg [.c (.int .i64 a1), .c (.int .i64 a2), .c (.int .i64 b1), .c (.int .i64 b2), .c (.int .i64 n), .c (.int .i64 d), .c (.bool o), .c (.int .i64 m), .c (.int .i64 e), .c (.bool q)])
abbrev Ey (a1 a2 b1 b2 : Int) (p : Pa) : aj := gA a1 a2 b1 b2 p.f.n p.f.d p.f.own p.t.n p.t.d p.t.own
def xU (p : Pa) : Prop := lD p.f ∧ lD p.t
theorem acO {a1 a2 b1 b2 n d m e u v : Int} {o q w : Bool} {n' d' aG bw : Int} {fz cA : Bool} (hu : -1100000000 ≤ u ∧ u ≤ 1100000000) (hv : -1100000000 ≤ v ∧ v ≤ 1100000000)
  (cs : (0 < v - u ∧ aR ai 294 [jJ n d o, jJ (-u) (v - u) w] (jJ n' d' fz) ∧ aG = m ∧ bw = e ∧ cA = q) ∨ (¬ 0 < v - u ∧ v - u < 0 ∧ aR ai 295 [jJ m e q, jJ u (-(v - u)) w] (jJ aG bw cA) ∧ n' = n ∧ d' = d ∧ fz = o)
   ∨ (¬ 0 < v - u ∧ ¬ v - u < 0 ∧ u < 0 ∧ n' = 1 ∧ d' = 1 ∧ fz = false ∧ aG = 0 ∧ bw = 1 ∧ cA = false) ∨ (¬ 0 < v - u ∧ ¬ v - u < 0 ∧ ¬ u < 0 ∧ u = 0 ∧ w = false ∧ n' = 1 ∧ d' = 1 ∧ fz = false ∧ aG = 0 ∧ bw = 1 ∧ cA = false)
   ∨ (¬ 0 < v - u ∧ ¬ v - u < 0 ∧ ¬ u < 0 ∧ u = 0 ∧ w = true ∧ n' = n ∧ d' = d ∧ fz = o ∧ aG = m ∧ bw = e ∧ cA = q) ∨ (¬ 0 < v - u ∧ ¬ v - u < 0 ∧ ¬ u < 0 ∧ ¬ u = 0 ∧ n' = n ∧ d' = d ∧ fz = o ∧ aG = m ∧ bw = e ∧ cA = q)) :
  aR ai 283 [gA a1 a2 b1 b2 n d o m e q, aT u, aT v, bE w] (gA a1 a2 b1 b2 n' d' fz aG bw cA) := by
 rcases cs with ⟨q1, aM, rfl, rfl, rfl⟩ | ⟨q1, q2, aM, rfl, rfl, rfl⟩ | ⟨q1, q2, cg, rfl, rfl, rfl, rfl, rfl, rfl⟩ | ⟨q1, q2, cg, ep, rfl, rfl, rfl, rfl, rfl, rfl, rfl⟩ | ⟨q1, q2, cg, ep, rfl, rfl, rfl, rfl, rfl, rfl, rfl⟩ | ⟨q1, q2, cg, ep, rfl, rfl, rfl, rfl, rfl, rfl⟩
 ·refine cc (f := 283) Tryz.func283 rfl rfl rfl rfl ?_;(repeat first | (with_reducible apply aA); exact rfl | (with_reducible apply n2); (iterate 3 exact rfl); (exact cX (by omega)); exact rfl | (with_reducible apply Kk); exact rfl; exact rfl; (exact cX (by omega)); exact rfl | refine dI rfl rfl rfl rfl (by (exact aM)) rfl ?_ | (with_reducible first | apply bN | apply bH | apply bL | apply aB | apply b6 | apply gp | apply mG) | (with_reducible apply gf); exact rfl; (exact bG (by omega)))
  ((refine bR rfl (e0 rfl rfl rfl bf) ?_))
  exact aj.bp.refl _
 ·refine cc (f := 283) Tryz.func283 rfl rfl rfl rfl ?_;(repeat first | (with_reducible apply aA); exact rfl | (with_reducible apply n2); (iterate 3 exact rfl); (exact cX (by omega)); exact rfl | (with_reducible apply Kk); exact rfl; exact rfl; (exact cX (by omega)); exact rfl | refine dI rfl rfl rfl rfl (by (exact aM)) rfl ?_ | (with_reducible first | apply bN | apply bH | apply bL | apply aB | apply b6 | apply gp | apply mG) | (with_reducible apply gf); exact rfl; (exact bG (by omega)) | (with_reducible apply hz); exact rfl; (exact b3 (by omega)))
  ((refine bR rfl (e0 rfl rfl rfl bf) ?_))
  exact aj.bp.refl _
 all_goals
  refine cc (f := 283) Tryz.func283 rfl rfl rfl rfl ?_;(repeat first | (with_reducible apply aA); exact rfl | (with_reducible apply n2); (iterate 3 exact rfl); (exact cX (by omega)); exact rfl | (with_reducible apply dv (c := true)); exact rfl; exact rfl; (exact bG (by omega)) | (with_reducible apply dv (c := false)); exact rfl; exact rfl; (exact b3 (by omega)) | (with_reducible first | apply bN | apply bH | apply bL | apply aB | apply b6 | apply eR | apply gp | apply mG) | (with_reducible apply h8); exact rfl | (with_reducible apply hA); exact rfl | (with_reducible apply gf); exact rfl; (exact bG (by omega)) | (with_reducible apply hz); exact rfl; (exact b3 (by omega)))
  ((refine bR rfl (e0 rfl rfl rfl bf) ?_))
  exact aj.bp.refl _
theorem ZY {x y : ht} (aa : lD x) (ah : lD y) : lD (qA x y) := by unfold qA; split <;> assumption
theorem Vl {x y : ht} (aa : lD x) (ah : lD y) : lD (qj x y) := by unfold qj; split <;> assumption
theorem Dc {p : Pa} {u v : Int} {w : Bool} (hp : xU p) (hu : -900000000 ≤ u ∧ u ≤ 900000000) (hv : -900000000 ≤ v ∧ v ≤ 900000000) : xU (nH p u v w) := by
 unfold nH
 by_cases h1 : 0 < v - u
 ·rw [if_pos h1]; exact ⟨ZY hp.1 ⟨by simp only; omega, by simp only; omega⟩, hp.2⟩
 ·rw [if_neg h1]
  by_cases h2 : v - u < 0
  ·rw [if_pos h2]; exact ⟨hp.1, Vl hp.2 ⟨by simp only; omega, by simp only; omega⟩⟩
  ·rw [if_neg h2]
   split
   ·exact ⟨⟨by decide, by decide⟩, ⟨by decide, by decide⟩⟩
   ·exact hp
theorem DQ {a1 a2 b1 b2 u v : Int} {w : Bool} {p : Pa} (hp : xU p) (hu : -900000000 ≤ u ∧ u ≤ 900000000) (hv : -900000000 ≤ v ∧ v ≤ 900000000) : aR ai 283 [Ey a1 a2 b1 b2 p, aT u, aT v, bE w] (Ey a1 a2 b1 b2 (nH p u v w)) := by
 refine acO (by omega) (by omega) ?_;unfold nH
 by_cases h1 : 0 < v - u
 ·rw [if_pos h1];exact .inl ⟨h1, acP hp.1 (y := ⟨-u, v - u, w⟩) ⟨by simp only; omega, by simp only; omega⟩, rfl, rfl, rfl⟩
 ·rw [if_neg h1]
  by_cases h2 : v - u < 0
  ·rw [if_pos h2];exact .inr (.inl ⟨h1, h2, acD hp.2 (y := ⟨u, -(v - u), w⟩) ⟨by simp only; omega, by simp only; omega⟩, rfl, rfl, rfl⟩)
  ·rw [if_neg h2]
   by_cases ap : u < 0
   ·rw [if_pos (.inl ap)];exact .inr (.inr (.inl ⟨h1, h2, ap, rfl, rfl, rfl, rfl, rfl, rfl⟩))
   ·by_cases aL : u = 0
    ·cases w with
     | false => rw [if_pos (.inr ⟨aL, rfl⟩)]; exact .inr (.inr (.inr (.inl ⟨h1, h2, ap, aL, rfl, rfl, rfl, rfl, rfl, rfl, rfl⟩)))
     | true => rw [if_neg (by simp [ap])]; exact .inr (.inr (.inr (.inr (.inl ⟨h1, h2, ap, aL, rfl, rfl, rfl, rfl, rfl, rfl, rfl⟩))))
    ·rw [if_neg (by simp [ap, aL])];exact .inr (.inr (.inr (.inr (.inr ⟨h1, h2, ap, aL, rfl, rfl, rfl, rfl, rfl, rfl⟩))))
instance ahG : Jw ai 287 4 false 1 := ⟨by kernel_rfl⟩
abbrev ud (l1 l2 h1 h2 : Int) (o p : Bool) : aj := .w (.agg [.c (.int .i64 l1), .c (.int .i64 l2), .c (.int .i64 h1), .c (.int .i64 h2), .c (.bool o), .c (.bool p)])
def sX (n : Int) : Bool := decide (-536870912 ≤ n) && decide (n ≤ 536870912)
theorem KM {n : Int} : sX n = true ↔ -536870912 ≤ n ∧ n ≤ 536870912 := by unfold sX; simp
def sY (x y : Int) : Bool := sX x && sX y
theorem BP {x y : Int} : sY x y = true ↔ (-536870912 ≤ x ∧ x ≤ 536870912) ∧ -536870912 ≤ y ∧ y ≤ 536870912 := by unfold sY; rw [dS, KM, KM]
def C8 (k : Int) : Bool := decide (0 ≤ k) && decide (k ≤ 2)
theorem acB {a1 a2 b1 b2 l1 l2 h1 h2 n d m e n' d' aG bw : Int} {o p q r cA a7 : Bool} (aK : -134217728 ≤ a1 ∧ a1 ≤ 134217728) (ab : -134217728 ≤ b1 ∧ b1 ≤ 134217728) (ao : -536870912 ≤ l1 ∧ l1 ≤ 536870912)
  (aM : aR ai 283 [gA a1 a2 b1 b2 n d q m e r, aT (2 * a1 - l1), aT (2 * b1 - l1), bE o] (gA a1 a2 b1 b2 n' d' cA aG bw a7)) : aR ai 252 [ud l1 l2 h1 h2 o p, gA a1 a2 b1 b2 n d q m e r] (gA a1 a2 b1 b2 n' d' cA aG bw a7) := by
 refine cc (f := 252) Tryz.func252 rfl rfl rfl rfl ?_;(repeat first | (with_reducible apply aA); exact rfl | (with_reducible apply n2); (iterate 3 exact rfl); (exact cX (by omega)); exact rfl | (with_reducible apply rq); (iterate 3 exact rfl); (exact cX (by omega)); exact rfl | refine nl rfl rfl rfl rfl rfl rfl (by (exact aM)) rfl ?_ | (with_reducible first | apply bN | apply bH | apply bL | apply aB | apply b6))
 ((refine bR rfl (e0 rfl rfl rfl bf) ?_))
 exact aj.bp.refl _
theorem acA {a1 a2 b1 b2 l1 l2 h1 h2 n d m e n' d' aG bw : Int} {o p q r cA a7 : Bool} (aK : -134217728 ≤ a2 ∧ a2 ≤ 134217728) (ab : -134217728 ≤ b2 ∧ b2 ≤ 134217728) (ao : -536870912 ≤ l2 ∧ l2 ≤ 536870912)
  (aM : aR ai 283 [gA a1 a2 b1 b2 n d q m e r, aT (2 * a2 - l2), aT (2 * b2 - l2), bE o] (gA a1 a2 b1 b2 n' d' cA aG bw a7)) : aR ai 253 [ud l1 l2 h1 h2 o p, gA a1 a2 b1 b2 n d q m e r] (gA a1 a2 b1 b2 n' d' cA aG bw a7) := by
 refine cc (f := 253) Tryz.func253 rfl rfl rfl rfl ?_;(repeat first | (with_reducible apply aA); exact rfl | (with_reducible apply n2); (iterate 3 exact rfl); (exact cX (by omega)); exact rfl | (with_reducible apply rq); (iterate 3 exact rfl); (exact cX (by omega)); exact rfl | refine nl rfl rfl rfl rfl rfl rfl (by (exact aM)) rfl ?_ | (with_reducible first | apply bN | apply bH | apply bL | apply aB | apply b6))
 ((refine bR rfl (e0 rfl rfl rfl bf) ?_))
 exact aj.bp.refl _
theorem acC {a1 a2 b1 b2 l1 l2 h1 h2 n d m e n' d' aG bw : Int} {o p q r cA a7 : Bool} (aK : -134217728 ≤ a1 ∧ a1 ≤ 134217728) (ab : -134217728 ≤ b1 ∧ b1 ≤ 134217728) (ao : -536870912 ≤ h1 ∧ h1 ≤ 536870912)
  (aM : aR ai 283 [gA a1 a2 b1 b2 n d q m e r, aT (h1 - 2 * a1), aT (h1 - 2 * b1), bE p] (gA a1 a2 b1 b2 n' d' cA aG bw a7)) : aR ai 254 [ud l1 l2 h1 h2 o p, gA a1 a2 b1 b2 n d q m e r] (gA a1 a2 b1 b2 n' d' cA aG bw a7) := by
 refine cc (f := 254) Tryz.func254 rfl rfl rfl rfl ?_;(repeat first | (with_reducible apply aA); exact rfl | (with_reducible apply n2); (iterate 3 exact rfl); (exact cX (by omega)); exact rfl | (with_reducible apply rq); (iterate 3 exact rfl); (exact cX (by omega)); exact rfl | refine nl rfl rfl rfl rfl rfl rfl (by (exact aM)) rfl ?_ | (with_reducible first | apply bN | apply bH | apply bL | apply aB | apply b6))
 ((refine bR rfl (e0 rfl rfl rfl bf) ?_))
 exact aj.bp.refl _
theorem acz {a1 a2 b1 b2 l1 l2 h1 h2 n d m e n' d' aG bw : Int} {o p q r cA a7 : Bool} (aK : -134217728 ≤ a2 ∧ a2 ≤ 134217728) (ab : -134217728 ≤ b2 ∧ b2 ≤ 134217728) (ao : -536870912 ≤ h2 ∧ h2 ≤ 536870912)
  (aM : aR ai 283 [gA a1 a2 b1 b2 n d q m e r, aT (h2 - 2 * a2), aT (h2 - 2 * b2), bE p] (gA a1 a2 b1 b2 n' d' cA aG bw a7)) : aR ai 255 [ud l1 l2 h1 h2 o p, gA a1 a2 b1 b2 n d q m e r] (gA a1 a2 b1 b2 n' d' cA aG bw a7) := by
 refine cc (f := 255) Tryz.func255 rfl rfl rfl rfl ?_;(repeat first | (with_reducible apply aA); exact rfl | (with_reducible apply n2); (iterate 3 exact rfl); (exact cX (by omega)); exact rfl | (with_reducible apply rq); (iterate 3 exact rfl); (exact cX (by omega)); exact rfl | refine nl rfl rfl rfl rfl rfl rfl (by (exact aM)) rfl ?_ | (with_reducible first | apply bN | apply bH | apply bL | apply aB | apply b6))
 ((refine bR rfl (e0 rfl rfl rfl bf) ?_))
 exact aj.bp.refl _
theorem acn {a1 a2 b1 b2 : Int} : aR ai 251 [bh a1 a2, bh b1 b2] (Ey a1 a2 b1 b2 uD) := by
 refine cc (f := 251) Tryz.func251 rfl rfl rfl rfl ?_;(repeat first | (with_reducible apply aA); exact rfl | (with_reducible first | apply bN | apply bH | apply bL | apply aB | apply b6))
 ((refine bR rfl (e0 rfl rfl rfl bf) ?_))
 exact aj.bp.refl _
theorem acJ {a1 a2 b1 b2 n d m e c : Int} {o q r : Bool} (aM : aR ai 284 [jJ n d o, jJ m e q] (aT c)) (cs : (c < 0 ∧ r = true) ∨ (¬ c < 0 ∧ c = 0 ∧ o = true ∧ r = q) ∨ (¬ c < 0 ∧ c = 0 ∧ o = false ∧ r = false) ∨ (¬ c < 0 ∧ ¬ c = 0 ∧ r = false)) : aR ai 256 [gA a1 a2 b1 b2 n d o m e q] (bE r) := by
 rcases cs with ⟨q1, rfl⟩ | ⟨q1, q2, rfl, rfl⟩ | ⟨q1, q2, rfl, rfl⟩ | ⟨q1, q2, rfl⟩
 all_goals
  refine cc (f := 256) Tryz.func256 rfl rfl rfl rfl ?_;(repeat first | (with_reducible apply aA); exact rfl | refine dI rfl rfl rfl rfl (by (exact aM)) rfl ?_ | (with_reducible apply dv (c := true)); exact rfl; exact rfl; (exact bG (by omega)) | (with_reducible apply dv (c := false)); exact rfl; exact rfl; (exact b3 (by omega)) | (with_reducible first | apply bN | apply bH | apply bL | apply aB | apply b6))
  ((refine bR rfl (bC rfl bf) ?_))
  exact aj.bp.refl _
theorem acI {a1 a2 b1 b2 : Int} {p : Pa} (hp : xU p) : aR ai 256 [Ey a1 a2 b1 b2 p] (bE (wb p)) := by
 refine acJ (Io hp.1 hp.2) ?_;unfold wb
 by_cases h1 : hb p.f p.t < 0
 ·exact .inl ⟨h1, by rw [bG h1]; rfl⟩
 ·rw [b3 h1]
  by_cases h2 : hb p.f p.t = 0
  ·rw [bG h2];cases ap : p.f.own with
   | true => exact .inr (.inl ⟨h1, h2, rfl, rfl⟩)
   | false => exact .inr (.inr (.inl ⟨h1, h2, rfl, rfl⟩))
  ·exact .inr (.inr (.inr ⟨h1, h2, by rw [b3 h2]; rfl⟩))
theorem Pl {n : Int} {b : Bool} (ab : sX n = b) : aR ai 282 [aT n] (bE b) := by
 have cs : (-536870912 ≤ n ∧ n ≤ 536870912 ∧ b = true) ∨ (-536870912 ≤ n ∧ ¬ n ≤ 536870912 ∧ b = false) ∨ (¬ -536870912 ≤ n ∧ b = false) := by
  rw [← ab]; unfold sX
  by_cases h1 : -536870912 ≤ n <;> by_cases h2 : n ≤ 536870912 <;> simp [h1, h2]
 clear ab;rcases cs with ⟨h1, h2, rfl⟩ | ⟨h1, h2, rfl⟩ | ⟨h1, rfl⟩
 all_goals
  refine cc (f := 282) Tryz.func282 rfl rfl rfl rfl ?_;(repeat first | (with_reducible apply aA); exact rfl | (with_reducible apply dv (c := true)); exact rfl; exact rfl; (exact bG (by omega)) | (with_reducible apply dv (c := false)); exact rfl; exact rfl; (exact b3 (by omega)) | (with_reducible first | apply bN | apply bH | apply bL | apply aB | apply b6))
  ((refine bR rfl (bC rfl bf) ?_))
  first | exact aj.bp.refl _ | exact aj.bp.of_eq (by rw [bG h2]; rfl) | exact aj.bp.of_eq (by rw [b3 h2]; rfl)
theorem DP {x y : Int} {b : Bool} (ab : sY x y = b) : aR ai 249 [bh x y] (bE b) := by
 have aM := Pl (n := x) rfl;have bU := Pl (n := y) rfl;unfold sY at ab;cases q1 : sX x <;> cases q2 : sX y <;> rw [q1] at aM <;> rw [q2] at bU <;> rw [q1, q2] at ab <;> subst ab <;> clear q1 q2
 all_goals
  refine cc (f := 249) Tryz.func249 rfl rfl rfl rfl ?_;(repeat first | (with_reducible apply aA); exact rfl | refine eO rfl rfl rfl (by (first | exact aM | exact bU)) rfl ?_ | (with_reducible first | apply bN | apply bH | apply bL | apply aB | apply b6))
  ((refine bR rfl (bC rfl bf) ?_))
  exact aj.bp.refl _
theorem Pp {k : Int} {b : Bool} (ab : C8 k = b) : aR ai 250 [aT k] (bE b) := by
 have cs : (k = 0 ∧ b = true) ∨ (¬ k = 0 ∧ k = 1 ∧ b = true) ∨ (¬ k = 0 ∧ ¬ k = 1 ∧ k = 2 ∧ b = true) ∨ (¬ k = 0 ∧ ¬ k = 1 ∧ ¬ k = 2 ∧ b = false) := by
  rw [← ab]; unfold C8
  by_cases h1 : k = 0
  ·exact .inl ⟨h1, by subst h1; rfl⟩
  ·by_cases h2 : k = 1
   ·exact .inr (.inl ⟨h1, h2, by subst h2; rfl⟩)
   ·by_cases ap : k = 2
    ·exact .inr (.inr (.inl ⟨h1, h2, ap, by subst ap; rfl⟩))
    ·refine .inr (.inr (.inr ⟨h1, h2, ap, ?_⟩));rw [Bool.and_eq_false_iff, lp, lp];omega
 clear ab;rcases cs with ⟨h1, rfl⟩ | ⟨h1, h2, rfl⟩ | ⟨h1, h2, ap, rfl⟩ | ⟨h1, h2, ap, rfl⟩
 all_goals
  refine cc (f := 250) Tryz.func250 rfl rfl rfl rfl ?_;(repeat first | (with_reducible apply aA); exact rfl | (with_reducible apply dv (c := true)); exact rfl; exact rfl; (exact bG (by omega)) | (with_reducible apply dv (c := false)); exact rfl; exact rfl; (exact b3 (by omega)) | (with_reducible first | apply bN | apply bH | apply bL | apply aB | apply b6))
  ((refine bR rfl (bC rfl bf) ?_))
  first | exact aj.bp.refl _ | exact aj.bp.of_eq (by rw [bG ap]; rfl) | exact aj.bp.of_eq (by rw [b3 ap]; rfl)
theorem ab7 {a1 a2 b1 b2 l1 l2 h1 h2 k : Int} {o p r : Bool} {ig d1 m1 aI jA d2 m2 aO r8 d3 m3 cD r9 d4 m4 eD : Int} {q1 cQ q2 dN cg hM ep qO : Bool} (bl : aR ai 171 [bh a1 a2] (bE true)) (eV : aR ai 171 [bh b1 b2] (bE true)) (um : aR ai 249 [bh l1 l2] (bE true)) (vQ : aR ai 249 [bh h1 h2] (bE true)) (EW : aR ai 250 [aT k] (bE true))
  (Vz : (!decide (k = 2)) = o) (rF : decide (k = 1) = p) (bS : aR ai 251 [bh a1 a2, bh b1 b2] (gA a1 a2 b1 b2 0 1 true 1 1 true))
  (aM : aR ai 252 [ud l1 l2 h1 h2 o p, gA a1 a2 b1 b2 0 1 true 1 1 true] (gA a1 a2 b1 b2 ig d1 q1 m1 aI cQ))
  (bU : aR ai 253 [ud l1 l2 h1 h2 o p, gA a1 a2 b1 b2 ig d1 q1 m1 aI cQ] (gA a1 a2 b1 b2 jA d2 q2 m2 aO dN))
  (e8 : aR ai 254 [ud l1 l2 h1 h2 o p, gA a1 a2 b1 b2 jA d2 q2 m2 aO dN] (gA a1 a2 b1 b2 r8 d3 cg m3 cD hM))
  (mZ : aR ai 255 [ud l1 l2 h1 h2 o p, gA a1 a2 b1 b2 r8 d3 cg m3 cD hM] (gA a1 a2 b1 b2 r9 d4 ep m4 eD qO))
  (H1 : aR ai 256 [gA a1 a2 b1 b2 r9 d4 ep m4 eD qO] (bE r)) :
  aR ai 226 [bh a1 a2, bh b1 b2, bh l1 l2, bh h1 h2, aT k] (bE r) := by
 subst Vz;subst rF;refine cc (f := 226) Tryz.func226 rfl rfl rfl rfl ?_;(repeat first | (with_reducible apply aA); exact rfl | (with_reducible apply x9); (iterate 4 exact rfl) | refine eO rfl rfl rfl (by (first | exact bl | exact eV | exact um | exact vQ | exact EW)) rfl ?_ | refine dI rfl rfl rfl rfl (by (exact bS)) rfl ?_ | (with_reducible first | apply bN | apply bH | apply bL | apply aB | apply eR | apply gp) | (with_reducible apply hA); exact rfl);refine TJ 5 ?_;(repeat first | (with_reducible apply aA); exact rfl | (with_reducible apply fe); (iterate 3 exact rfl); (exact cX (by omega)); exact rfl | (with_reducible apply Tk); (iterate 3 exact rfl); (decide); (decide); (rfl); exact rfl | refine eO rfl rfl rfl (by (exact H1)) rfl ?_ | refine S6 (bs := [_]) (args := [_]) rfl rfl rfl rfl (by (first | exact aM | exact bU | exact e8 | exact mZ)) rfl ?_ | (with_reducible first | apply bN | apply bH | apply bL | apply aB | apply b6 | apply eR | apply gp | apply mG | apply uC | apply uG | apply uF | apply adX) | (with_reducible apply h8); exact rfl | (with_reducible apply hA); exact rfl)
 ((refine bR rfl (bC rfl bf) ?_))
 exact aj.bp.refl _
def c7 (a1 a2 b1 b2 l1 l2 h1 h2 k : Int) : Pa := s0 (2 * a1 - l1) (2 * b1 - l1) (2 * a2 - l2) (2 * b2 - l2) (h1 - 2 * a1) (h1 - 2 * b1) (h2 - 2 * a2) (h2 - 2 * b2) (!decide (k = 2)) (decide (k = 1))
def xc (a1 a2 b1 b2 l1 l2 h1 h2 k : Int) : Bool := cy a1 a2 && cy b1 b2 && sY l1 l2 && sY h1 h2 && C8 k
def xb (a1 a2 b1 b2 l1 l2 h1 h2 k : Int) : Bool := xc a1 a2 b1 b2 l1 l2 h1 h2 k && wb (c7 a1 a2 b1 b2 l1 l2 h1 h2 k)
theorem ab8 {a1 a2 b1 b2 l1 l2 h1 h2 k : Int} {cQ dN hM qO D1 : Bool} (bl : aR ai 171 [bh a1 a2] (bE cQ)) (eV : aR ai 171 [bh b1 b2] (bE dN)) (um : aR ai 249 [bh l1 l2] (bE hM)) (vQ : aR ai 249 [bh h1 h2] (bE qO)) (EW : aR ai 250 [aT k] (bE D1)) (h : (cQ && dN && hM && qO && D1) = false) :
  aR ai 226 [bh a1 a2, bh b1 b2, bh l1 l2, bh h1 h2, aT k] (bE false) := by
 have cs : cQ = false ∨ (cQ = true ∧ dN = false) ∨ (cQ = true ∧ dN = true ∧ hM = false) ∨ (cQ = true ∧ dN = true ∧ hM = true ∧ qO = false) ∨ (cQ = true ∧ dN = true ∧ hM = true ∧ qO = true ∧ D1 = false) := by
  cases cQ <;> cases dN <;> cases hM <;> cases qO <;> cases D1 <;> simp_all
 clear h;rcases cs with rfl | ⟨rfl, rfl⟩ | ⟨rfl, rfl, rfl⟩ | ⟨rfl, rfl, rfl, rfl⟩ | ⟨rfl, rfl, rfl, rfl, rfl⟩
 all_goals
  refine cc (f := 226) Tryz.func226 rfl rfl rfl rfl ?_;(repeat first | (with_reducible apply aA); exact rfl | refine eO rfl rfl rfl (by (first | exact bl | exact eV | exact um | exact vQ | exact EW)) rfl ?_ | (with_reducible first | apply bN | apply bH | apply bL | apply aB | apply b6 | apply fC) | (with_reducible apply h8); exact rfl)
  ((refine bR rfl (bC rfl bf) ?_))
  exact aj.bp.refl _
theorem Kd : xU uD := ⟨⟨by decide, by decide⟩, ⟨by decide, by decide⟩⟩
theorem ab6 {a1 a2 b1 b2 l1 l2 h1 h2 k : Int} : aR ai 226 [bh a1 a2, bh b1 b2, bh l1 l2, bh h1 h2, aT k] (bE (xb a1 a2 b1 b2 l1 l2 h1 h2 k)) := by
 unfold xb;cases aq : xc a1 a2 b1 b2 l1 l2 h1 h2 k with
 | false => exact ab8 (oG rfl) (oG rfl) (DP rfl) (DP rfl) (Pp rfl) aq
 | true =>
  rw [pR];unfold xc at aq;simp only [dS] at aq;obtain ⟨⟨⟨⟨su, sv⟩, jf⟩, je⟩, adV⟩ := aq;have CV := ss.1 su;have CW := ss.1 sv;have M9 := BP.1 jf;have cw := BP.1 je;unfold c7 s0;have o1 := Dc (u := 2 * a1 - l1) (v := 2 * b1 - l1) (w := !decide (k = 2)) Kd (by omega) (by omega);have o2 := Dc (u := 2 * a2 - l2) (v := 2 * b2 - l2) (w := !decide (k = 2)) o1 (by omega) (by omega);have OT := Dc (u := h1 - 2 * a1) (v := h1 - 2 * b1) (w := decide (k = 1)) o2 (by omega) (by omega);have abw := Dc (u := h2 - 2 * a2) (v := h2 - 2 * b2) (w := decide (k = 1)) OT (by omega) (by omega);exact ab7 (oG su) (oG sv) (DP jf) (DP je) (Pp adV) rfl rfl acn (acB CV.1 CW.1 M9.1 (DQ Kd (by omega) (by omega))) (acA CV.2 CW.2 M9.2 (DQ o1 (by omega) (by omega))) (acC CV.1 CW.1 cw.1 (DQ o2 (by omega) (by omega))) (acz CV.2 CW.2 cw.2 (DQ OT (by omega) (by omega))) (acI abw)
theorem Pg {a1 a2 b1 b2 x y k : Int} {cQ dN : Bool} (oY : aR ai 88 [aT k] (bE cQ)) (xM : aR ai 77 [bh x y, aT k] (bE dN)) (h : (cQ && dN) = false) : aR ai 178 [bh a1 a2, bh b1 b2, bh x y, aT k] (bE false) := by
 have cs : cQ = false ∨ (cQ = true ∧ dN = false) := by cases cQ <;> cases dN <;> simp_all
 clear h;rcases cs with rfl | ⟨rfl, rfl⟩
 all_goals
  refine cc (f := 178) Tryz.func178 rfl rfl rfl rfl ?_;(repeat first | (with_reducible apply aA); exact rfl | refine eO rfl rfl rfl (by (exact oY)) rfl ?_ | refine dI rfl rfl rfl rfl (by (exact xM)) rfl ?_ | (with_reducible first | apply bN | apply bH | apply bL | apply aB | apply b6 | apply fC) | (with_reducible apply h8); exact rfl)
  ((refine bR rfl (bC rfl bf) ?_))
  exact aj.bp.refl _
theorem ab2 {a1 a2 b1 b2 x y k l1 l2 h1 h2 : Int} {r : Bool} (oY : aR ai 88 [aT k] (bE true)) (xM : aR ai 77 [bh x y, aT k] (bE true)) (RS : aR ai 225 [bh x y, aT k] (.cZ [.agg [.c (.int .i64 l1), .c (.int .i64 l2)], .agg [.c (.int .i64 h1), .c (.int .i64 h2)]])) (M : aR ai 226 [bh a1 a2, bh b1 b2, bh l1 l2, bh h1 h2, aT 0] (bE r)) : aR ai 178 [bh a1 a2, bh b1 b2, bh x y, aT k] (bE r) := by
 refine cc (f := 178) Tryz.func178 rfl rfl rfl rfl ?_;(repeat first | (with_reducible apply aA); exact rfl | refine eO rfl rfl rfl (by (exact oY)) rfl ?_ | refine dI rfl rfl rfl rfl (by (first | exact xM | exact RS)) rfl ?_ | refine S5 rfl rfl rfl rfl rfl rfl rfl (by (exact M)) rfl ?_ | (with_reducible first | apply bN | apply bH | apply bL | apply aB | apply b6 | apply eR) | (with_reducible apply hA); exact rfl)
 ((refine bR rfl (bC rfl bf) ?_))
 exact aj.bp.refl _
def wU (a1 a2 b1 b2 x y k : Int) : Bool := decide (0 ≤ k) && decide (k ≤ 28) && eS k.toNat x y && xb a1 a2 b1 b2 (2 * (2 ^ k.toNat * x) - 2 ^ k.toNat) (2 * (2 ^ k.toNat * y) - 2 ^ k.toNat) (2 * (2 ^ k.toNat * x) + 2 ^ k.toNat) (2 * (2 ^ k.toNat * y) + 2 ^ k.toNat) 0
theorem Zb {k : Int} (h : (decide (0 ≤ k) && decide (k ≤ 28)) = true) : gB k k.toNat := by
 simp only [dS, cE] at h;unfold gB;omega
theorem ab1 {a1 a2 b1 b2 x y k : Int} : aR ai 178 [bh a1 a2, bh b1 b2, bh x y, aT k] (bE (wU a1 a2 b1 b2 x y k)) := by
 unfold wU;have oY := acH (k := k);cases af : (decide (0 ≤ k) && decide (k ≤ 28)) with
 | false =>
  rw [af] at oY;obtain ⟨r, aq⟩ := Za k;exact Pg oY (zU aq rfl) rfl
 | true =>
  rw [af] at oY;have aq := Zb af;cases hi : eS k.toNat x y with
  | false => exact Pg oY (zU aq hi) rfl
  | true => exact ab2 oY (zU aq hi) (aci aq hi) ab6
end Go.Proofs.YtpochbhajmbfdaaGreat
namespace Go.Proofs.YtpochbhajmbfdaaGreat
def Jy (a1 a2 b1 b2 l1 l2 h1 h2 k : Int) : Prop := Met (2 * a1 - l1) (2 * b1 - l1) (2 * a2 - l2) (2 * b2 - l2) (h1 - 2 * a1) (h1 - 2 * b1) (h2 - 2 * a2) (h2 - 2 * b2) (!decide (k = 2)) (decide (k = 1))
theorem HR {a1 a2 b1 b2 l1 l2 h1 h2 k : Int} : xb a1 a2 b1 b2 l1 l2 h1 h2 k = true ↔ xc a1 a2 b1 b2 l1 l2 h1 h2 k = true ∧ Jy a1 a2 b1 b2 l1 l2 h1 h2 k := by
 unfold xb c7 Jy;rw [dS, UA]
theorem aaz {a1 a2 b1 b2 l1 l2 h1 h2 k : Int} : xc a1 a2 b1 b2 l1 l2 h1 h2 k = true ↔ cy a1 a2 = true ∧ cy b1 b2 = true ∧ sY l1 l2 = true ∧ sY h1 h2 = true ∧ C8 k = true := by
 unfold xc;simp only [dS, and_assoc]
end Go.Proofs.YtpochbhajmbfdaaGreat
namespace Go.Proofs.YtpochbhajmbfdaaGreat
open Go.ChangeShapes Go.WideShapes Go.ChangeAt Go.RowKit Go.Joins
theorem abO : ownKnob ai.godebug = none := by kernel_rfl
def wD (P : Program) : Nat → TypeId → Bool
 | 0, _ => false
 | d + 1, t => match P.underlying t with
  | some .bool | some (.int _) | some .string => true
  | some (.struct bm) => bm.toList.all fun f => wD P d f.type
  | some (.array _ e) => wD P d e
  | _ => false
theorem mapM_flat {α β : Type} {f g : α → Option (β × List MemPlace)} : ∀ (l : List α) (xs : List (β × List MemPlace)), l.mapM f = some xs → (∀ a ∈ l, ∀ x, f a = some x → x.2 = [] ∧ g a = some (x.1, [])) → xs.flatMap (·.2) = [] ∧ l.mapM g = some xs
 | [], xs, h, _ => by cases h; exact ⟨rfl, rfl⟩
 | a :: l, xs, h, af => by
  rw [List.mapM_cons] at h;cases aK : f a with
  | none => rw [aK] at h; cases h
  | some b =>
   rw [aK] at h;cases ao : l.mapM f with
   | none => rw [ao] at h; cases h
   | some bs =>
    rw [ao] at h;cases h;obtain ⟨h1, h2⟩ := af a (by simp) b aK;obtain ⟨ap, aL⟩ := mapM_flat l bs ao fun a' pu => af a' (by simp [pu]);refine ⟨by simp [h1]; intro a' bO mK; have := List.flatMap_eq_nil_iff.1 ap _ mK; exact this, ?_⟩;rw [List.mapM_cons, h2, aL];obtain ⟨b1, b2⟩ := b;simp only at h1;subst h1;rfl
section
variable {H : Type} {enc : TypeId × Value → H} {P : Program}
theorem LN : ∀ (d : Nat) (t : TypeId), wD P d t = true → ∀ (ff : Nat) (w : World) (base : Nat) (sp : Nat → Bool) (held : Bool) (cs : List Value) (x : DataW H × List MemPlace), DataW.trod enc P w base sp held ff t cs = some x →
  x.2 = [] ∧ ∀ (w' : World) (o8 : Nat) (pV : Nat → Bool) (px : Bool), DataW.trod enc P w' o8 pV px ff t cs = some (x.1, [])
 | 0, _, h, _, _, _, _, _, _, _, _ => by cases h
 | d + 1, t, ar, 0, _, _, _, _, _, _, h => by simp [DataW.trod] at h
 | d + 1, t, ar, ff + 1, w, base, sp, held, cs, x, h => by
  have cw := fun nR (Yx : wD P d nR = true) => LN d nR Yx ff;rw [DataW.trod_step] at h;simp only [DataW.trod_step];unfold wD at ar;unfold DataW.trodStep at h ⊢;cases hu : P.underlying t with
  | none => rw [hu] at ar; cases ar
  | some D =>
   rw [hu] at ar h;cases D with
   | bool =>
    match cs, h with
    | [.bool b], h => cases h; exact ⟨rfl, fun _ _ _ _ => rfl⟩
   | int k =>
    match cs, h with
    | [.int k' n], h =>
     simp only at h ⊢
     split at h
     ·rename_i ak; cases h; exact ⟨rfl, fun _ _ _ _ => by rw [if_pos ak]⟩
     ·cases h
   | string =>
    match cs, h with
    | [.string s], h =>
     simp only at h ⊢
     split at h
     ·rename_i ak; cases h; exact ⟨rfl, fun _ _ _ _ => by rw [if_pos ak]⟩
     ·cases h
   | struct bm =>
    simp only at h ⊢ ar
    split at h
    ·rename_i ak;simp only [Option.map_eq_some_iff] at h;obtain ⟨xs, aa, rfl⟩ := h;have dc := ct.1 ar;refine ⟨?_, fun w' o8 pV px => ?_⟩
     ·exact (mapM_flat (g := fun f => DataW.trod enc P w base sp held ff f.type ((cs.drop f.offset).take (P.cellsOf f.type))) _ _ aa fun f lM y ah => ⟨(cw f.type (dc f lM) w base sp held _ y ah).1, (cw f.type (dc f lM) w base sp held _ y ah).2 w base sp held⟩).1
     ·have := mapM_flat (g := fun f => DataW.trod enc P w' o8 pV px ff f.type ((cs.drop f.offset).take (P.cellsOf f.type))) _ _ aa fun f lM y ah => ⟨(cw f.type (dc f lM) w base sp held _ y ah).1, (cw f.type (dc f lM) w base sp held _ y ah).2 w' o8 pV px⟩;rw [if_pos ak, this.2];simp only [gL, this.1]
    ·cases h
   | array n e =>
    simp only at h ⊢ ar
    split at h
    ·rename_i ak;simp only [Option.map_eq_some_iff] at h;obtain ⟨xs, aa, rfl⟩ := h;refine ⟨?_, fun w' o8 pV px => ?_⟩
     ·exact (mapM_flat (g := fun i => DataW.trod enc P w base sp held ff e ((cs.drop (i * P.cellsOf e)).take (P.cellsOf e))) _ _ aa fun f _ y ah => ⟨(cw e ar w base sp held _ y ah).1, (cw e ar w base sp held _ y ah).2 w base sp held⟩).1
     ·have := mapM_flat (g := fun i => DataW.trod enc P w' o8 pV px ff e ((cs.drop (i * P.cellsOf e)).take (P.cellsOf e))) _ _ aa fun f _ y ah => ⟨(cw e ar w base sp held _ y ah).1, (cw e ar w base sp held _ y ah).2 w' o8 pV px⟩;rw [if_pos ak, this.2];simp only [gL, this.1]
    ·cases h
   | _ => cases ar
theorem LK {d : Nat} {t : TypeId} (ar : wD P d t = true) {w : World} {base : Nat} {sp : Nat → Bool} {held : Bool} {v : Value} {D : DataW H} {p : List MemPlace} (h : DataW.Trod enc P w base sp held t v D p) :
  p = [] ∧ ∀ (w' : World) (o8 : Nat) (pV : Nat → Bool) (px : Bool), DataW.Trod enc P w' o8 pV px t v D [] := by
 obtain ⟨ff, h⟩ := h;obtain ⟨h1, h2⟩ := LN d t ar ff w base sp held _ _ h;exact ⟨h1, fun w' o8 pV px => ⟨ff, h2 w' o8 pV px⟩⟩
end
section
variable {P : Program} {W : World} {r : Reach} {b : Nat} {t : TypeId} {v : Value}
theorem O1 {k : IntKind} (hu : P.underlying t = some (.int k)) (h : Cell.okWide P W r b t v) : ∃ n, v = .int k n ∧ k.min ≤ n ∧ n ≤ k.max := by
 unfold Cell.okWide Cell.ok at h;rw [hu] at h;cases v <;> simp only at h;rename_i k' n;obtain ⟨rfl, h⟩ := h;exact ⟨n, rfl, by simpa [IntKind.has] using h⟩
theorem O2 {D : TypeDesc} (hu : P.underlying t = some D) (hs : ∀ bm, D ≠ .struct bm) (aK : ∀ n e, D ≠ .array n e) (h : Value.okWide P W r b t v) : Cell.okWide P W r b t v := by
 unfold Value.okWide at h;rw [hu] at h;cases D <;> first | exact h | exact absurd rfl (hs _) | exact absurd rfl (aK _ _)
end
end Go.Proofs.YtpochbhajmbfdaaGreat
namespace Go.Proofs.YtpochbhajmbfdaaGreat
open Go.RowKit
theorem Wy {P v : Int} (fa : 0 < P) : 2 * ((2 * v + P) / (2 * P) * P) ≤ 2 * v + P ∧ 2 * v + P < 2 * ((2 * v + P) / (2 * P) * P) + 2 * P := by
 have h1 := sn (2 * v + P) (2 * P);have h2 := oQ (2 * v + P) (show 2 * P ≠ 0 by omega);have ap := nN (2 * v + P) (show 0 < 2 * P by omega);have e : 2 * P * ((2 * v + P) / (2 * P)) = 2 * ((2 * v + P) / (2 * P) * P) := by rw [kV, jG P]
 omega
theorem GK {a1 a2 b1 b2 q1 q2 : Int} {r : Nat} (aq : r ≤ 28) : wU a1 a2 b1 b2 q1 q2 r = true ↔ eS r q1 q2 = true ∧ xb a1 a2 b1 b2 (2 * (2 ^ r * q1) - 2 ^ r) (2 * (2 ^ r * q2) - 2 ^ r) (2 * (2 ^ r * q1) + 2 ^ r) (2 * (2 ^ r * q2) + 2 ^ r) 0 = true := by
 unfold wU;have g1 : decide ((0 : Int) ≤ (r : Int)) = true := bG (by omega);have g2 : decide ((r : Int) ≤ 28) = true := bG (by omega);rw [g1, g2, ks, Bool.and_self, pR, dS]
def qD (a1 a2 b1 b2 k : Int) (p : an) : Bool := wU a1 a2 b1 b2 p.1 p.2 k
end Go.Proofs.YtpochbhajmbfdaaGreat
namespace Go.Proofs.YtpochbhajmbfdaaGreat
def sc (a b x yC t : Rat) : Prop := -yC ≤ 2 * a + t * (2 * (b - a)) - x ∧ 2 * a + t * (2 * (b - a)) - x ≤ yC
def mR (S p q x u : Rat) : Prop := 2 * (S * x) - S ≤ 2 * (S * p + u * (S * q - S * p)) ∧ 2 * (S * p + u * (S * q - S * p)) < 2 * (S * x) + S
theorem ON {a b p q x S d t1 t2 u : Rat} (h1 : sc a b (2 * (S * p)) (d * S) t1) (h2 : sc a b (2 * (S * q)) (d * S) t2) (j6 : 0 ≤ u) (cG : u ≤ 1) (hm : mR S p q x u) : sc a b (2 * (S * x)) ((d + 1) * S) (t1 + u * (t2 - t1)) := by
 obtain ⟨a1, a2⟩ := h1;obtain ⟨b1, b2⟩ := h2;obtain ⟨m1, m2⟩ := hm;have v0 : 0 ≤ 1 - u := by grind
 have bB := j4 v0 (show 0 ≤ 2 * a + t1 * (2 * (b - a)) - 2 * (S * p) + d * S by grind);have cf := j4 v0 (show 0 ≤ d * S - (2 * a + t1 * (2 * (b - a)) - 2 * (S * p)) by grind);have hE := j4 j6 (show 0 ≤ 2 * a + t2 * (2 * (b - a)) - 2 * (S * q) + d * S by grind);have jb := j4 j6 (show 0 ≤ d * S - (2 * a + t2 * (2 * (b - a)) - 2 * (S * q)) by grind)
 constructor
 ·grind
 ·grind
theorem OO {a b x f g t : Rat} (wQ : f ≤ g) (h : sc a b x f t) : sc a b x g t := by
 obtain ⟨h1, h2⟩ := h
 constructor <;> grind
abbrev bq (n : Int) : Rat := (n : Rat)
def xi (a1 a2 b1 b2 S : Int) (yC t : Rat) (v : an) : Prop := sc (bq a1) (bq b1) (2 * (bq S * bq v.1)) yC t ∧ sc (bq a2) (bq b2) (2 * (bq S * bq v.2)) yC t
def p9 (S : Int) (p q : an) (u : Rat) (x : an) : Prop := (0 ≤ u ∧ u ≤ 1) ∧ mR (bq S) (bq p.1) (bq q.1) (bq x.1) u ∧ mR (bq S) (bq p.2) (bq q.2) (bq x.2) u
theorem abn {a1 a2 b1 b2 S : Int} {d t1 t2 u : Rat} {p q x : an} (h1 : xi a1 a2 b1 b2 S (d * bq S) t1 p) (h2 : xi a1 a2 b1 b2 S (d * bq S) t2 q) (hm : p9 S p q u x) : xi a1 a2 b1 b2 S ((d + 1) * bq S) (t1 + u * (t2 - t1)) x :=
 ⟨ON h1.1 h2.1 hm.1.1 hm.1.2 hm.2.1, ON h1.2 h2.2 hm.1.1 hm.1.2 hm.2.2⟩
theorem abo {a1 a2 b1 b2 S : Int} {f g t : Rat} {v : an} (wQ : f ≤ g) (h : xi a1 a2 b1 b2 S f t v) : xi a1 a2 b1 b2 S g t v := ⟨OO wQ h.1, OO wQ h.2⟩
theorem qP {a b : Int} : bq a ≤ bq b ↔ a ≤ b := Rat.intCast_le_intCast
theorem IB {a b : Int} : bq a < bq b ↔ a < b := Rat.intCast_lt_intCast
theorem pS {a : Int} (h : 0 < a) : 0 < bq a := by have := IB.2 h; simpa [bq] using this
theorem D3 {a b : Int} (h : a < b) : bq a + 1 ≤ bq b := by
 have := qP.2 (show a + 1 ≤ b from h);simpa [bq, sr] using this
theorem Oj {S p q x y : Int} {u w : Rat} (hS : 0 < S) (aa : mR (bq S) (bq p) (bq q) (bq x) u) (ah : mR (bq S) (bq p) (bq q) (bq y) w) (kN : x < y) (hU : p ≤ q) : u ≤ w := by
 have en := pS hS;obtain ⟨c5, dt⟩ := aa;obtain ⟨lz, q0⟩ := ah;have h1 := D3 kN;have h2 := qP.2 hU;have bB := j4 (Rat.le_of_lt en) (show 0 ≤ bq y - (bq x + 1) by grind);refine Rat.not_lt.1 fun YI => ?_;have cf := j4 (show 0 ≤ u - w by grind) (j4 (Rat.le_of_lt en) (show 0 ≤ bq q - bq p by grind));grind
theorem Oi {S p q x y : Int} {u w : Rat} (hS : 0 < S) (aa : mR (bq S) (bq p) (bq q) (bq x) u) (ah : mR (bq S) (bq p) (bq q) (bq y) w) (kN : y < x) (hU : q ≤ p) : u ≤ w := by
 have en := pS hS;obtain ⟨c5, dt⟩ := aa;obtain ⟨lz, q0⟩ := ah;have h1 := D3 kN;have h2 := qP.2 hU;have bB := j4 (Rat.le_of_lt en) (show 0 ≤ bq x - (bq y + 1) by grind);refine Rat.not_lt.1 fun YI => ?_;have cf := j4 (show 0 ≤ u - w by grind) (j4 (Rat.le_of_lt en) (show 0 ≤ bq p - bq q by grind));grind
theorem Ds {S p q x y : Int} {u w : Rat} (hS : 0 < S) (aa : mR (bq S) (bq p) (bq q) (bq x) u) (ah : mR (bq S) (bq p) (bq q) (bq y) w) (rV : u ≤ w) (hU : p ≤ q) : x ≤ y := by
 have en := pS hS;obtain ⟨c5, dt⟩ := aa;obtain ⟨lz, q0⟩ := ah;refine Int.not_lt.1 fun Hp => ?_;have h1 := D3 Hp;have h2 := qP.2 hU;have bB := j4 (Rat.le_of_lt en) (show 0 ≤ bq x - (bq y + 1) by grind);have cf := j4 (show 0 ≤ w - u by grind) (j4 (Rat.le_of_lt en) (show 0 ≤ bq q - bq p by grind));grind
theorem Dr {S p q x y : Int} {u w : Rat} (hS : 0 < S) (aa : mR (bq S) (bq p) (bq q) (bq x) u) (ah : mR (bq S) (bq p) (bq q) (bq y) w) (rV : u ≤ w) (hU : q ≤ p) : y ≤ x := by
 have en := pS hS;obtain ⟨c5, dt⟩ := aa;obtain ⟨lz, q0⟩ := ah;refine Int.not_lt.1 fun Hp => ?_;have h1 := D3 Hp;have h2 := qP.2 hU;have bB := j4 (Rat.le_of_lt en) (show 0 ≤ bq y - (bq x + 1) by grind);have cf := j4 (show 0 ≤ w - u by grind) (j4 (Rat.le_of_lt en) (show 0 ≤ bq p - bq q by grind));grind
theorem Og {S p q : Int} (hS : 0 < S) : mR (bq S) (bq p) (bq q) (bq p) 0 := by
 have en := pS hS
 constructor <;> grind
theorem Oh {S p q : Int} (hS : 0 < S) : mR (bq S) (bq p) (bq q) (bq q) 1 := by
 have en := pS hS
 constructor <;> grind
theorem Dq {S p q x : Int} {u : Rat} (hS : 0 < S) (aH : 0 ≤ u) (h1 : u ≤ 1) (aa : mR (bq S) (bq p) (bq q) (bq x) u) : (p ≤ q → p ≤ x ∧ x ≤ q) ∧ (q ≤ p → q ≤ x ∧ x ≤ p) :=
 ⟨fun h => ⟨Ds hS (Og hS) aa aH h, Ds hS aa (Oh hS) h1 h⟩, fun h => ⟨Dr hS aa (Oh hS) h1 h, Dr hS (Og hS) aa aH h⟩⟩
theorem Oa {S : Int} {p q x y : an} {u w : Rat} (hS : 0 < S) (aa : p9 S p q u x) (ah : p9 S p q w y) (h : dB (decide (S * q.1 < S * p.1)) (decide (S * q.2 < S * p.2)) x y = true) : u ≤ w := by
 have aI : (S * q.1 < S * p.1) ↔ q.1 < p.1 := ⟨fun h => Int.lt_of_mul_lt_mul_left h (by omega), fun h => Int.mul_lt_mul_of_pos_left h hS⟩;have aO : (S * q.2 < S * p.2) ↔ q.2 < p.2 := ⟨fun h => Int.lt_of_mul_lt_mul_left h (by omega), fun h => Int.mul_lt_mul_of_pos_left h hS⟩;rw [x4] at h;simp only [cE, aI, aO] at h;rcases h with h | ⟨he, h⟩
 ·by_cases g : q.1 < p.1
  ·rw [if_pos g] at h; exact Oi hS aa.2.1 ah.2.1 h (by omega)
  ·rw [if_neg g] at h; exact Oj hS aa.2.1 ah.2.1 h (by omega)
 ·by_cases g : q.2 < p.2
  ·rw [if_pos g] at h; exact Oi hS aa.2.2 ah.2.2 h (by omega)
  ·rw [if_neg g] at h; exact Oj hS aa.2.2 ah.2.2 h (by omega)
theorem X8 {a b l n d u : Rat} (d0 : 0 < d) (hu : u * d = n) (h : 0 ≤ (2 * a - l) * (d - n) + (2 * b - l) * n) : l ≤ 2 * (a + u * (b - a)) := by
 subst hu;refine Rat.not_lt.1 fun bj => ?_;have k := Rat.mul_pos d0 (show 0 < l - 2 * (a + u * (b - a)) by grind);grind
theorem X9 {a b l n d u : Rat} (d0 : 0 < d) (hu : u * d = n) (h : 0 < (l - 2 * a) * (d - n) + (l - 2 * b) * n) : 2 * (a + u * (b - a)) < l := by
 subst hu;refine Rat.not_le.1 fun bj => ?_;have k := j4 (Rat.le_of_lt d0) (show 0 ≤ 2 * (a + u * (b - a)) - l by grind);grind
theorem D2 {n d : Int} (hd : 0 < d) : bq n / bq d * bq d = bq n := Rat.div_mul_cancel (by have := pS hd; grind)
theorem MG {a b l : Int} {n d : Int} (hd : 0 < d) (h : jm (2 * a - l) (2 * b - l) true n d) : bq l ≤ 2 * (bq a + bq n / bq d * (bq b - bq a)) := by
 have h1 : 0 ≤ (2 * a - l) * (d - n) + (2 * b - l) * n := by rcases h with h | ⟨_, h⟩ <;> omega
 refine X8 (pS hd) (D2 hd) ?_;have := qP.2 h1;simpa [bq, sr, Rat.intCast_mul, Rat.intCast_sub] using this
theorem MH {a b l : Int} {n d : Int} (hd : 0 < d) (h : jm (l - 2 * a) (l - 2 * b) false n d) : 2 * (bq a + bq n / bq d * (bq b - bq a)) < bq l := by
 have h1 : 0 < (l - 2 * a) * (d - n) + (l - 2 * b) * n := by
  rcases h with h | ⟨h, _⟩
  ·exact h
  ·cases h
 refine X9 (pS hd) (D2 hd) ?_;have := IB.2 h1;simpa [bq, sr, Rat.intCast_mul, Rat.intCast_sub] using this
theorem aaI {r : Nat} (aq : r ≤ 28) {p q x : an} (h : qD (2 ^ r * p.1) (2 ^ r * p.2) (2 ^ r * q.1) (2 ^ r * q.2) r x = true) : eS r x.1 x.2 = true ∧ ∃ u, p9 (2 ^ r) p q u x := by
 unfold qD at h;rw [GK aq] at h;refine ⟨h.1, ?_⟩;obtain ⟨_, n, d, hd, ⟨y1, u1⟩, g1, g2, g3, g4⟩ := HR.1 h.2;have d0 := pS hd;refine ⟨bq n / bq d, ⟨?_, ?_⟩, ⟨?_, ?_⟩, ?_, ?_⟩
 ·refine Rat.not_lt.1 fun bj => ?_;have k := Rat.mul_pos d0 (show 0 < -(bq n / bq d) by grind);have e := D2 (n := n) hd;have mn := qP.2 y1;have z : bq 0 = 0 := by simp [bq]
  rw [z] at mn;generalize bq n / bq d = u at *;grind
 ·refine Rat.not_lt.1 fun bj => ?_;have k := Rat.mul_pos d0 (show 0 < bq n / bq d - 1 by grind);have e := D2 (n := n) hd;have ig := qP.2 u1;generalize bq n / bq d = u at *;grind
 ·have := MG hd g1;simpa [bq, sr, Rat.intCast_mul, Rat.intCast_sub] using this
 ·have := MH hd g3;simpa [bq, sr, Rat.intCast_mul, Rat.intCast_sub] using this
 ·have := MG hd g2;simpa [bq, sr, Rat.intCast_mul, Rat.intCast_sub] using this
 ·have := MH hd g4;simpa [bq, sr, Rat.intCast_mul, Rat.intCast_sub] using this
def pg (p q : an) (out : List an) (x : an) : List an := if x ≠ p ∧ x ≠ q ∧ out.getLast? ≠ some x then out ++ [x] else out
def La (p q : an) (l : List an) : List an := l.foldl (pg p q) []
theorem Nh {fx fy : Bool} {q : an} : ∀ {l : List an}, l.Pairwise (fun a b => dB fx fy b a = false) → (lQ fx fy q l).Pairwise fun a b => dB fx fy b a = false
 | [], _ => by unfold lQ; simp
 | p :: l, h => by
  have ak := iR.1 h;unfold lQ
  split
  ·rename_i al;refine iR.2 ⟨fun r aq => ?_, h⟩;rcases gM.1 aq with rfl | aq
   ·exact Kb al
   ·cases a6 : dB fx fy r q with
    | false => rfl
    | true => have := ak.1 r aq; rw [x5 a6 al] at this; cases this
  ·rename_i al;refine iR.2 ⟨fun r aq => ?_, Nh ak.2⟩;rcases gM.1 ((zq fx fy q l).mem_iff.1 aq) with rfl | aq
   ·simpa using al
   ·exact ak.1 r aq
theorem aeU (fx fy : Bool) (f : an → Bool) (l : List an) : (qV fx fy f l).Pairwise fun a b => dB fx fy b a = false := by
 have key : ∀ (l out : List an), out.Pairwise (fun a b => dB fx fy b a = false) → (l.foldl (fun out q => if f q then lQ fx fy q out else out) out).Pairwise fun a b => dB fx fy b a = false := by
  intro l
  induction l with
  | nil => intro out h; exact h
  | cons q l cw =>
   intro out h;rw [List.foldl_cons];refine cw _ ?_
   split
   ·exact Nh h
   ·exact h
 exact key l [] .nil
theorem FK {fx fy : Bool} {p q : an} : ∀ (l out : List an), jM fx fy out → (∀ a ∈ out, ∀ b ∈ l, dB fx fy b a = false) → l.Pairwise (fun a b => dB fx fy b a = false) → jM fx fy (l.foldl (pg p q) out) ∧ (∀ x ∈ l.foldl (pg p q) out, x ∈ out ∨ (x ∈ l ∧ x ≠ p ∧ x ≠ q)) ∧ (l.foldl (pg p q) out).length ≤ out.length + l.length
 | [], out, h, _, _ => ⟨h, fun x aa => .inl aa, dW _⟩
 | x :: l, out, h, hw, ao => by
  have ak := iR.1 ao;rw [List.foldl_cons]
  by_cases aa : x ≠ p ∧ x ≠ q ∧ out.getLast? ≠ some x
  ·have e : pg p q out x = out ++ [x] := by unfold pg; rw [if_pos aa]
   rw [e]
   have aK : jM fx fy (out ++ [x]) := by
    unfold jM;rw [List.pairwise_append];refine ⟨h, List.pairwise_singleton _ _, fun a aK b ab => ?_⟩;rw [lW] at ab;subst ab;have h1 := hw a aK b (lq ..)
    by_cases mK : a = b
    ·subst mK;rcases List.eq_nil_or_concat out with aH | ⟨fz, z, aH⟩
     ·subst aH; cases aK
     ·rw [List.concat_eq_append] at aH;subst aH;have aZ : z ≠ a := fun a6 => aa.2.2 (by rw [a6]; simp)
      have pu : a ∈ fz := by
       rcases kT.1 aK with aF | aF
       ·exact aF
       ·exact absurd (lW.1 aF).symm aZ
      have h2 := (List.pairwise_append.1 h).2.2 a pu z (lW.2 rfl);have ap := hw z (by simp) a (lq ..);rw [h2] at ap; cases ap
    ·exact (Fe mK).resolve_right (by rw [h1]; decide)
   obtain ⟨g1, g2, g3⟩ := FK l (out ++ [x]) aK (fun a pu b ab => by
    rcases kT.1 pu with aF | aF
    ·exact hw a aF b (pI _ ab)
    ·rw [lW.1 aF]; exact ak.1 b ab) ak.2
   refine ⟨g1, fun y ah => ?_, by rw [cS, List.length_singleton] at g3; simp only [lr]; omega⟩;rcases g2 y ah with aF | aF
   ·rcases kT.1 aF with aF | aF
    ·exact .inl aF
    ·rw [lW.1 aF]; exact .inr ⟨lq .., aa.1, aa.2.1⟩
   ·exact .inr ⟨pI _ aF.1, aF.2⟩
  ·have e : pg p q out x = out := by unfold pg; rw [if_neg aa]
   rw [e];obtain ⟨g1, g2, g3⟩ := FK l out h (fun a pu b ab => hw a pu b (pI _ ab)) ak.2;refine ⟨g1, fun y ah => ?_, by simp only [lr]; omega⟩;rcases g2 y ah with aF | aF
   ·exact .inl aF
   ·exact .inr ⟨pI _ aF.1, aF.2⟩
def rs (r : Nat) (l : List an) (p q : an) : List an := La p q (qV (decide ((2 : Int) ^ r * q.1 < 2 ^ r * p.1)) (decide ((2 : Int) ^ r * q.2 < 2 ^ r * p.2)) (qD (2 ^ r * p.1) (2 ^ r * p.2) (2 ^ r * q.1) (2 ^ r * q.2) r) l)
theorem Bx {r : Nat} (aq : r ≤ 28) (l : List an) (p q : an) : jM (decide ((2 : Int) ^ r * q.1 < 2 ^ r * p.1)) (decide ((2 : Int) ^ r * q.2 < 2 ^ r * p.2)) (rs r l p q) ∧ (∀ x ∈ rs r l p q, (x ≠ p ∧ x ≠ q) ∧ eS r x.1 x.2 = true ∧ ∃ u, p9 (2 ^ r) p q u x) ∧ (rs r l p q).length ≤ l.length := by
 obtain ⟨g1, g2, g3⟩ := FK (p := p) (q := q) _ [] (List.Pairwise.nil : jM (decide ((2 : Int) ^ r * q.1 < 2 ^ r * p.1)) (decide ((2 : Int) ^ r * q.2 < 2 ^ r * p.2)) []) (fun a aK => by cases aK) (aeU _ _ (qD (2 ^ r * p.1) (2 ^ r * p.2) (2 ^ r * q.1) (2 ^ r * q.2) r) l);refine ⟨g1, fun x aa => ?_, ?_⟩
 ·rcases g2 x aa with h | ⟨h1, h2⟩
  ·cases h
  ·have ap := (List.mem_filter.1 ((En _ _ _ l).mem_iff.1 h1)).2;exact ⟨h2, aaI aq ap⟩
 ·refine kS g3 ?_;rw [List.length_nil, jH];exact aeT _ _ _ l
def hQ (R : an → an → Prop) : List an → Prop
 | p :: q :: W => R p q ∧ hQ R (q :: W)
 | _ => True
theorem FE {R : an → an → Prop} : ∀ {l : List an}, l.Pairwise R → hQ R l
 | [], _ => trivial
 | [_], _ => trivial
 | p :: q :: W, h => by
  have ak := iR.1 h;exact ⟨ak.1 q (lq ..), FE ak.2⟩
theorem FD {R : an → an → Prop} {q : an} {W : List an} : ∀ {A : List an}, hQ R (A ++ [q]) → hQ R (q :: W) → hQ R (A ++ q :: W)
 | [], _, h => h
 | [a], h, aF => ⟨h.1, aF⟩
 | a :: b :: A, h, aF => ⟨h.1, FD (A := b :: A) h.2 aF⟩
theorem Bz {r : Nat} (aq : r ≤ 28) (l : List an) (p q : an) {R : an → an → Prop} (aH : R p q) (h1 : ∀ x, (∃ u, p9 (2 ^ r) p q u x) → R p x ∧ R x q) (h2 : ∀ x y u w, p9 (2 ^ r) p q u x → p9 (2 ^ r) p q w y → u ≤ w → R x y) : hQ R (p :: (rs r l p q ++ [q])) := by
 obtain ⟨s1, s2, _⟩ := Bx aq l p q;have hS : (0 : Int) < 2 ^ r := jI (by decide);refine FE (iR.2 ⟨fun x aa => ?_, List.pairwise_append.2 ⟨s1.imp_of_mem fun {x y} aa ah kN => ?_, List.pairwise_singleton _ _, fun x aa y ah => ?_⟩⟩)
 ·rcases kT.1 aa with aa | aa
  ·exact (h1 x (s2 x aa).2.2).1
  ·rw [lW.1 aa]; exact aH
 ·obtain ⟨u, hu⟩ := (s2 x aa).2.2;obtain ⟨w, hw⟩ := (s2 y ah).2.2;exact h2 x y u w hu hw (Oa hS hu hw kN)
 ·rw [lW.1 ah]; exact (h1 x (s2 x aa).2.2).2
theorem TH {r : Nat} (aq : r ≤ 28) (l : List an) (p q : an) (h : p ≠ q) : hQ (· ≠ ·) (p :: (rs r l p q ++ [q])) := by
 obtain ⟨s1, s2, _⟩ := Bx aq l p q;refine FE (iR.2 ⟨fun x aa => ?_, List.pairwise_append.2 ⟨s1.imp fun {x y} kN e => ?_, List.pairwise_singleton _ _, fun x aa y ah => ?_⟩⟩)
 ·rcases kT.1 aa with aa | aa
  ·exact fun e => (s2 x aa).1.1 e.symm
  ·rw [lW.1 aa]; exact h
 ·subst e; rw [Kc] at kN; cases kN
 ·rw [lW.1 ah]; exact (s2 x aa).1.2
def Eo (V : List an) (j : Nat) (l : List an) : List an := V.take (j + 1) ++ l ++ V.drop (j + 1)
def Ao (D : List Int) (j : Nat) (n : Nat) : List Int := D.take j ++ List.replicate (n + 1) (D.getD j 0 + 1) ++ D.drop (j + 1)
theorem Vd {V : List an} {j : Nat} {p q : an} (hp : V[j]? = some p) (al : V[j + 1]? = some q) : V.drop j = p :: q :: V.drop (j + 2) := by
 obtain ⟨h1, aI⟩ := bX.1 hp;obtain ⟨h2, aO⟩ := bX.1 al;rw [mV h1, aI, mV h2, aO]
end Go.Proofs.YtpochbhajmbfdaaGreat
namespace Go.Proofs.YtpochbhajmbfdaaGreat
open Go.RowKit
def oI (a b c d : Int) : Int := if dP a b c d = true then 0 else if a < c ∨ (a = c ∧ b < d) then -1 else 1
theorem acU {a b c d : Int} : aR ai 242 [bh a b, bh c d] (aT (oI a b c d)) := by
 have cs : (dP a b c d = true ∧ oI a b c d = 0) ∨ (dP a b c d = false ∧ a < c ∧ oI a b c d = -1) ∨ (dP a b c d = false ∧ ¬ a < c ∧ a = c ∧ b < d ∧ oI a b c d = -1) ∨ (dP a b c d = false ∧ ¬ a < c ∧ a = c ∧ ¬ b < d ∧ oI a b c d = 1) ∨ (dP a b c d = false ∧ ¬ a < c ∧ ¬ a = c ∧ oI a b c d = 1) := by
  unfold oI;cases h : dP a b c d with
  | true => simp
  | false =>
   by_cases h1 : a < c <;> by_cases h2 : a = c <;> by_cases ap : b < d <;> simp [h1, h2, ap] <;> omega
 rcases cs with ⟨h1, h⟩ | ⟨h1, h2, h⟩ | ⟨h1, h2, ap, aL, h⟩ | ⟨h1, h2, ap, aL, h⟩ | ⟨h1, h2, ap, h⟩ <;> rw [h] <;> clear h
 all_goals
  refine cc (f := 242) Tryz.func242 rfl rfl rfl rfl ?_;(repeat first | (with_reducible apply aA); exact rfl | (with_reducible apply v7); (iterate 4 exact rfl) | (with_reducible apply dv (c := true)); exact rfl; exact rfl; (exact bG (by omega)) | (with_reducible apply dv (c := false)); exact rfl; exact rfl; (exact b3 (by omega)) | (with_reducible first | apply bN | apply bH | apply bL | apply aB | apply b6 | apply eR | apply fC | apply gp | apply mG | apply l6) | (with_reducible apply hA); exact rfl | (with_reducible apply gf); exact rfl; (first | assumption | exact bG (by omega)) | (with_reducible apply hz); exact rfl; (first | assumption | exact b3 (by omega)))
  ((refine bR rfl (bC rfl bf) ?_))
  exact aj.bp.refl _
theorem Py {n m : Int} (aH : -9223372036854775808 ≤ n) (h1 : n < 9223372036854775808) (gV : -9223372036854775808 ≤ m) (bB : m < 9223372036854775808) : aR ai 222 [aT n, aT m] (qZ (n * m)) :=
 mS [.int .i64 n, .int .i64 m] (fo (n * m)) rfl rfl rfl rfl rfl fun W => (SB n m W aH h1 gV bB).mono fun e w' h => aeh h
theorem VF (a b c d a' bO c' d' : Int) (W : World) : (Op.equalIn 10000 216 (.agg #[.int .i64 a, .int .i64 b, .int .i64 c, .int .i64 d]) (.agg #[.int .i64 a', .int .i64 bO, .int .i64 c', .int .i64 d'])).run ai W = .ok (uO a b c d a' bO c' d') W := by
 unfold uO dP
 go_simp
 by_cases h1 : a = a' <;> by_cases h2 : b = bO <;> by_cases ap : c = c' <;> by_cases aL : d = d' <;> simp [h1, h2, ap, aL]
instance ahC : Js ai 216 := ⟨by kernel_rfl, VF⟩
theorem ac0 {a b c d : Int} : (oI a b c d > 0 ↔ ¬ dl a b c d) := by
 unfold oI dl;cases h : dP a b c d with
 | true => rw [rG] at h; rw [if_pos rfl]; omega
 | false =>
  have : ¬ (a = c ∧ b = d) := fun k => by rw [rG.2 k] at h; cases h
  rw [if_neg (by simp)]
  split <;> omega
theorem Ik {a1 a2 b1 b2 : Int} : aR ai 217 [bh a1 a2, bh b1 b2] (.cZ [.agg [.c (.int .i64 (eE a1 a2 b1 b2)), .c (.int .i64 (eg a1 a2 b1 b2))], .agg [.c (.int .i64 (ek a1 a2 b1 b2)), .c (.int .i64 (dQ a1 a2 b1 b2))]]) := by
 have aM := acU (a := a1) (b := a2) (c := b1) (d := b2);have h := ac0 (a := a1) (b := a2) (c := b1) (d := b2)
 have cs : (oI a1 a2 b1 b2 > 0 ∧ eE a1 a2 b1 b2 = b1 ∧ eg a1 a2 b1 b2 = b2 ∧ ek a1 a2 b1 b2 = a1 ∧ dQ a1 a2 b1 b2 = a2) ∨ (¬ oI a1 a2 b1 b2 > 0 ∧ eE a1 a2 b1 b2 = a1 ∧ eg a1 a2 b1 b2 = a2 ∧ ek a1 a2 b1 b2 = b1 ∧ dQ a1 a2 b1 b2 = b2) := by
  rw [h];unfold eE eg ek dQ
  by_cases k : dl a1 a2 b1 b2 <;> simp [k]
 clear h;generalize eE a1 a2 b1 b2 = l1 at *;generalize eg a1 a2 b1 b2 = l2 at *;generalize ek a1 a2 b1 b2 = h1 at *;generalize dQ a1 a2 b1 b2 = h2 at *;generalize oI a1 a2 b1 b2 = c at *;rcases cs with ⟨q, rfl, rfl, rfl, rfl⟩ | ⟨q, rfl, rfl, rfl, rfl⟩
 all_goals
  refine cc (f := 217) Tryz.func217 rfl rfl rfl rfl ?_;(repeat first | (with_reducible apply aA); exact rfl | refine dI rfl rfl rfl rfl (by (exact aM)) rfl ?_ | (with_reducible apply h6); kernel_rfl | (with_reducible apply h9); kernel_rfl; kernel_rfl; exact rfl | (with_reducible first | apply bN | apply bH | apply bL | apply aB | apply b6 | apply eR | apply fC) | (with_reducible apply gf); exact rfl; (exact bG (by omega)) | (with_reducible apply hz); exact rfl; (exact b3 (by omega)))
  ((refine bR rfl (e0 rfl rfl rfl (e0 rfl rfl rfl bf)) ?_))
  exact aj.bp.refl _
theorem DN {a1 a2 b1 b2 : Int} : aR ai 172 [bh a1 a2, bh b1 b2] (iS (eE a1 a2 b1 b2) (eg a1 a2 b1 b2) (ek a1 a2 b1 b2) (dQ a1 a2 b1 b2)) := by
 have aM := Ik (a1 := a1) (a2 := a2) (b1 := b1) (b2 := b2);generalize eE a1 a2 b1 b2 = l1 at *;generalize eg a1 a2 b1 b2 = l2 at *;generalize ek a1 a2 b1 b2 = h1 at *;generalize dQ a1 a2 b1 b2 = h2 at *;refine cc (f := 172) Tryz.func172 rfl rfl rfl rfl ?_;(repeat first | (with_reducible apply aA); exact rfl | refine dI rfl rfl rfl rfl (by (exact aM)) rfl ?_ | (with_reducible first | apply bN | apply bH | apply bL | apply aB | apply b6))
 ((refine bR rfl (e0 rfl rfl rfl bf) ?_))
 exact aj.bp.refl _
theorem DM {s1 s2 bT bY p1 p2 : Int} (h1 : eb s1 s2 = true) (h2 : eb bT bY = true) (ap : eb p1 p2 = true) : aR ai 173 [iS s1 s2 bT bY, bh p1 p2] (aT (cj s1 s2 bT bY p1 p2)) := by
 have aM := Pf h1 h2 ap;clear h1 h2 ap;generalize cj s1 s2 bT bY p1 p2 = c at *;refine cc (f := 173) Tryz.func173 rfl rfl rfl rfl ?_;(repeat first | (with_reducible apply aA); exact rfl | refine jS rfl rfl rfl rfl rfl (by (exact aM)) rfl ?_ | (with_reducible first | apply bN | apply bH | apply bL | apply aB | apply b6))
 ((refine bR rfl (bC rfl bf) ?_))
 exact aj.bp.refl _
theorem abI {s1 s2 bT bY p1 p2 : Int} (h1 : eb s1 s2 = true) (h2 : eb bT bY = true) (ap : eb p1 p2 = true) : DI p1 p2 s1 s2 bT bY = decide (dj p1 p2 s1 s2 bT bY) := by
 rw [oL, cE];unfold DI dj r1;rw [h1, h2, ap];simp only [pR, dS, cE, WQ]
 constructor
 ·rintro ⟨⟨a, b, c, d⟩, e⟩; exact ⟨e, a, b, c, d⟩
 ·rintro ⟨e, a, b, c, d⟩; exact ⟨⟨a, b, c, d⟩, e⟩
theorem Po {s1 s2 bT bY p1 p2 : Int} (h1 : eb s1 s2 = true) (h2 : eb bT bY = true) (ap : eb p1 p2 = true) : aR ai 219 [iS s1 s2 bT bY, bh p1 p2] (bE (decide (dj p1 p2 s1 s2 bT bY))) := by
 have aM := acd (abI h1 h2 ap);clear h1 h2 ap;generalize decide (dj p1 p2 s1 s2 bT bY) = c at *;refine cc (f := 219) Tryz.func219 rfl rfl rfl rfl ?_;(repeat first | (with_reducible apply aA); exact rfl | refine jS rfl rfl rfl rfl rfl (by (exact aM)) rfl ?_ | (with_reducible first | apply bN | apply bH | apply bL | apply aB | apply b6))
 ((refine bR rfl (bC rfl bf) ?_))
 exact aj.bp.refl _
theorem Pv {m n : Int} {r : Bool} (aq : decide (same m n) = r) : aR ai 175 [aT m, aT n] (bE r) := by
 have cs : (m > 0 ∧ n > 0 ∧ r = true) ∨ (m > 0 ∧ ¬ n > 0 ∧ ¬ m < 0 ∧ r = false) ∨ (¬ m > 0 ∧ m < 0 ∧ n < 0 ∧ r = true) ∨ (¬ m > 0 ∧ m < 0 ∧ ¬ n < 0 ∧ r = false) ∨ (¬ m > 0 ∧ ¬ m < 0 ∧ r = false) := by
  rw [← aq];unfold same
  by_cases h1 : m > 0 <;> by_cases h2 : n > 0 <;> by_cases ap : m < 0 <;> by_cases aL : n < 0 <;> simp [h1, h2, ap, aL] <;> omega
 clear aq;rcases cs with ⟨q1, q2, rfl⟩ | ⟨q1, q2, cg, rfl⟩ | ⟨q1, q2, cg, rfl⟩ | ⟨q1, q2, cg, rfl⟩ | ⟨q1, q2, rfl⟩
 all_goals
  refine cc (f := 175) Tryz.func175 rfl rfl rfl rfl ?_;(repeat first | (with_reducible apply aA); exact rfl | (with_reducible apply dv (c := true)); exact rfl; exact rfl; (exact bG (by omega)) | (with_reducible apply dv (c := false)); exact rfl; exact rfl; (exact b3 (by omega)) | (with_reducible first | apply bN | apply bH | apply bL | apply aB | apply b6))
  ((refine bR rfl (bC rfl bf) ?_))
  first | exact aj.bp.refl _ | exact aj.bp.of_eq (by rw [bG q2]; rfl) | exact aj.bp.of_eq (by rw [bG cg]; rfl) | exact aj.bp.of_eq (by rw [b3 cg]; rfl)
theorem BA {x A : Int} (h1 : -134217728 ≤ x) (h2 : x ≤ 134217728) (ap : -144115188075855872 ≤ A) (aL : A ≤ 144115188075855872) : -19342813113834066795298816 ≤ x * A ∧ x * A ≤ 19342813113834066795298816 := by
 have := H4 h1 h2 ap aL;omega
theorem Pz {l h A B n d : Int} (cq : A ≠ B) (qz : -134217728 ≤ l) (l1 : l ≤ 134217728) (aH : -134217728 ≤ h) (h1 : h ≤ 134217728) (bS : -144115188075855872 ≤ A) (kx : A ≤ 144115188075855872) (bt : -144115188075855872 ≤ B) (mB : B ≤ 144115188075855872) (aE : jc (h * A - l * B) (A - B) = n) (hd : ih (A - B) = d) : aR ai 176 [aT l, aT h, aT A, aT B] (fv n d) := by
 have b1 := BA aH h1 bS kx;have b2 := BA qz l1 bt mB;have qb := Py (n := h) (m := A) (by omega) (by omega) (by omega) (by omega);have vX := Py (n := l) (m := B) (by omega) (by omega) (by omega) (by omega);have f1 : fits (h * A) = true := by unfold fits; rw [cE]; omega
 have f2 : fits (l * B) = true := by unfold fits; rw [cE]; omega
 have f3 : fits (h * A - l * B) = true := by unfold fits; rw [cE]; omega
 have f4 : fits (A - B) = true := by unfold fits; rw [cE]; omega
 have JQ := acW f1 f2;have JR := acV (n := A - B) (by omega) (by omega);simp only [wf, f3, if_true] at JQ
 have JS : aR ai 223 [qZ (h * A - l * B), qZ (A - B)] (.cZ [Cc n d, .one (.c (.bool true))]) := by
  by_cases q : A - B < 0
  ·unfold jc at aE;unfold ih at hd;rw [if_pos q] at aE hd;have g1 : fits (-(h * A - l * B)) = true := by unfold fits; rw [cE]; omega
   have g2 : fits (-(A - B)) = true := by unfold fits; rw [cE]; omega
   exact ab4 f3 f4 q (s := true) (by rw [g1, g2]; rfl) (by rw [if_pos rfl, aE]) (by rw [if_pos rfl, hd])
  ·unfold jc at aE;unfold ih at hd;rw [if_neg q] at aE hd;have := ab5 f3 f4 (by omega);rw [aE, hd] at this;rw [aE, hd];exact this
 obtain ⟨D, kf⟩ : ∃ D, A - B = D := ⟨_, rfl⟩;have aP : IntKind.i64.wrap (A - B) = D := by rw [← kf]; exact cX (by omega)
 rw [kf] at JR JS;clear f1 f2 f3 f4 b1 b2 aE hd kf bS kx bt mB cq;generalize h * A - l * B = X at *;generalize h * A = Y at *;generalize l * B = Z at *;refine cc (f := 176) Tryz.func176 rfl rfl rfl rfl ?_;(repeat first | (with_reducible apply aA); exact rfl | (with_reducible apply n2); (iterate 3 exact rfl); (assumption); exact rfl | refine eO rfl rfl rfl (by (exact JR)) rfl ?_ | refine dI rfl rfl rfl rfl (by (first | exact qb | exact vX | exact JQ | exact JS)) rfl ?_ | (with_reducible apply h6); kernel_rfl | (with_reducible apply h9); kernel_rfl; kernel_rfl; exact rfl | (with_reducible first | apply bN | apply bH | apply bL | apply aB | apply b6))
 ((refine bR rfl (e0 rfl rfl rfl bf) ?_))
 exact aj.bp.refl _
instance ahD : Jt ai 163 0 0 false 1 := ⟨by kernel_rfl⟩
abbrev aft (k n d m e p1 p2 q1 q2 : Int) : aj := .w (.agg [.c (.int .i64 k), .c (.int .i64 (kl n)), .c (.int .u64 (kp n)), .c (.int .i64 (kl d)), .c (.int .u64 (kp d)), .c (.int .i64 (kl m)), .c (.int .u64 (kp m)), .c (.int .i64 (kl e)), .c (.int .u64 (kp e)), .c (.int .i64 p1), .c (.int .i64 p2), .c (.int .i64 q1), .c (.int .i64 q2)])
abbrev nU (M : fA) : aj := aft M.k M.n M.d M.m M.e M.p1 M.p2 M.q1 M.q2
theorem YY {s1 s2 bT bY t1 t2 t3 t4 f1 f2 g1 g2 c5 dt lz q0 : Int} {p q : Bool} {M : fA}
  (JC : aR ai 217 [bh s1 s2, bh t1 t2] (.cZ [.agg [.c (.int .i64 c5), .c (.int .i64 dt)], .agg [.c (.int .i64 f1), .c (.int .i64 f2)]]))
  (JD : aR ai 217 [bh bT bY, bh t3 t4] (.cZ [.agg [.c (.int .i64 g1), .c (.int .i64 g2)], .agg [.c (.int .i64 lz), .c (.int .i64 q0)]]))
  (H1 : aR ai 219 [iS s1 s2 bT bY, bh f1 f2] (bE p)) (cd : aR ai 219 [iS t1 t2 t3 t4, bh f1 f2] (bE q))
  (j9 : aR ai 220 [aT f1] (fv f1 1)) (na : aR ai 220 [aT f2] (fv f2 1))
  (iY : (if (p && q) = true then vc f1 f2 g1 g2 else hG) = M) : aR ai 174 [iS s1 s2 bT bY, iS t1 t2 t3 t4] (nU M) := by
 unfold vc at iY;have hp : (f1 = g1 ∧ f2 = g2) ↔ dP f1 f2 g1 g2 = true := rG.symm
 have cs : (p = false ∧ M = hG) ∨ (p = true ∧ q = false ∧ M = hG) ∨ (p = true ∧ q = true ∧ dP f1 f2 g1 g2 = true ∧ M = iP f1 1 f2 1) ∨ (p = true ∧ q = true ∧ dP f1 f2 g1 g2 = false ∧ M = sN f1 f2 g1 g2) := by
  rw [← iY];cases al : dP f1 f2 g1 g2 <;> rw [al] at hp <;> cases p <;> cases q <;> simp [hp]
 clear iY hp;refine cc (f := 174) Tryz.func174 rfl rfl rfl rfl ?_;(repeat first | (with_reducible apply aA); exact rfl | refine dI rfl rfl rfl rfl (by (first | exact JC | exact JD)) rfl ?_ | (with_reducible first | apply bN | apply bH | apply bL | apply aB));clear JC JD;rcases cs with ⟨rfl, rfl⟩ | ⟨rfl, rfl, rfl⟩ | ⟨rfl, rfl, h, rfl⟩ | ⟨rfl, rfl, h, rfl⟩
 all_goals
  (repeat first | (with_reducible apply aA); exact rfl | (with_reducible apply v7); (iterate 4 exact rfl) | refine eO rfl rfl rfl (by (first | exact j9 | exact na)) rfl ?_ | refine dI rfl rfl rfl rfl (by (first | exact H1 | exact cd)) rfl ?_ | (with_reducible apply h6); kernel_rfl | (with_reducible apply h9); kernel_rfl; kernel_rfl; exact rfl | (with_reducible first | apply bN | apply bH | apply bL | apply aB | apply b6 | apply eR | apply fC) | (with_reducible apply h8); exact rfl | (with_reducible apply hA); exact rfl | (with_reducible apply gf); exact rfl; (assumption) | (with_reducible apply hz); exact rfl; (assumption))
  ((refine bR rfl (e0 rfl rfl rfl bf) ?_))
  first | exact aj.bp.refl _ | exact aj.bp.of_eq (by simp only [hG, yV, zD]; rfl) | exact aj.bp.of_eq (by simp only [sN, yV, zD]; rfl)
theorem IA {a1 a2 b1 b2 : Int} (h : cy a1 a2 = true) (k : cy b1 b2 = true) : cy (ek a1 a2 b1 b2) (dQ a1 a2 b1 b2) = true := by
 rcases mP a1 a2 b1 b2 with ⟨_, _, ap, aL, _⟩ | ⟨_, _, ap, aL, _⟩ <;> rw [ap, aL] <;> assumption
theorem P0 {a1 a2 b1 b2 : Int} (h : cy a1 a2 = true) (k : cy b1 b2 = true) : cy (eE a1 a2 b1 b2) (eg a1 a2 b1 b2) = true := by
 rcases mP a1 a2 b1 b2 with ⟨ap, aL, _⟩ | ⟨ap, aL, _⟩ <;> rw [ap, aL] <;> assumption
theorem acK {s1 s2 bT bY t1 t2 t3 t4 : Int} (h1 : cy s1 s2 = true) (h2 : cy bT bY = true) (ap : cy t1 t2 = true) (aL : cy t3 t4 = true) : aR ai 174 [iS s1 s2 bT bY, iS t1 t2 t3 t4] (nU (inl s1 s2 bT bY t1 t2 t3 t4)) := by
 have ar := IA h1 ap;have ab := ss.1 ar;refine YY Ik Ik (Po (kW h1) (kW h2) (kW ar)) (Po (kW ap) (kW aL) (kW ar)) (Ph (by omega) (by omega)) (Ph (by omega) (by omega)) ?_;unfold inl;exact zt (by rw [dS, cE, cE])
theorem acs {a1 a2 b1 b2 c1 c2 d1 d2 : Int} (h : (cy a1 a2 && cy b1 b2 && cy c1 c2 && cy d1 d2) = false) : aR ai 119 [bh a1 a2, bh b1 b2, bh c1 c2, bh d1 d2] (nU hG) := by
 have bl := oG (x := a1) (y := a2) rfl;have eV := oG (x := b1) (y := b2) rfl;have jO := oG (x := c1) (y := c2) rfl;have uq := oG (x := d1) (y := d2) rfl
 have cs : cy a1 a2 = false ∨ (cy a1 a2 = true ∧ cy b1 b2 = false) ∨ (cy a1 a2 = true ∧ cy b1 b2 = true ∧ cy c1 c2 = false) ∨ (cy a1 a2 = true ∧ cy b1 b2 = true ∧ cy c1 c2 = true ∧ cy d1 d2 = false) := by
  generalize cy a1 a2 = cQ at *;generalize cy b1 b2 = dN at *;generalize cy c1 c2 = hM at *;generalize cy d1 d2 = qO at *;cases cQ <;> cases dN <;> cases hM <;> cases qO <;> simp_all
 clear h;rcases cs with h1 | ⟨h1, h2⟩ | ⟨h1, h2, ap⟩ | ⟨h1, h2, ap, aL⟩ <;> simp only [*] at bl eV jO uq
 all_goals
  refine cc (f := 119) Tryz.func119 rfl rfl rfl rfl ?_;(repeat first | (with_reducible apply aA); exact rfl | refine eO rfl rfl rfl (by (first | exact bl | exact eV | exact jO | exact uq)) rfl ?_ | (with_reducible first | apply bN | apply bH | apply bL | apply aB | apply b6 | apply fC) | (with_reducible apply h8); exact rfl)
  ((refine bR rfl (e0 rfl rfl rfl bf) ?_))
  exact aj.bp.of_eq (by simp only [hG, yV, zD]; rfl)
theorem Ut {a1 a2 b1 b2 c1 c2 d1 d2 s1 s2 bT bY t1 t2 t3 t4 A B C D n d m e : Int} {x y : Bool} {I M : fA}
  (bl : aR ai 171 [bh a1 a2] (bE true)) (eV : aR ai 171 [bh b1 b2] (bE true)) (jO : aR ai 171 [bh c1 c2] (bE true)) (uq : aR ai 171 [bh d1 d2] (bE true))
  (mB : aR ai 172 [bh a1 a2, bh b1 b2] (iS s1 s2 bT bY)) (sJ : aR ai 172 [bh c1 c2, bh d1 d2] (iS t1 t2 t3 t4))
  (fK : aR ai 173 [iS s1 s2 bT bY, bh t1 t2] (aT A)) (fU : aR ai 173 [iS s1 s2 bT bY, bh t3 t4] (aT B))
  (o5 : aR ai 173 [iS t1 t2 t3 t4, bh s1 s2] (aT C)) (uy : aR ai 173 [iS t1 t2 t3 t4, bh bT bY] (aT D))
  (um : aR ai 175 [aT A, aT B] (bE x)) (vQ : aR ai 175 [aT C, aT D] (bE y))
  (L : aR ai 174 [iS s1 s2 bT bY, iS t1 t2 t3 t4] (nU I))
  (rk : A ≠ B → aR ai 176 [aT t1, aT t3, aT A, aT B] (fv n d)) (uB : A ≠ B → aR ai 176 [aT t2, aT t4, aT A, aT B] (fv m e))
  (iY : (if A = B then I else if (x || y) = true then hG else iP n d m e) = M) : aR ai 119 [bh a1 a2, bh b1 b2, bh c1 c2, bh d1 d2] (nU M) := by
 have cs : (A = B ∧ M = I) ∨ (¬ A = B ∧ x = true ∧ M = hG) ∨ (¬ A = B ∧ x = false ∧ y = true ∧ M = hG) ∨ (¬ A = B ∧ x = false ∧ y = false ∧ M = iP n d m e) := by
  rw [← iY]
  by_cases h : A = B
  ·simp [h]
  ·cases x <;> cases y <;> simp [h]
 clear iY;refine cc (f := 119) Tryz.func119 rfl rfl rfl rfl ?_;(repeat first | (with_reducible apply aA); exact rfl | refine eO rfl rfl rfl (by (first | exact bl | exact eV | exact jO | exact uq)) rfl ?_ | refine dI rfl rfl rfl rfl (by (first | exact mB | exact sJ | exact fK | exact fU)) rfl ?_ | (with_reducible apply h6); kernel_rfl | (with_reducible apply h9); kernel_rfl; kernel_rfl; exact rfl | (with_reducible first | apply bN | apply bH | apply bL | apply aB | apply eR | apply gp) | (with_reducible apply hA); exact rfl);clear bl eV jO uq mB sJ fK fU;rcases cs with ⟨h, rfl⟩ | ⟨h, rfl, rfl⟩ | ⟨h, rfl, rfl, rfl⟩ | ⟨h, rfl, rfl, rfl⟩
 ·clear rk uB;(repeat first | (with_reducible apply aA); exact rfl | refine dI rfl rfl rfl rfl (by (exact L)) rfl ?_ | (with_reducible first | apply bN | apply bH | apply bL | apply aB | apply b6 | apply fC | apply l6) | (with_reducible apply gf); exact rfl; (exact bG (by omega)))
  ((refine bR rfl (e0 rfl rfl rfl bf) ?_))
  exact aj.bp.refl _
 ·clear rk uB;(repeat first | (with_reducible apply aA); exact rfl | refine dI rfl rfl rfl rfl (by (exact um)) rfl ?_ | (with_reducible first | apply bN | apply bH | apply bL | apply aB | apply b6 | apply eR | apply fC | apply l6) | (with_reducible apply h8); exact rfl | (with_reducible apply hz); exact rfl; (exact b3 (by omega)))
  ((refine bR rfl (e0 rfl rfl rfl bf) ?_))
  exact aj.bp.of_eq (by simp only [hG, yV, zD]; rfl)
 ·clear rk uB;(repeat first | (with_reducible apply aA); exact rfl | refine dI rfl rfl rfl rfl (by (first | exact o5 | exact uy | exact um | exact vQ)) rfl ?_ | (with_reducible apply h6); kernel_rfl | (with_reducible apply h9); kernel_rfl; kernel_rfl; exact rfl | (with_reducible first | apply bN | apply bH | apply bL | apply aB | apply b6 | apply fC | apply l6) | (with_reducible apply h8); exact rfl | (with_reducible apply hA); exact rfl | (with_reducible apply hz); exact rfl; (exact b3 (by omega)))
  ((refine bR rfl (e0 rfl rfl rfl bf) ?_))
  exact aj.bp.of_eq (by simp only [hG, yV, zD]; rfl)
 ·have SE := rk h;have SF := uB h;clear rk uB;(repeat first | (with_reducible apply aA); exact rfl | refine dI rfl rfl rfl rfl (by (first | exact o5 | exact uy | exact um | exact vQ)) rfl ?_ | refine nl rfl rfl rfl rfl rfl rfl (by (first | exact SE | exact SF)) rfl ?_ | (with_reducible apply h6); kernel_rfl | (with_reducible apply h9); kernel_rfl; kernel_rfl; exact rfl | (with_reducible first | apply bN | apply bH | apply bL | apply aB | apply b6 | apply eR | apply mG) | (with_reducible apply hA); exact rfl | (with_reducible apply hz); exact rfl; (exact b3 (by omega)))
  ((refine bR rfl (e0 rfl rfl rfl bf) ?_))
  exact aj.bp.refl _
theorem Dt {x y : Int} (h1 : -268435456 ≤ x) (h2 : x ≤ 268435456) (ap : -268435456 ≤ y) (aL : y ≤ 268435456) : -72057594037927936 ≤ x * y ∧ x * y ≤ 72057594037927936 := by
 have := H4 h1 h2 ap aL;omega
theorem KW {o1 o2 a1 a2 b1 b2 : Int} (h1 : cy o1 o2 = true) (h2 : cy a1 a2 = true) (ap : cy b1 b2 = true) : -144115188075855872 ≤ cj o1 o2 a1 a2 b1 b2 ∧ cj o1 o2 a1 a2 b1 b2 ≤ 144115188075855872 := by
 rw [ss] at h1 h2 ap;have m1 := Dt (x := a1 - o1) (y := b2 - o2) (by omega) (by omega) (by omega) (by omega);have m2 := Dt (x := a2 - o2) (y := b1 - o1) (by omega) (by omega) (by omega) (by omega);unfold cj;omega
def qC (a1 a2 b1 b2 c1 c2 d1 d2 : Int) : fA := if (cy a1 a2 && cy b1 b2 && cy c1 c2 && cy d1 d2) = true then hX a1 a2 b1 b2 c1 c2 d1 d2 else hG
theorem acu {a1 a2 b1 b2 c1 c2 d1 d2 : Int} (aK : cy a1 a2 = true) (ab : cy b1 b2 = true) (ak : cy c1 c2 = true) (hd : cy d1 d2 = true) : aR ai 119 [bh a1 a2, bh b1 b2, bh c1 c2, bh d1 d2] (nU (hX a1 a2 b1 b2 c1 c2 d1 d2)) := by
 have bl := oG aK;have eV := oG ab;have jO := oG ak;have uq := oG hd;have mB := DN (a1 := a1) (a2 := a2) (b1 := b1) (b2 := b2);have sJ := DN (a1 := c1) (a2 := c2) (b1 := d1) (b2 := d2);have q1 := P0 aK ab;have q2 := IA aK ab;have cg := P0 ak hd;have ep := IA ak hd;have l1 := w8 a1 a2 b1 b2;have l2 := w8 c1 c2 d1 d2;rw [← aaE];generalize eE a1 a2 b1 b2 = s1 at *;generalize eg a1 a2 b1 b2 = s2 at *;generalize ek a1 a2 b1 b2 = bT at *;generalize dQ a1 a2 b1 b2 = bY at *;generalize eE c1 c2 d1 d2 = t1 at *;generalize eg c1 c2 d1 d2 = t2 at *;generalize ek c1 c2 d1 d2 = t3 at *;generalize dQ c1 c2 d1 d2 = t4 at *;have bB := KW q1 q2 cg;have cf := KW q1 q2 ep;have i3 := ss.1 cg;have i4 := ss.1 ep
 refine Ut bl eV jO uq mB sJ (DM (kW q1) (kW q2) (kW cg)) (DM (kW q1) (kW q2) (kW ep)) (DM (kW cg) (kW ep) (kW q1)) (DM (kW cg) (kW ep) (kW q2)) (Pv rfl) (Pv rfl) (acK q1 q2 cg ep)
  (fun cq => Pz cq i3.1.1 i3.1.2 i4.1.1 i4.1.2 bB.1 bB.2 cf.1 cf.2 rfl rfl) (fun cq => Pz cq i3.2.1 i3.2.2 i4.2.1 i4.2.2 bB.1 bB.2 cf.1 cf.2 rfl rfl) ?_
 rw [← aaD l1 l2];unfold HS
 by_cases h : cj s1 s2 bT bY t1 t2 = cj s1 s2 bT bY t3 t4
 ·rw [if_pos h, if_pos h]
 ·rw [if_neg h, if_neg h];exact zt (by rw [qN, cE, cE])
theorem Ij {a1 a2 b1 b2 c1 c2 d1 d2 : Int} : aR ai 119 [bh a1 a2, bh b1 b2, bh c1 c2, bh d1 d2] (nU (qC a1 a2 b1 b2 c1 c2 d1 d2)) := by
 unfold qC
 by_cases h : (cy a1 a2 && cy b1 b2 && cy c1 c2 && cy d1 d2) = true
 ·rw [if_pos h];simp only [dS] at h;exact acu h.1.1.1 h.1.1.2 h.1.2 h.2
 ·rw [if_neg h];exact acs (by simpa using h)
def FV (M : fA) (a1 a2 b1 b2 c1 c2 d1 d2 : Int) : Bool :=
 if M.k = 1 then dP a1 a2 c1 c2 || dP a1 a2 d1 d2 || dP b1 b2 c1 c2 || dP b1 b2 d1 d2
 else if M.k = 2 then uO (eE a1 a2 b1 b2) (eg a1 a2 b1 b2) (ek a1 a2 b1 b2) (dQ a1 a2 b1 b2) (eE c1 c2 d1 d2) (eg c1 c2 d1 d2) (ek c1 c2 d1 d2) (dQ c1 c2 d1 d2)
 else true
theorem TW {a1 a2 b1 b2 c1 c2 d1 d2 s1 s2 bT bY t1 t2 t3 t4 : Int} {M : fA} {r : Bool} (aM : aR ai 119 [bh a1 a2, bh b1 b2, bh c1 c2, bh d1 d2] (nU M))
  (mB : aR ai 172 [bh a1 a2, bh b1 b2] (iS s1 s2 bT bY)) (sJ : aR ai 172 [bh c1 c2, bh d1 d2] (iS t1 t2 t3 t4))
  (aq : (if M.k = 1 then dP a1 a2 c1 c2 || dP a1 a2 d1 d2 || dP b1 b2 c1 c2 || dP b1 b2 d1 d2 else if M.k = 2 then uO s1 s2 bT bY t1 t2 t3 t4 else true) = r) : aR ai 185 [bh a1 a2, bh b1 b2, bh c1 c2, bh d1 d2] (bE r) := by
 obtain ⟨k, n, d, m, e, p1, p2, q1, q2⟩ := M;simp only at aq aM
 have cs : (k = 1 ∧ dP a1 a2 c1 c2 = true ∧ r = true) ∨ (k = 1 ∧ dP a1 a2 c1 c2 = false ∧ dP a1 a2 d1 d2 = true ∧ r = true) ∨ (k = 1 ∧ dP a1 a2 c1 c2 = false ∧ dP a1 a2 d1 d2 = false ∧ dP b1 b2 c1 c2 = true ∧ r = true) ∨ (k = 1 ∧ dP a1 a2 c1 c2 = false ∧ dP a1 a2 d1 d2 = false ∧ dP b1 b2 c1 c2 = false ∧ r = dP b1 b2 d1 d2) ∨ (¬ k = 1 ∧ k = 2 ∧ r = uO s1 s2 bT bY t1 t2 t3 t4) ∨ (¬ k = 1 ∧ ¬ k = 2 ∧ r = true) := by
  rw [← aq]
  by_cases h1 : k = 1
  ·rw [if_pos h1];cases dP a1 a2 c1 c2 <;> cases dP a1 a2 d1 d2 <;> cases dP b1 b2 c1 c2 <;> simp [h1]
  ·rw [if_neg h1]
   by_cases h2 : k = 2
   ·rw [if_pos h2]; simp [h2]
   ·rw [if_neg h2]; simp [h1, h2]
 clear aq;refine cc (f := 185) Tryz.func185 rfl rfl rfl rfl ?_;(repeat first | (with_reducible apply aA); exact rfl | (with_reducible apply Te); (iterate 4 exact rfl) | refine nl rfl rfl rfl rfl rfl rfl (by (exact aM)) rfl ?_ | (with_reducible first | apply bN | apply bH | apply bL | apply aB | apply gp));clear aM;rcases cs with ⟨h1, h2, rfl⟩ | ⟨h1, h2, ap, rfl⟩ | ⟨h1, h2, ap, aL, rfl⟩ | ⟨h1, h2, ap, aL, rfl⟩ | ⟨h1, h2, rfl⟩ | ⟨h1, h2, rfl⟩
 all_goals
  (repeat first | (with_reducible apply aA); exact rfl | (with_reducible apply v7); (iterate 4 exact rfl) | (with_reducible apply S9); (iterate 4 exact rfl) | refine dI rfl rfl rfl rfl (by (first | exact mB | exact sJ)) rfl ?_ | (with_reducible apply dv (c := true)); exact rfl; exact rfl; (assumption) | (with_reducible apply dv (c := false)); exact rfl; exact rfl; (assumption) | (with_reducible apply h6); kernel_rfl | (with_reducible apply h9); kernel_rfl; kernel_rfl; exact rfl | (with_reducible first | apply bN | apply bH | apply bL | apply aB | apply b6 | apply eR | apply fC | apply mG | apply l6) | (with_reducible apply gf); exact rfl; (exact bG (by omega)) | (with_reducible apply hz); exact rfl; (exact b3 (by omega)))
  ((refine bR rfl (bC rfl bf) ?_))
  first | exact aj.bp.refl _ | exact aj.bp.of_eq (by rw [h2]; rfl) | exact aj.bp.of_eq (by rw [ap]; rfl) | exact aj.bp.of_eq (by rw [aL]; rfl)
theorem acr {a1 a2 b1 b2 c1 c2 d1 d2 : Int} : aR ai 185 [bh a1 a2, bh b1 b2, bh c1 c2, bh d1 d2] (bE (FV (qC a1 a2 b1 b2 c1 c2 d1 d2) a1 a2 b1 b2 c1 c2 d1 d2)) :=
 TW Ij DN DN rfl
end Go.Proofs.YtpochbhajmbfdaaGreat
