/-
  My own texts, without what this claim does not need. My own text.
-/
import Derived.Test.YtbcecodakfejaaaGreatSKeepsK8
set_option maxRecDepth 100000
set_option maxHeartbeats 64000000
set_option linter.unusedVariables false
set_option linter.unusedSimpArgs false
set_option linter.unusedSectionVars false
open Go.Proofs.Tryz renaming prog → ag
namespace Go.Proofs.YtbcecodakfejaaaGreat
open Go.RowKit
abbrev CX (n d : Int) : bA := .agg [.c (.int .i64 (cn n)), .c (.int .u64 (dQ n)), .c (.int .i64 (cn d)), .c (.int .u64 (dQ d))]
abbrev fv (n d : Int) : ah := .w (CX n d)
abbrev fx (n d : Int) : Value := .agg #[.int .i64 (cn n), .int .u64 (dQ n), .int .i64 (cn d), .int .u64 (dQ d)]
abbrev ve (n : Int) : Value := .agg #[.int .i64 (cn n), .int .u64 (dQ n)]
theorem Pp (d : Int) : (d < 0 → bR d 0 = -1) ∧ (d = 0 → bR d 0 = 0) ∧ (0 < d → bR d 0 = 1) := by unfold bR; refine ⟨fun h => ?_, fun h => ?_, fun h => ?_⟩ <;> split <;> (try split) <;> omega
section
set_option maxRecDepth 100000
set_option maxHeartbeats 4000000
theorem RA {k : Int} (aA : -9223372036854775808 ≤ k) (h1 : k < 9223372036854775808) : au ag 148 [ax k] (fv k 1) := by
 have aS := uU aA h1;have bD := uU (n := 1) (by decide) (by decide);clear aA h1;refine bd (f := 148) Tryz.func148 rfl rfl rfl rfl ?_;(refine bS ?_)
 ((refine aW rfl (cD rfl rfl rfl aJ) ?_))
 exact ah.aK.refl _
theorem aeO {n d : Int} (f : fits n = true) (g : fits d = true) (hd : 0 < d) : au ag 151 [gv n, gv d] (.cz [CX n d, .one (.c (.bool true))]) := by
 have aS := E4 g;rw [(Pp d).2.2 hd] at aS;clear f g hd;refine bd (f := 151) Tryz.func151 rfl rfl rfl rfl ?_;(refine bS ?_)
 ((refine aW rfl (cD rfl rfl rfl (aY rfl aJ)) ?_))
 exact ah.aK.refl _
theorem aeN {n d : Int} (f : fits n = true) (g : fits d = true) (hd : d < 0) {s : Bool} {x y : Int} (hs : (fits (-n) && fits (-d)) = s) (aa : x = if s then -n else 0) (ai : y = if s then -d else 0) : au ag 151 [gv n, gv d] (.cz [CX x y, .one (.c (.bool s))]) := by
 have aS := E4 g;rw [(Pp d).1 hd] at aS;have bD := R2 f;have dW := R2 g;subst hs;clear f g hd;cases h1 : fits (-n) with
 | true =>
  rw [h1] at aa ai;cases h2 : fits (-d) with
  | true =>
   rw [h2] at aa ai;rw [wY h1] at bD;rw [wY h2] at dW;obtain rfl : x = -n := aa;obtain rfl : y = -d := ai;clear h1 h2;refine bd (f := 151) Tryz.func151 rfl rfl rfl rfl ?_;(refine bS ?_)
   ((refine aW rfl (cD rfl rfl rfl (aY rfl aJ)) ?_))
   exact ah.aK.refl _
  | false =>
   rw [h2] at aa ai;rw [wY h1] at bD;rw [TZ h2] at dW;obtain rfl : x = 0 := aa;obtain rfl : y = 0 := ai;clear h1 h2;refine bd (f := 151) Tryz.func151 rfl rfl rfl rfl ?_;(refine bS ?_)
   ((refine aW rfl (cD rfl rfl rfl (aY rfl aJ)) ?_))
   exact ah.aK.refl _
 | false =>
  rw [h1] at aa ai;rw [TZ h1] at bD;obtain rfl : x = 0 := aa;obtain rfl : y = 0 := ai;obtain ⟨z, b, e⟩ : ∃ z b, wf (-d) = .cz [nh z, .one (.c (.bool b))] := ⟨_, _, rfl⟩;rw [e] at dW;clear h1 e;refine bd (f := 151) Tryz.func151 rfl rfl rfl rfl ?_;(refine bS ?_)
  ((refine aW rfl (cD rfl rfl rfl (aY rfl aJ)) ?_))
  exact ah.aK.refl _
theorem Ry {n d : Int} (g : fits d = true) : au ag 185 [fv n d] (a7 (decide (0 < d))) := by
 have aS := E4 g;rw [← abu d];generalize bR d 0 = c at *;clear g;refine bd (f := 185) Tryz.func185 rfl rfl rfl rfl ?_;(refine bS ?_)
 ((refine aW rfl (aY rfl aJ) ?_))
 exact ah.aK.refl _
theorem aeH {n d : Int} (f : fits n = true) (g : fits d = true) (hd : 0 < d) : au ag 188 [fv n d] (gv (n / d)) := by
 have aS := Rv f g hd;clear f g hd;refine bd (f := 188) Tryz.func188 rfl rfl rfl rfl ?_;(refine bS ?_)
 ((refine aW rfl (cD rfl rfl rfl aJ) ?_))
 exact ah.aK.refl _
theorem Hm {n d : Int} (f : fits n = true) (hd : 0 < d) : fits (n / d) = true := by
 have ov := ka.1 f;refine ka.2 ?_
 by_cases aw : 0 ≤ n
 ·have := n6 aw (show 0 ≤ d by omega);have := Int.ediv_le_self d aw;omega
 ·have fs : n * d ≤ n * 1 := Int.mul_le_mul_of_nonpos_left (show n ≤ 0 by omega) (show 1 ≤ d by omega);have := (oM (a := n) (b := n) hd).2 (by omega);have := Int.ediv_lt_of_lt_mul (a := n) (b := 0) hd (by omega);omega
theorem NT {n d : Int} (aw : fits n = true) (hd : 0 < d) (zL : fits d = true) : fits (nZ n d) = true := by
 unfold nZ
 split
 ·exact Hm aw hd
 ·exact (QR aw hd zL).2 (by omega)
theorem YD {n d : Int} {k : Nat} (aw : fits n = true) (hd : 0 < d) (zL : fits d = true) (af : k ≤ 100) : fits (mi n d k) = true := by
 unfold mi
 split
 ·exact NT aw hd zL
 ·exact NT (Hm aw hd) (hL (by decide)) (Sb af)
theorem afp {n d : Int} {k : Nat} (f : fits n = true) (g : fits d = true) (hd : 0 < d) (af : k ≤ 100) : au ag 161 [fv n d, ax k] (.cz [nh (mi n d k), .one (.c (.bool true))]) := by
 have aS := Ry (n := n) g;rw [cd hd] at aS;unfold mi
 by_cases aA : k = 0
 ·subst aA;have bD := RN f g hd;rw [if_pos rfl];clear f g hd;refine bd (f := 161) Tryz.func161 rfl rfl rfl rfl ?_;(refine bS ?_)
  ((refine aW rfl (cD rfl rfl rfl (aY rfl aJ)) ?_))
  exact ah.aK.refl _
 ·rw [if_neg aA];have hp := Sb af;have bD := uU (n := 1) (by decide) (by decide);have dW := af4 (n := 1) (k := (k : Int)) (by decide) (by omega) (by omega);rw [Int.one_mul, ld, wY hp] at dW;have js := aeH f g hd;have mQ := RN (Hm f hd) hp (hL (by decide));have h1 : ¬ (k : Int) = 0 := by omega
  have h2 : ¬ (k : Int) < 0 := by omega
  have h3 : ¬ (k : Int) > 100 := by omega
  clear f g hd hp;refine bd (f := 161) Tryz.func161 rfl rfl rfl rfl ?_;(refine bS ?_)
  ((refine aW rfl (cD rfl rfl rfl (aY rfl aJ)) ?_))
  exact ah.aK.refl _
theorem afq {n d k : Int} (f : fits n = true) (g : fits d = true) (jS : ¬ (0 < d) ∨ (k < 0 ∨ 100 < k)) : au ag 161 [fv n d, ax k] (.cz [.agg [.c (.int .i64 0), .c (.int .u64 0)], .one (.c (.bool false))]) := by
 have aS := Ry (n := n) g
 by_cases hd : 0 < d
 ·rw [cd hd] at aS;have h1 : k < 0 ∨ (¬ k < 0 ∧ k > 100) := by omega
  clear f g jS hd;rcases h1 with h1 | ⟨h1, h2⟩
  ·refine bd (f := 161) Tryz.func161 rfl rfl rfl rfl ?_;(repeat first | refine dv ?_ | refine e7 ?_ | (with_reducible apply bP (c := true)); rfl; rfl; (exact cd (by omega)))
   ((refine aW rfl (cD rfl rfl rfl (aY rfl aJ)) ?_))
   exact ah.aK.refl _
  ·refine bd (f := 161) Tryz.func161 rfl rfl rfl rfl ?_;(repeat first | refine dv ?_ | refine e7 ?_ | (with_reducible apply bP (c := false)); rfl; rfl; (exact cA (by omega)))
   ((refine aW rfl (cD rfl rfl rfl (aY rfl aJ)) ?_))
   exact ah.aK.refl _
 ·rw [cA hd] at aS;clear f g jS hd;refine bd (f := 161) Tryz.func161 rfl rfl rfl rfl ?_;(refine bS ?_)
  ((refine aW rfl (cD rfl rfl rfl (aY rfl aJ)) ?_))
  exact ah.aK.refl _
end
abbrev ag3 (n d : Int) : bA := .agg [.c (.bool (decide (n < 0))), .p (jN n), .c (.bool (decide (d < 0))), .p (jN d)]
abbrev gr (n d : Int) : ah := .w (ag3 n d)
theorem QQ {n d : Int} (hd : 0 < d) : nZ n d = (n + n + d) / (d * 2) := by
 have h1 := qS n d;have h2 := oL n (show d ≠ 0 by omega);have h3 := n4 n hd;unfold nZ;generalize n / d = q at *;generalize n % d = r at *;have e : n + n + d = (r + r + d) + q * (d * 2) := by rw [← h1, gq q (d * 2), j5, Int.mul_left_comm d 2 q]; omega
 rw [e, Int.add_mul_ediv_right _ _ (by omega)]
 split
 ·rw [Int.ediv_eq_zero_of_lt (by omega) (by omega)]; omega
 ·have : (r + r + d) / (d * 2) = 1 := by
   rw [show r + r + d = (r + r - d) + 1 * (d * 2) by omega, Int.add_mul_ediv_right _ _ (by omega), Int.ediv_eq_zero_of_lt (by omega) (by omega)];omega
  rw [this]; omega
theorem ain {n d : Int} (k : Nat) (hd : 0 < d) : (n + n + d * 2 ^ k) / (d * 2 ^ (k + 1)) = mi n d k := by
 unfold mi;rcases k with _ | k
 ·rw [if_pos rfl, QQ hd];simp
 ·rw [if_neg (by omega), QQ (hL (by decide))];have hp : (0 : Int) < 2 ^ k := hL (by decide);rw [n5 2 (k + 1), n5 2 k];generalize (2 : Int) ^ k = Q at *
  have aG : (n + n + d * (Q * 2)) / (d * (Q * 2 * 2)) = (n + d * Q) / (d * (Q * 2)) := by
   rw [show n + n + d * (Q * 2) = 2 * (n + d * Q) by rw [gq Q 2, Int.mul_left_comm]; omega, show d * (Q * 2 * 2) = 2 * (d * (Q * 2)) by rw [gq (Q * 2) 2, Int.mul_left_comm], Int.mul_ediv_mul_of_pos _ _ (by decide)]
  have aO : (n / d + n / d + Q * 2) / (Q * 2 * 2) = (n / d + Q) / (Q * 2) := by
   rw [show n / d + n / d + Q * 2 = 2 * (n / d + Q) by omega, gq (Q * 2) 2, Int.mul_ediv_mul_of_pos _ _ (by decide)]
  rw [aG, aO, ← yo (by omega), gq d Q, Int.add_mul_ediv_right _ _ (by omega)]
def gg (k : Int) (r : Nat) : Prop := r ≤ 28 ∧ ((k < 0 ∧ r = 0) ∨ (28 < k ∧ r = 28) ∨ (r : Int) = k)
theorem PE (k : Int) : ∃ r, gg k r := by
 by_cases h : k < 0
 ·exact ⟨0, by omega, .inl ⟨h, rfl⟩⟩
 ·by_cases aM : 28 < k
  ·exact ⟨28, by omega, .inr (.inl ⟨aM, rfl⟩)⟩
  ·exact ⟨k.toNat, by omega, .inr (.inr (by omega))⟩
theorem abL {r : Nat} (h : r ≤ 28) : gg r r := ⟨h, .inr (.inr rfl)⟩
theorem wQ {a b : Int} {w w' : World} (e : a = b) (h : Below w.heap.size w w') : ll (.int .i64 b) w (.returned (.int .i64 a)) w' := ⟨by rw [e], h⟩
theorem ys {a b : Bool} {w w' : World} (e : a = b) (h : Below w.heap.size w w') : ll (.bool b) w (.returned (.bool a)) w' := ⟨by rw [e], h⟩
theorem AX (k : Int) (r : Nat) (w : World) (h : gg k r) : Calls ag 75 #[.int .i64 k] w (ll (.int .i64 r) w) := by
 have mS := Lib.hid h;clear h
 go_enter Tryz.func75, Tryz.ntmps75
 go_wp2
 all_goals
  go_ret
  refine wQ ?_ (Below.refl _ _);have h1 := mS.out;unfold gg at h1;omega
theorem T2 (n : Int) (h : -9223372036854775808 ≤ n ∧ n ≤ 9223372036854775807) : wrap64 n = n := by unfold wrap64; omega
theorem A6 {r : Nat} (h : r ≤ 28) : (1 : Int) ≤ 2 ^ r ∧ (2 : Int) ^ r ≤ 268435456 := by
 have h1 := Nat.pow_le_pow_right (show 0 < 2 by decide) h;have h2 := Nat.pow_pos (show 0 < 2 by decide) (n := r);have e : ((2 : Int) ^ r) = ((2 ^ r : Nat) : Int) := by simp
 rw [show (2 : Nat) ^ 28 = 268435456 by decide] at h1;rw [e];omega
def cx (v : Int) (r : Nat) : Int := (2 * v + 2 ^ r) / (2 * 2 ^ r)
theorem Y0 (v : Int) : cx v 0 = v := by unfold cx; omega
theorem YZ (v : Int) (r : Nat) : cx v (r + 1) = v / 2 ^ (r + 1) + v / 2 ^ r % 2 := by
 unfold cx;have hp : (0 : Int) < 2 ^ r := hL (by decide);rw [n5];generalize (2 : Int) ^ r = P at *
 have aG : (2 * v + P * 2) / (2 * (P * 2)) = (v + P) / (P * 2) := by
  rw [show 2 * v + P * 2 = 2 * (v + P) by omega, Int.mul_ediv_mul_of_pos _ _ (by decide)]
 rw [aG, ← yo (by omega), ← yo (by omega), show v + P = v + 1 * P by omega, Int.add_mul_ediv_right _ _ (by omega)];omega
theorem WN (x : Int) : bits BinOp.and IntKind.i64 x 1 = x % 2 := by
 unfold bits
 have h : (BitVec.ofInt 64 x &&& BitVec.ofInt 64 1).toNat = (x % 2).toNat := by
  rw [BitVec.toNat_and, BitVec.toNat_ofInt, BitVec.toNat_ofInt, show ((1 : Int) % ((2 ^ 64 : Nat) : Int)).toNat = 1 by decide, Nat.and_one_is_mod];omega
 show IntKind.i64.wrap ((BitVec.ofInt 64 x &&& BitVec.ofInt 64 1).toNat : Int) = x % 2;rw [h];have h2 : ((x % 2).toNat : Int) = x % 2 := by omega
 rw [h2];rcases (show x % 2 = 0 ∨ x % 2 = 1 by omega) with e | e <;> rw [e] <;> decide
theorem aio {v : Int} (r : Nat) (v0 : -9223372036854775808 ≤ v) (v1 : v < 9223372036854775808) : wrap64 (v / 2 ^ (r + 1) + v / 2 ^ r % 2) = cx v (r + 1) := by
 rw [YZ];refine T2 _ ?_;have hp : (0 : Int) < 2 ^ r := hL (by decide);rw [n5, ← yo (by omega)]
 have h1 : -9223372036854775808 ≤ v / 2 ^ r := by
  rw [oM hp];have := pO (show (1 : Int) ≤ 2 ^ r by omega) (show (0 : Int) ≤ 9223372036854775808 by omega);omega
 have h2 : v / 2 ^ r ≤ 9223372036854775807 := by
  by_cases h : 0 ≤ v
  ·have := Int.ediv_le_self (2 ^ r) h;omega
  ·have := Int.ediv_neg_of_neg_of_pos (show v < 0 by omega) hp;omega
 generalize v / 2 ^ r = q at *;omega
theorem YR (v k : Int) (w : World) (h : gg k 0) : Calls ag 41 #[.int .i64 v, .int .i64 k] w (ll (.int .i64 v) w) := by
 have mS := Lib.hid (fun w => AX k 0 w h);clear h
 go_enter Tryz.func41, Tryz.ntmps41
 go_wp2_with (go_at_call 75; ((with_reducible refine (mS.out _).mono ?_); rintro e w1 ⟨rfl, ab⟩))
 go_ret
 exact wQ rfl (by (repeat first | with_reducible assumption))
theorem YQ (v k : Int) (r : Nat) (w : World) (h : gg k (r + 1)) (v0 : -9223372036854775808 ≤ v) (v1 : v < 9223372036854775808) : Calls ag 41 #[.int .i64 v, .int .i64 k] w (ll (.int .i64 (cx v (r + 1))) w) := by
 have mS := Lib.hid (fun w => AX k (r + 1) w h);have w7 := Lib.hid (aio r v0 v1);have al : r < 28 := by unfold gg at h; omega
 clear h v0 v1
 go_enter Tryz.func41, Tryz.ntmps41
 go_wp2_with (go_at_call 75; ((with_reducible refine (mS.out _).mono ?_); rintro e w1 ⟨rfl, ab⟩))
 go_region
 go_wp2
 go_ret
 exact wQ (by rw [WN]; exact w7.out) (by (repeat first | with_reducible assumption | with_reducible refine Below.drew ?_))
theorem YP (v k : Int) (r : Nat) (w : World) (h : gg k r) (v0 : -9223372036854775808 ≤ v) (v1 : v < 9223372036854775808) : Calls ag 41 #[.int .i64 v, .int .i64 k] w (ll (.int .i64 (cx v r)) w) := by
 rcases r with _ | r
 ·rw [Y0]; exact YR v k w h
 ·exact YQ v k r w h v0 v1
theorem ajk {r : Nat} (h : r ≤ 28) : wrap64 (2 ^ r) = 2 ^ r := T2 _ (by have := A6 h; omega)
theorem aia (k : Int) (r : Nat) (w : World) (h : gg k r) : Calls ag 39 #[.int .i64 k] w (ll (.int .i64 (2 ^ r)) w) := by
 have mS := Lib.hid (fun w => AX k r w h);have al : r ≤ 28 := h.1;clear h
 go_enter Tryz.func39, Tryz.ntmps39
 go_wp2_with (go_at_call 75; ((with_reducible refine (mS.out _).mono ?_); rintro e w1 ⟨rfl, ab⟩))
 go_ret
 exact wQ (ajk al) (by (repeat first | with_reducible assumption))
def U5 (m : Int) (w : World) (e : Ending) (w' : World) : Prop := ∃ b, e = .returned (.func (Fn.func 114) #[] #[.pointer (some ⟨b, 0, none⟩)]) ∧ w'.cell? ⟨b, 0, none⟩ = some (.int .i64 m) ∧ Below w.heap.size w w'
theorem Q2 (k : Int) (r : Nat) (w : World) (h : gg k r) : Calls ag 74 #[.int .i64 k] w (U5 (134217728 / 2 ^ r) w) := by
 have mS := Lib.hid (fun w => AX k r w h);have al : r ≤ 28 := h.1;clear h
 go_enter Tryz.func74, Tryz.ntmps74
 go_wp2_with (go_at_call 75; ((with_reducible refine (mS.out _).mono ?_); rintro e w1 ⟨rfl, ab⟩))
 go_ret
 exact ⟨_, rfl, by go_simp, by (repeat first | with_reducible assumption | with_reducible refine dX ?_ _)⟩
def wi (m n : Int) : Bool := decide (-m ≤ n) && decide (n ≤ m)
theorem Er (b : Nat) (m n : Int) (w : World) (aj : w.cell? ⟨b, 0, none⟩ = some (.int .i64 m)) (m0 : 0 ≤ m) (m1 : m ≤ 134217728) : Calls ag 114 #[.int .i64 n, .pointer (some ⟨b, 0, none⟩)] w (ll (.bool (wi m n)) w) := by
 go_enter Tryz.func114, Tryz.ntmps114
 go_wp2
 ·go_ret
  exact ys (by unfold wi; rw [cd (show -m ≤ n by assumption)]; rfl) (Below.refl _ _)
 ·go_ret
  exact ys (by unfold wi; rw [cA (show ¬ (-m ≤ n) by omega)]; rfl) (Below.refl _ _)
def eA (r : Nat) (x y : Int) : Bool := wi (134217728 / 2 ^ r) x && wi (134217728 / 2 ^ r) y
theorem Hk (r : Nat) : (0 : Int) ≤ 134217728 / 2 ^ r ∧ (134217728 : Int) / 2 ^ r ≤ 134217728 := by
 have hp : (0 : Int) < 2 ^ r := hL (by decide);exact ⟨n6 (by decide) (by omega), Int.ediv_le_self _ (by decide)⟩
theorem KX (r : Nat) (n : Int) : wi (134217728 / 2 ^ r) n = decide (-134217728 ≤ 2 ^ r * n ∧ 2 ^ r * n ≤ 134217728) := by
 have hp : (0 : Int) < 2 ^ r := hL (by decide);unfold wi;rw [kR, c6, cg, cg, cg, gq];generalize (2 : Int) ^ r = P at *;have h1 := oM (a := n) (b := 134217728) hp;have h2 := oM (a := -n) (b := 134217728) hp;rw [Int.neg_mul] at h2
 constructor
 ·intro ⟨q1, q2⟩;exact ⟨by have := h2.1 (by omega); omega, h1.1 q2⟩
 ·intro ⟨q1, q2⟩;exact ⟨by have := h2.2 (by omega); omega, h1.2 q2⟩
theorem Ay (r : Nat) (x y : Int) : eA r x y = true ↔ (-134217728 ≤ 2 ^ r * x ∧ 2 ^ r * x ≤ 134217728) ∧ (-134217728 ≤ 2 ^ r * y ∧ 2 ^ r * y ≤ 134217728) := by
 unfold eA;rw [KX, KX, c6, cg, cg]
theorem UH (x y k : Int) (r : Nat) (w : World) (h : gg k r) : Calls ag 38 #[.agg #[.int .i64 x, .int .i64 y], .int .i64 k] w (ll (.bool (eA r x y)) w) := by
 have mS := Lib.hid (fun w => Q2 k r w h);obtain ⟨m0, m1⟩ := Hk r;have La := Lib.hid (show eA r x y = (wi (134217728 / 2 ^ r) x && wi (134217728 / 2 ^ r) y) from rfl);clear h;generalize (134217728 : Int) / 2 ^ r = M at *;have yQ := Lib.hid m0;have yR := Lib.hid m1;clear m0 m1
 go_enter Tryz.func38, Tryz.ntmps38
 go_wp2_with (first
  | (go_at_call 74; ((with_reducible refine (mS.out _).mono ?_); rintro e w1 ⟨b, rfl, aj, ab⟩; have T9 : c8 w1 (w.heap.size) (.int .i64 x) (.int .i64 y) := (by (repeat first | focus ((with_reducible refine c8.new ?_); simp; done) | with_reducible refine c8.call ?_ ab)); obtain ⟨⟨ajT, aj4⟩, aki, akm⟩ := id T9))
  | (go_at_call 114; ((with_reducible refine (Er b M x _ aj yQ.out yR.out).mono ?_); rintro e w2 ⟨rfl, di⟩; have ja := (di.cell (p := ⟨b, 0, none⟩) (World.block_lt_of_cell? _ _ aj)).trans aj; clear aj; have Ua : c8 w2 (w.heap.size) (.int .i64 x) (.int .i64 y) := (by (repeat first | with_reducible assumption | with_reducible refine c8.call ?_ di)); obtain ⟨⟨ajU, aj5⟩, akj, akn⟩ := id Ua))
  | (go_at_call 114; ((with_reducible refine (Er b M y _ ja yQ.out yR.out).mono ?_); rintro e w3 ⟨rfl, HV⟩)))
 ·go_ret
  exact ys (by rw [La.out]; simp_all) (by (repeat first | with_reducible exact Below.refl _ _ | with_reducible refine dX ?_ _ | with_reducible refine e5 ?_ HV | with_reducible refine e5 ?_ di | with_reducible refine e5 ?_ ab))
 ·go_ret
  exact ys (by rw [La.out]; simp_all) (by (repeat first | with_reducible exact Below.refl _ _ | with_reducible refine dX ?_ _ | with_reducible refine e5 ?_ di | with_reducible refine e5 ?_ ab))
theorem YO (k : Int) (w : World) : Calls ag 153 #[.int .i64 k] w (ll (.bool (decide (0 ≤ k) && decide (k ≤ 28))) w) := by
 go_enter Tryz.func153, Tryz.ntmps153
 go_wp2
 ·go_ret
  exact ys (by rw [cd (show 0 ≤ k by assumption)]; rfl) (Below.refl _ _)
 ·go_ret
  exact ys (by rw [cA (show ¬ (0 ≤ k) by omega)]; rfl) (Below.refl _ _)
theorem F5 (n m : Int) (w : World) : Calls ag 201 #[.int .i64 n, .int .i64 m] w (ll (.int .i64 (bR n m)) w) := by
 go_enter Tryz.func201, Tryz.ntmps201
 go_wp2
 all_goals
  go_ret
  refine wQ ?_ (Below.refl _ _);unfold bR
  repeat' split
  all_goals omega
def mI (x y x' y' : Int) : Int := if x = x' then bR y y' else bR x x'
theorem YN (x y x' y' : Int) (w : World) : Calls ag 182 #[.agg #[.int .i64 x, .int .i64 y], .agg #[.int .i64 x', .int .i64 y']] w (ll (.int .i64 (mI x y x' y')) w) := by
 have aS := Lib.hid (fun w => F5 x x' w);have bD := Lib.hid (fun w => F5 y y' w);have o4 : Hid (x = x' → bR y y' = mI x y x' y') := fun h => by unfold mI; rw [if_pos h]
 have lV : Hid (¬ (x = x') → bR x x' = mI x y x' y') := fun h => by unfold mI; rw [if_neg h]
 go_enter Tryz.func182, Tryz.ntmps182
 go_wp2_with (first
  | (go_at_call 201; ((with_reducible refine (aS.out _).mono ?_); rintro e w1 ⟨rfl, ab⟩))
  | (go_at_call 201; ((with_reducible refine (bD.out _).mono ?_); rintro e w1 ⟨rfl, ab⟩)))
 ·go_ret
  exact wQ (lV.out (by simpa using ‹(x != x') = true›)) (by (repeat first | with_reducible exact Below.refl _ _ | with_reducible refine dX ?_ _ | with_reducible refine e5 ?_ ab))
 ·go_ret
  exact wQ (o4.out (by simpa using ‹(x != x') = false›)) (by (repeat first | with_reducible exact Below.refl _ _ | with_reducible refine dX ?_ _ | with_reducible refine e5 ?_ ab))
end Go.Proofs.YtbcecodakfejaaaGreat
namespace Go.Proofs.YtbcecodakfejaaaGreat
open Go.RowKit
attribute [local go_sem ↓] Go.wp_at_zero Go.wp_at_succ
end Go.Proofs.YtbcecodakfejaaaGreat
namespace Go.Proofs.YtbcecodakfejaaaGreat
open Go.RowKit
attribute [local go_sem ↓] Go.wp_at_zero Go.wp_at_succ
def Lr (s : Bool) (z : Int) (w : World) (e : Ending) (w' : World) : Prop := ∃ H L, e = .returned (.tuple #[.agg #[.int .i64 H, .int .u64 L], .bool s]) ∧ c0 H L z ∧ Below w.heap.size w w'
def Cf (v : Int) (b : Bool) (w : World) (e : Ending) (w' : World) : Prop := e = .returned (.tuple #[.int .i64 v, .bool b]) ∧ Below w.heap.size w w'
def Ve (w : World) (s : Bool) (z : Int) (u v : Value) (W : World) : Prop := ∃ g pc k5, u = .pointer (some ⟨g, 0, none⟩) ∧ v = .bool s ∧ c0 pc k5 z ∧ c8 W g (.int .i64 pc) (.int .u64 k5) ∧ Below w.heap.size w W
theorem KA (aF rV aM cm k : Int) (r : Nat) (s : Bool) (z v : Int) (b : Bool) (w : World) (h : gg k r)
  (K9 : ∀ w, Calls ag 161 #[.agg #[.int .i64 aF, .int .u64 rV, .int .i64 aM, .int .u64 cm], .int .i64 r] w (Lr s z w))
  (hv : (s = false ∧ v = 0 ∧ b = false) ∨ (s = true ∧ small z = false ∧ v = 0 ∧ b = false) ∨ (s = true ∧ small z = true ∧ wi (134217728 / 2 ^ r) z = false ∧ v = 0 ∧ b = false) ∨ (s = true ∧ small z = true ∧ wi (134217728 / 2 ^ r) z = true ∧ v = z ∧ b = true)) :
  Calls ag 143 #[.agg #[.int .i64 aF, .int .u64 rV, .int .i64 aM, .int .u64 cm], .int .i64 k] w (Cf v b w) := by
 have K8 := Lib.hid (fun w => AX k r w h);have F7 := Lib.hid (fun w => Q2 k r w h);have w7 := Lib.hid K9;obtain ⟨m0, m1⟩ := Hk r;clear h K9;generalize (134217728 : Int) / 2 ^ r = M at *;have yQ := Lib.hid m0;have yR := Lib.hid m1;have pZ := Lib.hid hv;clear m0 m1 hv
 go_enter Tryz.func143, Tryz.ntmps143
 go_upto_region 1 with fail
 have fB : hN (w.alloc (.cells #[.int .i64 aF, .int .u64 rV, .int .i64 aM, .int .u64 cm] 148)) w.heap.size (.int .i64 aF) (.int .u64 rV) (.int .i64 aM) (.int .u64 cm) := (by (repeat first | focus ((with_reducible refine hN.new ?_); simp; done)));have GU : Below w.heap.size w (w.alloc (.cells #[.int .i64 aF, .int .u64 rV, .int .i64 aM, .int .u64 cm] 148)) := (by (repeat first | with_reducible exact Below.refl _ _ | with_reducible refine dX ?_ _))
 go_cut [6, 7] (fun u v ve => Ve w s z u v ve)
 case first =>
  clear pZ F7
  go_region_held3 (fun w' => w'.cell? ⟨w.heap.size, 0, none⟩ = some (.int .i64 aF) ∧ w'.cell? ⟨w.heap.size, 1, none⟩ = some (.int .u64 rV) ∧ w'.cell? ⟨w.heap.size, 2, none⟩ = some (.int .i64 aM) ∧ w'.cell? ⟨w.heap.size, 3, none⟩ = some (.int .u64 cm))
   (((refine hN.cs ?_); ((repeat first | with_reducible assumption | with_reducible refine hN.alloc ?_ _ | with_reducible refine hN.drew ?_ | focus ((with_reducible refine hN.set ?_ _ ?_); rotate_left; omega) | with_reducible refine hN.call ?_ di | with_reducible refine hN.call ?_ dt); done)))
   (first
    | (go_at_call 75; ((with_reducible refine (K8.out _).mono ?_); rintro e w1 ⟨rfl, dt⟩; have abk := Below.size dt; (try simp at abk)))
    | (go_at_call 161; ((with_reducible refine (w7.out _).mono ?_); rintro e w2 ⟨ai4, ai5, rfl, hu, di⟩; have IX := Below.size di; (try simp at IX); (try ((refine M5 (p := c8 w2 (w.heap.size + 1) (.int .i64 0) (.int .u64 0)) ?_ ?_); (repeat first | focus ((with_reducible refine c8.new ?_); simp; done) | with_reducible refine c8.alloc ?_ _ | with_reducible refine c8.drew ?_ | with_reducible refine c8.call ?_ di | with_reducible refine c8.call ?_ dt); intro BP; obtain ⟨⟨ajV, aj6⟩, akk, ako⟩ := id BP; have alc := c8.lt BP; have alj := Nat.ne_of_gt (c8.lt BP); have alh := Nat.ne_of_lt (c8.lt BP))); (try ((refine M5 (p := c8 w2 (w1.heap.size) (.int .i64 0) (.int .u64 0)) ?_ ?_); (repeat first | focus ((with_reducible refine c8.new ?_); simp; done) | with_reducible refine c8.alloc ?_ _ | with_reducible refine c8.drew ?_ | with_reducible refine c8.call ?_ di | with_reducible refine c8.call ?_ dt); intro BQ; obtain ⟨⟨ajW, aj7⟩, akl, akp⟩ := id BQ; have ald := c8.lt BQ; have alk := Nat.ne_of_gt (c8.lt BQ); have ali := Nat.ne_of_lt (c8.lt BQ))))))
  all_goals
   go_wp2_with fail
   go_meet
   refine ⟨_, ai4, ai5, rfl, rfl, hu, ?_, ?_⟩
   ·(repeat first | focus ((with_reducible refine c8.new ?_); simp; done) | with_reducible refine c8.put ?_ | focus ((with_reducible apply vm.of); with_reducible assumption))
   ·(repeat first | with_reducible assumption | with_reducible refine dX ?_ _ | focus ((with_reducible refine hO ?_ _ _ _ ?_); rotate_left; omega) | with_reducible refine Below.drew ?_ | with_reducible refine e5 ?_ di | with_reducible refine e5 ?_ dt)
 case rest =>
  obtain ⟨g, pc, k5, rfl, rfl, an, rH, iq⟩ := hcut;clear fB GU w7 K8;obtain ⟨⟨BK, b4⟩, ck, hM⟩ := id rH;rcases pZ.out with ⟨rfl, rfl, rfl⟩ | ⟨rfl, q, rfl, rfl⟩ | ⟨rfl, q, cf, rfl, rfl⟩ | ⟨rfl, q, cf, rfl, rfl⟩
  ·clear pZ
   go_wp2
   go_ret2
   exact ⟨rfl, by (repeat first | with_reducible assumption)⟩
  ·have yN : Hid (∀ w, Calls ag 162 #[.agg #[.int .i64 pc, .int .u64 k5]] w (Cf 0 false w)) := fun w => (Gu pc k5 z w an).mono fun e w' k => by unfold xd at k; rw [q] at k; exact k
   clear pZ q
   go_wp2_with (first
    | (go_at_call 162; ((with_reducible refine (yN.out _).mono ?_); rintro e kz ⟨rfl, vP⟩)))
   go_ret2
   exact ⟨rfl, by (repeat first | with_reducible assumption | with_reducible refine e5 ?_ vP)⟩
  ·have yN : Hid (∀ w, Calls ag 162 #[.agg #[.int .i64 pc, .int .u64 k5]] w (Cf z true w)) := fun w => (Gu pc k5 z w an).mono fun e w' k => by unfold xd at k; rw [q] at k; exact k
   have vk : Hid (∀ b w, w.cell? ⟨b, 0, none⟩ = some (.int .i64 M) → Calls ag 114 #[.int .i64 z, .pointer (some ⟨b, 0, none⟩)] w (ll (.bool false) w)) := fun b w aj => by have := Er b M z w aj yQ.out yR.out; rw [cf] at this; exact this
   clear pZ q cf
   go_wp2_with (first
    | (go_at_call 162; ((with_reducible refine (yN.out _).mono ?_); rintro e kz ⟨rfl, vP⟩))
    | (go_at_call 74; ((with_reducible refine (F7.out _).mono ?_); rintro e ajg ⟨b, rfl, aj, HW⟩))
    | (go_at_call 114; ((with_reducible refine (vk.out _ _ aj).mono ?_); rintro e ajh ⟨rfl, HX⟩)))
   go_ret2
   exact ⟨rfl, by (repeat first | with_reducible assumption | with_reducible refine e5 ?_ HX | with_reducible refine e5 ?_ HW | with_reducible refine e5 ?_ vP)⟩
  ·have yN : Hid (∀ w, Calls ag 162 #[.agg #[.int .i64 pc, .int .u64 k5]] w (Cf v true w)) := fun w => (Gu pc k5 v w an).mono fun e w' k => by unfold xd at k; rw [q] at k; exact k
   have vk : Hid (∀ b w, w.cell? ⟨b, 0, none⟩ = some (.int .i64 M) → Calls ag 114 #[.int .i64 v, .pointer (some ⟨b, 0, none⟩)] w (ll (.bool true) w)) := fun b w aj => by have := Er b M v w aj yQ.out yR.out; rw [cf] at this; exact this
   clear pZ q cf
   go_wp2_with (first
    | (go_at_call 162; ((with_reducible refine (yN.out _).mono ?_); rintro e kz ⟨rfl, vP⟩))
    | (go_at_call 74; ((with_reducible refine (F7.out _).mono ?_); rintro e ajg ⟨b, rfl, aj, HW⟩))
    | (go_at_call 114; ((with_reducible refine (vk.out _ _ aj).mono ?_); rintro e ajh ⟨rfl, HX⟩)))
   go_ret2
   exact ⟨rfl, by (repeat first | with_reducible assumption | with_reducible refine e5 ?_ HX | with_reducible refine e5 ?_ HW | with_reducible refine e5 ?_ vP)⟩
theorem ajj {r : Nat} {z : Int} (h : wi (134217728 / 2 ^ r) z = true) : small z = true := by
 obtain ⟨m0, m1⟩ := Hk r;unfold wi at h;rw [c6, cg, cg] at h;unfold small;rw [cg];omega
end Go.Proofs.YtbcecodakfejaaaGreat
namespace Go.Proofs.YtbcecodakfejaaaGreat
open Go.RowKit
section
variable {U : Nat → Prop} {ad : Nat → Nat} {W : World}
theorem S3 : ∀ (xs : List AC) (r vs : List Value), uc xs = some r → bM U ad W xs vs → vs = r
 | [], r, vs, h, hv => by cases h; exact ks hv.1.symm
 | .c v :: xs, r, vs, h, hv => by
  simp only [uc] at h
  split at h
  ·rename_i aV al;cases h
   match vs, hv with
   | [], hv => exact absurd hv.1 (by simp)
   | u :: vs, hv =>
    have aA := (hv.2 0 _ u rfl rfl).1;have b9 := S3 xs aV vs al ⟨by have := hv.1; simp at this; exact this, fun i x w aa hw => hv.2 (i + 1) x w (by simpa using aa) (by simpa using hw)⟩;rw [aA, b9]
  ·cases h
 | .own _ _ :: _, _, _, h, _ => by cases h
 | .p _ :: _, _, _, h, _ => by cases h
theorem S8 {x : bA} {u v : Value} (h : mZ x = some u) (hv : gh U ad W x v) : v = u := by
 cases x with
 | one y => cases y with
  | c w => cases h; exact hv.1
  | own => cases h
  | p => cases h
 | agg xs =>
  simp only [mZ] at h
  split at h
  ·rename_i r al;cases h;obtain ⟨vs, rfl, hl⟩ := hv;rw [S3 xs r vs al hl]
  ·cases h
theorem S5 : ∀ (xs : List bA) (r vs : List Value), xx xs = some r → xs.length = vs.length → (∀ (i : Nat) (x : bA) (v : Value), xs[i]? = some x → vs[i]? = some v → gh U ad W x v) → vs = r
 | [], r, vs, h, hl, _ => by cases h; exact ks hl.symm
 | x :: xs, r, vs, h, hl, hv => by
  simp only [xx] at h
  split at h
  ·rename_i v aV h1 al;cases h
   match vs, hl, hv with
   | u :: vs, hl, hv =>
    rw [S8 h1 (hv 0 x u rfl rfl), S5 xs aV vs al (by simpa using hl) fun i y w ai hw => hv (i + 1) y w (by simpa using ai) (by simpa using hw)]
  ·cases h
theorem ahn {x : ah} {u v : Value} (h : rC x = some u) (hv : de U ad W x v) : v = u := by
 cases x with
 | w y => exact S8 h hv
 | cz xs =>
  simp only [rC] at h
  split at h
  ·rename_i r al;cases h;obtain ⟨vs, rfl, hl, aa⟩ := hv;rw [S5 xs r vs al hl aa]
  ·cases h
end
theorem MN {P : Program} {f : FuncId} {args : List ah} {r : ah} (h : au P f args r) (jM : List Value) (cb : Value) (he : args.map rC = jM.map some) (ok : args.all JK = true) (al : rC r = some cb) (W : World) : Calls P f jM.toArray W fun e bk => e = .returned cb ∧ Below W.heap.size W bk :=
 (h.call (fun _ => True) W jM ⟨by have := congrArg List.length he; simpa using this, fun i x v aa hv => by
  have h1 : (args.map rC)[i]? = some (rC x) := by rw [dL, aa]; rfl
  rw [he, dL, hv] at h1;have h2 : some v = rC x := lc h1;exact Kh h2.symm (cB.1 ok x (dc aa))⟩).mono fun e bk ⟨v, pp, hv, ab⟩ => by
  rw [ahn al hv] at pp;exact ⟨pp, ab⟩
theorem RE {v k : Int} {r : Nat} (h : gg k r) (v0 : -9223372036854775808 ≤ v) (v1 : v < 9223372036854775808) : au ag 41 [ax v, ax k] (ax (cx v r)) :=
 hZ [.int .i64 v, .int .i64 k] (.int .i64 (cx v r)) rfl rfl rfl rfl rfl fun W => YP v k r W h v0 v1
theorem RY {k : Int} {r : Nat} (h : gg k r) : au ag 39 [ax k] (ax (2 ^ r)) :=
 hZ [.int .i64 k] (.int .i64 (2 ^ r)) rfl rfl rfl rfl rfl fun W => aia k r W h
theorem aft {k : Int} : au ag 153 [ax k] (a7 (decide (0 ≤ k) && decide (k ≤ 28))) :=
 hZ [.int .i64 k] (.bool (decide (0 ≤ k) && decide (k ≤ 28))) rfl rfl rfl rfl rfl fun W => YO k W
theorem A3 {x y k : Int} {r : Nat} {b : Bool} (h : gg k r) (ab : eA r x y = b) : au ag 38 [aE x y, ax k] (a7 b) := by
 subst ab;exact hZ [.agg #[.int .i64 x, .int .i64 y], .int .i64 k] (.bool (eA r x y)) rfl rfl rfl rfl rfl fun W => UH x y k r W h
theorem afs {x y x' y' : Int} : au ag 182 [aE x y, aE x' y'] (ax (mI x y x' y')) :=
 hZ [.agg #[.int .i64 x, .int .i64 y], .agg #[.int .i64 x', .int .i64 y']] (.int .i64 (mI x y x' y')) rfl rfl rfl rfl rfl fun W => YN x y x' y' W
theorem EQ {x y k : Int} {r : Nat} (h : gg k r) (BK : -9223372036854775808 ≤ x) (b4 : x < 9223372036854775808) (mO : -9223372036854775808 ≤ y) (iG : y < 9223372036854775808) : au ag 18 [aE x y, ax k] (aE (cx x r) (cx y r)) := by
 refine bd (f := 18) Tryz.func18 rfl rfl rfl rfl ?_;(repeat first | refine dv ?_ | refine ff (RE h BK b4) ?_ | refine ff (RE h mO iG) ?_)
 ((refine aW rfl (cD rfl rfl rfl aJ) ?_))
 exact ah.aK.refl _
theorem qO {x y k : Int} {r : Nat} (h : gg k r) (ab : eA r x y = true) : au ag 13 [aE x y, ax k] (aE (2 ^ r * x) (2 ^ r * y)) := by
 obtain ⟨⟨q1, q2⟩, bB, cS⟩ := (Ay r x y).1 ab;have aS := A3 h ab;have bD := RY h;clear h ab;generalize (2 : Int) ^ r = P at *;refine bd (f := 13) Tryz.func13 rfl rfl rfl rfl ?_;(refine bS ?_)
 ((refine aW rfl (cD rfl rfl rfl aJ) ?_))
 exact ah.aK.refl _
theorem ae2 {x y k : Int} {r : Nat} (h : gg k r) (ab : eA r x y = true) : au ag 154 [aE x y, ax k] (.cz [.agg [.c (.int .i64 (2 * (2 ^ r * x) - 2 ^ r)), .c (.int .i64 (2 * (2 ^ r * y) - 2 ^ r))], .agg [.c (.int .i64 (2 * (2 ^ r * x) + 2 ^ r)), .c (.int .i64 (2 * (2 ^ r * y) + 2 ^ r))]]) := by
 obtain ⟨⟨q1, q2⟩, bB, cS⟩ := (Ay r x y).1 ab;obtain ⟨lH, J6⟩ := A6 h.1;have aS := A3 h ab;have bD := RY h;have dW := qO h ab;clear h ab;generalize (2 : Int) ^ r = P at *;generalize P * x = X at *;generalize P * y = Y at *;refine bd (f := 154) Tryz.func154 rfl rfl rfl rfl ?_;(refine bS ?_)
 ((refine aW rfl (cD rfl rfl rfl (cD rfl rfl rfl aJ)) ?_))
 exact ah.aK.refl _
def tC (n d : Int) (r : Nat) : Bool := decide (0 < d) && wi (134217728 / 2 ^ r) (mi n d r)
def FD (n d : Int) (r : Nat) : Int := if tC n d r then mi n d r else 0
theorem RZ {n d k : Int} {r : Nat} (h : gg k r) (f : fits n = true) (g : fits d = true) : au ag 143 [fv n d, ax k] (.cz [.one (.c (.int .i64 (FD n d r))), .one (.c (.bool (tC n d r)))]) := by
 refine hZ [fx n d, .int .i64 k] (.tuple #[.int .i64 (FD n d r), .bool (tC n d r)]) rfl rfl rfl rfl rfl fun W => ?_;unfold FD tC
 by_cases hd : 0 < d
 ·have Gt : ∀ w, Calls ag 161 #[fx n d, .int .i64 r] w (Lr true (mi n d r) w) := fun w => (MN (afp f g hd (by have := h.1; omega)) [fx n d, .int .i64 r] (.tuple #[ve (mi n d r), .bool true]) rfl rfl rfl w).mono fun e w' k => ⟨_, _, k.1, l8 (YD f hd g (by have := h.1; omega)), k.2⟩;rw [cd hd, oN];cases hw : wi (134217728 / 2 ^ r) (mi n d r) with
  | true => exact KA _ _ _ _ k r true _ _ true W h Gt (.inr (.inr (.inr ⟨rfl, ajj hw, hw, rfl, rfl⟩)))
  | false =>
   refine KA _ _ _ _ k r true _ 0 false W h Gt ?_;cases hs : small (mi n d r)
   ·exact .inr (.inl ⟨rfl, rfl, rfl, rfl⟩)
   ·exact .inr (.inr (.inl ⟨rfl, rfl, hw, rfl, rfl⟩))
 ·rw [cA hd, Bool.false_and];exact KA _ _ _ _ k r false 0 0 false W h (fun w => (MN (afq (k := r) f g (.inl hd)) [fx n d, .int .i64 r] (.tuple #[ve 0, .bool false]) rfl rfl rfl w).mono fun e w' k => ⟨_, _, k.1, x3, k.2⟩) (.inl ⟨rfl, rfl, rfl⟩)
theorem aeA {n d n' d' k : Int} {r : Nat} {b : Bool} (h : gg k r) (f : fits n = true) (g : fits d = true) (ls : fits n' = true) (jP : fits d' = true) (ab : (tC n d r && tC n' d' r) = b) :
  au ag 122 [fv n d, fv n' d', ax k] (.cz [.agg [.c (.int .i64 (if b then mi n d r else 0)), .c (.int .i64 (if b then mi n' d' r else 0))], .one (.c (.bool b))]) := by
 have aS := RZ h f g;have bD := RZ h ls jP;clear h f g ls jP;unfold FD at aS bD;cases q1 : tC n d r <;> cases q2 : tC n' d' r <;> rw [q1] at aS <;> rw [q2] at bD <;> rw [q1, q2] at ab <;> subst ab <;> clear q1 q2
 all_goals
  generalize mi n d r = X at *;generalize mi n' d' r = Y at *;refine bd (f := 122) Tryz.func122 rfl rfl rfl rfl ?_;(refine bS ?_)
  ((refine aW rfl (cD rfl rfl rfl (aY rfl aJ)) ?_))
  exact ah.aK.refl _
theorem EM {k : Int} {r : Nat} (h : gg k r) : au ag 25 [ax k] (ax r) := by
 obtain ⟨aA, h1⟩ := h;have af : (r : Int) ≤ 28 := by omega
 rcases h1 with ⟨h1, rfl⟩ | ⟨h1, rfl⟩ | rfl
 all_goals
  refine bd (f := 25) Tryz.func25 rfl rfl rfl rfl ?_;(refine eF ?_)
  ((refine aW rfl (aY rfl aJ) ?_))
  exact ah.aK.refl _
def EC (n : Int) (r : Nat) : Bool := decide (-134217728 ≤ n * 2 ^ r) && decide (n * 2 ^ r ≤ 134217728)
theorem adY (n : Int) (r : Nat) : EC n r = wi (134217728 / 2 ^ r) n := by
 rw [KX];unfold EC;rw [kR, c6, cg, cg, cg, gq]
theorem RM {n : Int} {r : Nat} {b : Bool} (aw : bj 200 n) (al : r ≤ 28) (ab : EC n r = b) : au ag 65 [cc n, ax r] (a7 b) := by
 have aS : au ag 108 [ax r] (cc (2 ^ r)) := RV (by omega)
 have bD : au ag 108 [ax 27] (cc 134217728) := by
  have X7 : (2 : Int) ^ 27 = 134217728 := by decide
  have := RV (k := 27) (by omega);rw [X7] at this;exact this
 have dW : au ag 77 [cc n, cc (2 ^ r)] (cc (n * 2 ^ r)) := qP (aw.up (by omega)) ((bj.Sc r).up (by omega));have js : au ag 109 [cc 134217728] (cc (-134217728)) := E1 ((bj.uO (by decide)).up (show 10 ≤ 1000 by omega));have JF : bj 1000 (n * 2 ^ r) := (aw.mul (bj.Sc r)).up (by omega);have mQ : au ag 76 [cc (n * 2 ^ r), cc (-134217728)] (ax (bR (n * 2 ^ r) (-134217728))) := wK JF ((bj.uO (by decide)).up (show 10 ≤ 1000 by omega));have yJ : au ag 76 [cc (n * 2 ^ r), cc 134217728] (ax (bR (n * 2 ^ r) 134217728)) := wK JF ((bj.uO (by decide)).up (show 10 ≤ 1000 by omega));have i1 := I1 (a := n * 2 ^ r) (b := -134217728);have i2 : bR (n * 2 ^ r) 134217728 ≤ 0 ↔ n * 2 ^ r ≤ 134217728 := by unfold bR; repeat' split <;> omega
 unfold EC at ab;generalize n * 2 ^ r = z at *;generalize bR z (-134217728) = a1 at *;generalize bR z 134217728 = a2 at *
 have cs : (0 ≤ a1 ∧ a2 ≤ 0 ∧ b = true) ∨ (0 ≤ a1 ∧ ¬ a2 ≤ 0 ∧ b = false) ∨ (¬ 0 ≤ a1 ∧ b = false) := by
  rw [← ab]
  by_cases p1 : -134217728 ≤ z <;> by_cases p2 : z ≤ 134217728 <;> simp [p1, p2] <;> omega
 clear ab aw JF i1 i2;have Ad : (r : Int) ≤ 28 := by omega
 rcases cs with ⟨p1, p2, rfl⟩ | ⟨p1, p2, rfl⟩ | ⟨p1, rfl⟩
 ·refine bd (f := 65) Tryz.func65 rfl rfl rfl rfl ?_;(repeat first | refine dv ?_ | refine e7 ?_ | (with_reducible apply bP (c := true)); rfl; rfl; (exact cd (by omega)))
  ((refine aW rfl (aY rfl aJ) ?_))
  exact ah.aK.of_eq (by rw [cd p2]; rfl)
 ·refine bd (f := 65) Tryz.func65 rfl rfl rfl rfl ?_;(repeat first | refine dv ?_ | refine e7 ?_ | (with_reducible apply bP (c := true)); rfl; rfl; (exact cd (by omega)))
  ((refine aW rfl (aY rfl aJ) ?_))
  exact ah.aK.of_eq (by rw [cA p2]; rfl)
 ·refine bd (f := 65) Tryz.func65 rfl rfl rfl rfl ?_;(repeat first | refine dv ?_ | refine e7 ?_ | (with_reducible apply bP (c := false)); rfl; rfl; (exact cA (by omega)))
  ((refine aW rfl (aY rfl aJ) ?_))
  exact ah.aK.refl _
theorem afM {x y k : Int} {r : Nat} {b : Bool} (h : gg k r) (BK : -9223372036854775808 ≤ x) (b4 : x < 9223372036854775808) (mO : -9223372036854775808 ≤ y) (iG : y < 9223372036854775808) (ab : eA r x y = b) : au ag 35 [aE x y, ax k] (a7 b) := by
 have aS := EM h;have bD := E2 BK b4;have dW := E2 mO iG;have cE : bj 200 x := (bj.uO (CY BK b4)).up (by omega);have cP : bj 200 y := (bj.uO (CY mO iG)).up (by omega);have js := RM cE h.1 rfl;have mQ := RM cP h.1 rfl;rw [adY] at js mQ;unfold eA at ab;clear h cE cP;cases q1 : wi (134217728 / 2 ^ r) x <;> cases q2 : wi (134217728 / 2 ^ r) y <;> rw [q1] at js <;> rw [q2] at mQ <;> rw [q1, q2] at ab <;> subst ab <;> clear q1 q2
 all_goals
  refine bd (f := 35) Tryz.func35 rfl rfl rfl rfl ?_;(refine bS ?_)
  ((refine aW rfl (aY rfl aJ) ?_))
  exact ah.aK.refl _
end Go.Proofs.YtbcecodakfejaaaGreat
namespace Go.Proofs.YtbcecodakfejaaaGreat
abbrev dG := Int × Int × Int
def mH (x y z w : Int) : Bool := decide (x < z) || (decide (x = z) && decide (y < w))
theorem pD {x y z w : Int} : mH x y z w = true ↔ x < z ∨ (x = z ∧ y < w) := by
 unfold mH; simp
def uW (l : List dG) (x y : Int) : List dG := l.filter fun e => mH e.1 e.2.1 x y
def E7 (l : List dG) (x y : Int) : List dG := l.filter fun e => mH x y e.1 e.2.1
def tn (l : List dG) (x y v : Int) : List dG := uW l x y ++ (x, y, v) :: E7 l x y
def uh (l : List dG) (x y : Int) : Int := match l.findIdx? fun e => decide (e.1 = x) && decide (e.2.1 = y) with
 | some k => k
 | none => -1
def kC (l : List dG) : Prop := l.Pairwise fun a b => mH a.1 a.2.1 b.1 b.2.1 = true
theorem aex {a b c d e f : Int} (h1 : mH a b c d = true) (h2 : mH c d e f = true) : mH a b e f = true := by
 rw [pD] at *; omega
theorem agx {l : List dG} (h : kC l) (x y v : Int) : kC (tn l x y v) := by
 unfold tn uW E7 kC;rw [List.pairwise_append, jK];refine ⟨h.filter _, ⟨fun e he => ?_, h.filter _⟩, fun a aF b ab => ?_⟩
 ·exact (tp.1 he).2
 ·have h1 := (tp.1 aF).2;rcases fl.1 ab with rfl | ab
  ·exact h1
  ·exact aex h1 (tp.1 ab).2
def hQ (l : List dG) (x y : Int) : Bool := l.any fun e => decide (e.1 = x) && decide (e.2.1 = y)
theorem Oa (l : List dG) (x y : Int) : decide (0 ≤ uh l x y) = hQ l x y := by
 unfold uh hQ;cases h : l.findIdx? fun e => decide (e.1 = x) && decide (e.2.1 = y) with
 | none =>
  rw [List.findIdx?_eq_none_iff] at h
  have : (l.any fun e => decide (e.1 = x) && decide (e.2.1 = y)) = false := by
   rw [List.any_eq_false]; intro e he; rw [h e he]; decide
  rw [this]; rfl
 | some k =>
  have aA := List.findIdx?_eq_some_iff_getElem.1 h;obtain ⟨af, h1, _⟩ := aA;have : (l.any fun e => decide (e.1 = x) && decide (e.2.1 = y)) = true := uY.2 ⟨l[k], List.getElem_mem af, h1⟩;rw [this]; simp
theorem YU {l : List dG} {x y : Int} (h : 0 ≤ uh l x y) : ∃ k v, uh l x y = (k : Nat) ∧ k < l.length ∧ l[k]? = some (x, y, v) := by
 unfold uh at h ⊢;cases ap : l.findIdx? fun e => decide (e.1 = x) && decide (e.2.1 = y) with
 | none => rw [ap] at h; simp at h
 | some k =>
  obtain ⟨af, h1, _⟩ := List.findIdx?_eq_some_iff_getElem.1 ap;simp only [c6, cg] at h1;refine ⟨k, l[k].2.2, rfl, af, ?_⟩;rw [bN af];congr 1;exact ku h1.1 (ku h1.2 rfl)
def oU (l : List dG) (x y : Int) : Int := match l.findIdx? fun e => decide (e.1 = x) && decide (e.2.1 = y) with
 | some k => (l.getD k (0, 0, 0)).2.2
 | none => 0
theorem ajc {l : List dG} {x y v : Int} {k : Nat} (h : uh l x y = k) (hl : l[k]? = some (x, y, v)) : oU l x y = v := by
 unfold uh at h;unfold oU;cases ap : l.findIdx? fun e => decide (e.1 = x) && decide (e.2.1 = y) with
 | none => rw [ap] at h; simp at h
 | some j =>
  rw [ap] at h;have : j = k := by simp at h; omega
  subst this;simp only [gF, hl]; rfl
theorem aja {l : List dG} {x y : Int} (h : hQ l x y = false) : oU l x y = 0 := by
 have h2 := Oa l x y;rw [h] at h2;unfold uh at h2;unfold oU;cases ap : l.findIdx? fun e => decide (e.1 = x) && decide (e.2.1 = y) with
 | none => rfl
 | some j => rw [ap] at h2; simp at h2
theorem agv (l : List dG) (x y : Int) : (uW l x y).length ≤ l.length := List.length_filter_le _ _
theorem TR {l : List dG} (h : kC l) {x y v : Int} (hm : (x, y, v) ∈ l) : hQ l x y = true ∧ oU l x y = v := by
 have aR : hQ l x y = true := uY.2 ⟨_, hm, by simp⟩;have an := Oa l x y;rw [aR] at an;obtain ⟨k, u, h1, h2, h3⟩ := YU (of_decide_eq_true an);refine ⟨aR, ?_⟩;rw [ajc h1 h3];obtain ⟨j, ae⟩ := j1 hm;have sW := (bL.1 ae).1;have ik : l[k] = (x, y, u) := (bL.1 h3).2;have ij : l[j] = (x, y, v) := (bL.1 ae).2;unfold kC at h;rw [List.pairwise_iff_getElem] at h;rcases Nat.lt_trichotomy k j with q | q | q
 ·have := h k j h2 sW q;rw [ik, ij, pD] at this;simp at this
 ·subst q;rw [ik] at ij;cases ij; rfl
 ·have := h j k sW h2 q;rw [ik, ij, pD] at this;simp at this
end Go.Proofs.YtbcecodakfejaaaGreat
namespace Go.Proofs.YtbcecodakfejaaaGreat
open Go.RowKit
def ek : List dG → List AC
 | [] => []
 | e :: l => .c (.int .i64 e.1) :: .c (.int .i64 e.2.1) :: .c (.int .i64 e.2.2) :: ek l
theorem Hg : ∀ (l : List dG) (i : Nat) (e : dG), l[i]? = some e → ((ek l).drop (i * 3)).take 3 = [.c (.int .i64 e.1), .c (.int .i64 e.2.1), .c (.int .i64 e.2.2)]
 | [], i, p, h => by simp at h
 | q :: l, 0, p, h => by simp at h; subst h; simp [ek]
 | q :: l, i + 1, p, h => by
  have e : (i + 1) * 3 = i * 3 + 1 + 1 + 1 := by omega
  rw [e];simp only [ek, List.drop_succ_cons];exact Hg l i p (by simpa using h)
theorem Ny {l : List dG} {j : Int} {i : Nat} {x y v : Int} (ae : j = i) (h : l[i]? = some (x, y, v)) : ((ek l).drop (j.toNat * 3)).take 3 = [.c (.int .i64 x), .c (.int .i64 y), .c (.int .i64 v)] := by
 subst ae;exact Hg l i (x, y, v) h
theorem zn : ∀ (l : List dG), (ek l).length = l.length * 3
 | [] => rfl
 | p :: l => by simp only [ek, jj, zn l]; omega
theorem zm : ∀ (l m : List dG), ek (l ++ m) = ek l ++ ek m
 | [], _ => rfl
 | p :: l, m => by simp only [List.cons_append, ek, zm l m]
theorem Nu : ∀ (l : List dG), (ek l).all AC.aZ = true
 | [] => rfl
 | p :: l => by simp only [ek, kt, Nu l]; rfl
abbrev jX (x y : Int) : List AC := [.c (.int .i64 x), .c (.int .i64 y)]
abbrev tE (k : Nat) : ah := .w (.one (.own k 0))
def mg (n : Int) : Int := if n < 1 then 1 else if 1024 < n then 1024 else n
def lG (l : List ao) (x y : Int) : Int := match l.findIdx? fun e => decide (e.1 = x) && decide (e.2 = y) with
 | some k => k
 | none => -1
def yY (P : Program) (f : FuncId) (args : List ah) (r : bG) (post : ah → bG → Prop) : Prop :=
 ∀ i, du P f args cj (bC i r) fun v aH ay => ∃ aV, aH = cj ∧ ay = bC i aV ∧ post v aV
theorem SO {args : List ah} (aF : args.all ah.aZ = true) : args.map (ah.a6 fun j => j) = args := by
 rw [cB] at aF
 conv => rhs; rw [← List.map_id args]
 exact np fun x aa => u6 (aF x aa)
theorem agV {P : Program} {f : FuncId} {args : List ah} {r : bG} {post : ah → bG → Prop} (aF : args.all ah.aZ = true) (hp : ∀ v aV, post v aV → v.aZ = true)
  (h : du P f args cj (bC 0 r) fun v aH ay => ∃ aV, aH = cj ∧ ay = bC 0 aV ∧ post v aV) : yY P f args r post := by
 intro i;have h1 := h.a6 (bF := fun j => j) (ca := swp 0 i) (iV := swp 0 i) (fun _ => rfl) (nv _ _) (nv _ _);rw [SO aF, show Mem.a6 (fun j => j) cj = cj from rfl, Bh] at h1;refine ⟨fun U ad W vs cq cy cW => (h1.call U ad W vs cq cy cW).mono ?_⟩;rintro e bk ⟨v, bV, aH, ay, aX, cR, q0, ⟨cC, m2, ev, ⟨aV, rfl, rfl, ak⟩, rfl, rfl, rfl⟩, q⟩;rw [show Mem.a6 (fun j => j) cj = cj from rfl, Bh, u6 (hp _ _ ak)] at q;exact ⟨v, cC, cj, bC i aV, aX, cR, q0, ⟨aV, rfl, rfl, ak⟩, q⟩
theorem OL {P : Program} {fn : Func} {l : List ResultVar} {xs : List bA} {R : aI} {s : aC} {r aV : bG} {post : ah → bG → Prop} (al : fn.results = l.toArray) (h : l.map (jl P s) = xs.map some) (hi : R 0 = some aV) (aa : (packed xs).aZ = true)
  (hp : post (packed xs) aV) : uo P fn cj (bC 0 r) (fun v aH ay => ∃ aV, aH = cj ∧ ay = bC 0 aV ∧ post v aV) R s := by
 refine ⟨xs, packed xs, cj, bC 0 aV, by rw [al]; exact h, .refl _, ⟨aV, rfl, rfl, hp⟩, fun k c h => (by cases h), fun i q h => ?_, fun j ae => absurd ae (ah.dC aa j), fun k c x j h => (by cases h), fun k c h => (by cases h), fun i q h => ?_⟩
 ·obtain ⟨rfl, rfl⟩ := fO h; exact hi
 ·obtain ⟨rfl, rfl⟩ := fO h; exact ⟨aV, by unfold bC; exact cF _ _ _⟩
section
variable {P : Program} {R : aI} {s : aC} {ops : Array Oper} {dr : Option (List Nat)} {ty : Nat} {pos : String} {after : Array Edge} {guard : Option (Nat × Bool)} {K : aI → aC → Prop} {rest : List Oper}
theorem uT (s : aC) : s.over cj = s := by
 show ({ s with mem := bX (fun _ => none) s.mem } : aC) = s;rw [Rs]
theorem Pd (i : Nat) {dst : Option Nat} {f : FuncId} {g : Operand} {aL : Array TypeId} {l : List Operand} {args : List ah} {r : bG} {post : ah → bG → Prop} [E : Enters P f] (hw : want ops ⟨dst, .call ⟨.value g, l.toArray, aL⟩, ty, pos, after, guard⟩ s = some true) (hm : cY dr ⟨dst, .call ⟨.value g, l.toArray, aL⟩, ty, pos, after, guard⟩ = true)
  (an : s.look g = some (aQ (.func (.func f) #[] #[]))) (aF : l.map s.look = args.map some) (hp : yY P f args r post) (hi : R i = some r) (eo : args.all ah.aZ = true) (hd : lp dst s.n = true)
  (h : ∀ v aV, post v aV → cT P ops dr K rest (bI R i aV) (s.put dst v)) : cT P ops dr K (⟨dst, .call ⟨.value g, l.toArray, aL⟩, ty, pos, after, guard⟩ :: rest) R s := by
 refine we hw hm an aF (hp i) (fun x aa j ae => absurd ae (ah.dC (cB.1 eo x aa) j)) (fun k' ar aM => by cases aM) (fun eH aV aM => ?_) (fun k' ar x j aM aa ae => by cases aM) hd ?_
 ·obtain ⟨rfl, rfl⟩ := fO aM; exact hi
 ·rintro v aH ay ⟨aV, rfl, rfl, ak⟩;refine ⟨fun k' c aM => (by cases aM), ?_⟩;rw [show bX (bC i aV) R = bI R i aV from wI R i aV, uT];exact h v aV ak
theorem Ag {x : Operand} {t f iK off : Nat} {r : bG} (i : Nat) [S : nx P t f iK] {d : Nat} (hi : R i = some r) (hw : want ops ⟨some d, .fieldAddr t x f, ty, pos, after, guard⟩ s = some true) (aa : s.look x = some (aQ (j6 r.v off))) (aw : 0 < r.n) (al : u5 ops dr (some d) = true) (hd : Nat.blt d s.n = true) (h : cT P ops dr K rest R (s.put (some d) (aQ (j6 r.v (off + iK))))) : cT P ops dr K (⟨some d, .fieldAddr t x f, ty, pos, after, guard⟩ :: rest) R s :=
 Aj hw (.ow i r off t f iK x hi aw rfl aa S.h) rfl al hd h
end
structure Lv (W bk : World) (r aV : bG) (U : Nat → Prop) : Prop where
 grown : W.grownBy bk r.v.ownBlock
 row : ∃ xs, bk.ownsRow 0 aV.e aV.sz aV.v aV.n xs ∧ bM U id W aV.aU xs
 qh : ∀ y ∈ aV.aU, y.aZ = true
 ajR : ∀ g, aV.v.ownBlock = some g → r.v.ownBlock = some g ∨ W.heap.size ≤ g
theorem bM.KI {U : Nat → Prop} {ad aX : Nat → Nat} {W : World} {xs : List AC} {vs : List Value} (aj : ∀ y ∈ xs, y.aZ = true) (h : bM U ad W xs vs) : bM U aX W xs vs := h.xr aj fun b ab _ => ⟨ab, rfl⟩
theorem kD.KI {U : Nat → Prop} {ad : Nat → Nat} {W : World} {args : List ah} {vs : List Value} (aj : args.all ah.aZ = true) (h : kD U ad W args vs) : kD U id W args vs :=
 ⟨h.1, fun i x v aa hv => Rel.Pu (ah.dC (cB.1 aj x (dc aa))) (h.2 i x v aa hv)⟩
theorem acr {U : Nat → Prop} {W bk : World} {row : Option Nat} (an : W.grownBy bk row) (al : ∀ g, row = some g → ¬ U g) : ∀ b, U b → b < W.heap.size → (U b ∧ b < W.heap.size) ∧ bk.heap[b]? = W.heap[b]? := fun b ab hl =>
 ⟨⟨ab, hl⟩, an.block b hl fun e => al b e.symm ab⟩
theorem agW {P : Program} {f : FuncId} {args : List ah} {r : bG} {post : ah → bG → Prop} (eo : args.all ah.aZ = true) (bH : 0 < r.sz) (xW : ∀ cb aV, post cb aV → 0 < aV.sz)
  (h : ∀ (U : Nat → Prop) (W : World) (vs : List Value) (xs : List Value), W.ownsRow 0 r.e r.sz r.v r.n xs → bM U id W r.aU xs → (∀ y ∈ r.aU, y.aZ = true) → (∀ g, r.v.ownBlock = some g → ¬ U g) → kD U id W args vs →
   Calls P f vs.toArray W fun e bk => ∃ v cb aV, e = .returned v ∧ post cb aV ∧ Lv W bk r aV U ∧ de U id W cb v ∧ cb.aZ = true) : yY P f args r post := by
 intro i;refine ⟨fun U ad W vs cq cy cW => ?_⟩;obtain ⟨pn, c4, aaw⟩ := cq.rows i r (by unfold bC; exact cF _ _ _);obtain ⟨xs, az, hl⟩ := pn.row bH;have vY := fun g an => aaw g (.inl an);refine (h U W vs xs az (hl.KI c4) c4 (fun g an => (vY g an).1) (cW.KI eo)).mono ?_;rintro e bk ⟨v, cb, aV, rfl, hp, ⟨gA, ⟨aU, hG, e6⟩, sP, kG⟩, qD, oB⟩;have PZ := acr gA fun g an => (vY g an).1
 have gQ : ∀ b, er ad cj (bC i r) b ↔ r.v.ownBlock = some b := fun b => by
  constructor
  ·rintro (⟨k, cs, af, _⟩ | ⟨j, q, ae, an⟩)
   ·cases af
   ·obtain ⟨rfl, rfl⟩ := fO ae; exact bG.pC an bH
  ·intro an; exact .inr ⟨i, r, by unfold bC; exact cF _ _ _, .inl an⟩
 refine ⟨v, cb, cj, bC i aV, ad, fun b => U b ∧ b < W.heap.size, rfl, ⟨aV, rfl, rfl, hp⟩, ⟨fun k cs af => (by cases af), fun k cs x j af => (by cases af), fun k k' cs ar af => (by cases af), fun j q ae => ?_, fun j k q cf ae af k7 => ?_⟩, ?_, fun j ae => absurd ae (ah.dC oB j), fun k cs af => (by cases af), fun j q ae => ?_, fun b ab => .inl ab.1, ?_, ⟨gA.os, gA.tape, gA.output, gA.size, fun b ab => gA.block b ab.1 fun e => ab.2 ((gQ b).2 e.symm)⟩⟩
 ·obtain ⟨rfl, rfl⟩ := fO ae;refine ⟨.inl ⟨xW _ _ hp, aU, hG, e6.xr sP PZ⟩, sP, fun g an => ⟨fun hu => ?_, fun k cs af => (by cases af)⟩⟩;rcases kG g (bG.pC an (xW _ _ hp)) with q | q
  ·exact (vY g q).1 hu.1
  ·omega
 ·obtain ⟨rfl, _⟩ := fO ae;obtain ⟨rfl, _⟩ := fO af;exact absurd rfl k7
 ·exact qD.map PZ fun j ae => absurd ae (ah.dC oB j)
 ·obtain ⟨rfl, rfl⟩ := fO ae;exact ⟨aV, by unfold bC; exact cF _ _ _⟩
 ·rintro b (⟨k, cs, af, _⟩ | ⟨j, q, ae, an⟩)
  ·cases af
  ·obtain ⟨rfl, rfl⟩ := fO ae;rcases kG b (bG.pC an (xW _ _ hp)) with z | z
   ·exact .inl ((gQ b).2 z)
   ·exact .inr z
theorem Ko (i : Nat) {P : Program} {R : aI} {s : aC} {c : Code} {Q : Exit → aI → aC → Prop} {r : bG} (hi : R i = some r) (h : ∀ A k, r.v = .slice A r.n k → r.n ≤ k → k ≤ maxLen → (0 < r.n → ∃ g, A = some ⟨g, 0, none⟩) → r.aU.length = r.n * r.sz → fu P c Q R s) (bH : 0 < r.sz := by first | decide | exact j4 _) : fu P c Q R s := by
 rintro ok a8 bq a w ⟨A, ad, aq⟩;obtain ⟨xs, az, hl⟩ := (aq.rows i r hi).cells bH;have hlen : r.aU.length = r.n * r.sz := hl.1.trans az.1;rcases az.2 with ⟨e, dh⟩ | ⟨g, cap, cur, e, _, _, ez, jb, _⟩
 ·exact h none 0 (by rw [e, dh]) (by omega) (dJ _) (fun h => by omega) hlen ok a8 bq a w ⟨A, ad, aq⟩
 ·exact h _ cap e ez jb (fun _ => ⟨g, rfl⟩) hlen ok a8 bq a w ⟨A, ad, aq⟩
theorem Rel.ag2 {B : eL} {A : Nat → Prop} {s : aC} {ad : Nat → Nat} {a : Act} {w : World} {k : Nat} {cs ds : List AC} (h : Rel B A s ad a w) (af : s.mem k = some cs) (al : ∀ vs, bM (s.free A ad) ad w cs vs → bM (s.free A ad) ad w ds vs) : Rel B A (s.ej k ds) ad a w := by
 obtain ⟨vs, ty, g1, g2, _⟩ := h.dz k cs af;have := h.set af (al vs g2);rwa [setRow_self w (ad k) vs.toArray ty (0, 0) g1] at this
theorem yj {n d m e : Int} (a : bj 200 n) (b : bj 200 d) (c : bj 200 m) (f : bj 200 e) : au ag 44 [gr n d, gr m e] (ax (bR (n * e) (m * d))) := by
 have aS := qP (n := n) (m := e) (a.up (by omega)) (f.up (by omega));have bD := qP (n := m) (m := d) (c.up (by omega)) (b.up (by omega));have dW := wK (n := n * e) (m := m * d) ((a.mul f).up (by omega)) ((c.mul b).up (by omega));clear a b c f;refine bd (f := 44) Tryz.func44 rfl rfl rfl rfl ?_;(refine bS ?_)
 ((refine aW rfl (aY rfl aJ) ?_))
 exact ah.aK.refl _
theorem kQ {x y : Int} {b : Bool} (ab : bu x y = b) : au ag 27 [aE x y] (a7 b) := by
 have cs : (x ≤ 134217728 ∧ y ≤ 134217728 ∧ -134217728 ≤ x ∧ -134217728 ≤ y ∧ b = true) ∨ (x ≤ 134217728 ∧ y ≤ 134217728 ∧ -134217728 ≤ x ∧ ¬ -134217728 ≤ y ∧ b = false) ∨ (x ≤ 134217728 ∧ y ≤ 134217728 ∧ ¬ -134217728 ≤ x ∧ b = false) ∨ (x ≤ 134217728 ∧ ¬ y ≤ 134217728 ∧ b = false) ∨ (¬ x ≤ 134217728 ∧ b = false) := by
  rw [← ab]; unfold bu
  by_cases q1 : x ≤ 134217728 <;> by_cases q2 : y ≤ 134217728 <;> by_cases bB : -134217728 ≤ x <;> by_cases cS : -134217728 ≤ y <;> simp [q1, q2, bB, cS]
 clear ab;rcases cs with ⟨q1, q2, bB, cS, rfl⟩ | ⟨q1, q2, bB, cS, rfl⟩ | ⟨q1, q2, bB, rfl⟩ | ⟨q1, q2, rfl⟩ | ⟨q1, rfl⟩
 all_goals
  refine bd (f := 27) Tryz.func27 rfl rfl rfl rfl ?_;(repeat first | refine dv ?_ | (with_reducible apply bP (c := true)); rfl; rfl; (exact cd (by omega)) | (with_reducible apply bP (c := false)); rfl; rfl; (exact cA (by omega)))
  ((refine aW rfl (aY rfl aJ) ?_))
  first | exact ah.aK.refl _ | exact ah.aK.of_eq (by rw [cd cS]; rfl) | exact ah.aK.of_eq (by rw [cA cS]; rfl)
theorem j0 {n : Int} (aA : -9223372036854775808 ≤ n) (h1 : n < 9223372036854775808) : au ag 80 [ax n] (cc n) := by
 have aS := E2 aA h1;clear aA h1;refine bd (f := 80) Tryz.func80 rfl rfl rfl rfl ?_;(refine bS ?_)
 ((refine aW rfl (cD rfl rfl rfl aJ) ?_))
 exact ah.aK.refl _
theorem bj.i64 {n : Int} (aA : -9223372036854775808 ≤ n) (h1 : n < 9223372036854775808) : bj 5 n := by unfold bj; omega
theorem EU {a b c d : Int} (cE : bj 100 a) (cP : bj 100 b) (jG : bj 100 c) (mE : bj 100 d) : au ag 79 [cc a, cc b, cc c, cc d] (cc (a * d - b * c)) := by
 have aS := qP (n := a) (m := d) (cE.up (by omega)) (mE.up (by omega));have bD := qP (n := b) (m := c) (cP.up (by omega)) (jG.up (by omega));have m1 := cE.mul mE;have m2 := cP.mul jG;have dW := E1 (n := b * c) (m2.up (by omega));have js : au ag 71 [cc (a * d), cc (-(b * c))] (cc (a * d - b * c)) := E0 (m1.up (by omega)) (m2.neg.up (by omega));clear cE cP jG mE m1 m2;refine bd (f := 79) Tryz.func79 rfl rfl rfl rfl ?_;(refine bS ?_)
 ((refine aW rfl (cD rfl rfl rfl aJ) ?_))
 exact ah.aK.refl _
theorem afV {n d : Int} (cE : bj 900 n) (cP : bj 900 d) (hd : 0 ≤ d) : au ag 81 [cc n, cc d] (gr n d) := by
 have mm := j0 (n := 0) (by omega) (by omega);have aS : au ag 76 [cc d, cc 0] (ax (bR d 0)) := wK (cP.up (by omega)) (by unfold bj; exact A5 _);have q : ¬ bR d 0 < 0 := by unfold bR; split <;> (try split) <;> omega
 clear cE cP hd;generalize bR d 0 = c at *;refine bd (f := 81) Tryz.func81 rfl rfl rfl rfl ?_;(refine bS ?_)
 ((refine aW rfl (cD rfl rfl rfl aJ) ?_))
 exact ah.aK.refl _
theorem afU {n d : Int} (cE : bj 900 n) (cP : bj 900 d) (hd : d < 0) : au ag 81 [cc n, cc d] (gr (-n) (-d)) := by
 have mm := j0 (n := 0) (by omega) (by omega);have aS : au ag 76 [cc d, cc 0] (ax (bR d 0)) := wK (cP.up (by omega)) (by unfold bj; exact A5 _);have bD := E1 (n := n) (cE.up (by omega));have dW := E1 (n := d) (cP.up (by omega));have q : bR d 0 < 0 := by unfold bR; split <;> (try split) <;> omega
 clear cE cP hd;generalize bR d 0 = c at *;refine bd (f := 81) Tryz.func81 rfl rfl rfl rfl ?_;(refine bS ?_)
 ((refine aW rfl (cD rfl rfl rfl aJ) ?_))
 exact ah.aK.refl _
theorem EW {a1 a2 b1 b2 bV cC : Int} (h : (bV, cC) = if a1 < b1 ∨ (a1 = b1 ∧ a2 < b2) then (a1, a2) else (b1, b2)) : au ag 48 [aE a1 a2, aE b1 b2] (aE bV cC) := by
 have cs : (a1 < b1 ∧ bV = a1 ∧ cC = a2) ∨ (¬ a1 < b1 ∧ a1 = b1 ∧ a2 < b2 ∧ bV = a1 ∧ cC = a2) ∨ (¬ a1 < b1 ∧ a1 = b1 ∧ ¬ a2 < b2 ∧ bV = b1 ∧ cC = b2) ∨ (¬ a1 < b1 ∧ ¬ a1 = b1 ∧ bV = b1 ∧ cC = b2) := by
  split at h <;> (rw [pR] at h; omega)
 clear h;rcases cs with ⟨q1, rfl, rfl⟩ | ⟨q1, q2, bB, rfl, rfl⟩ | ⟨q1, q2, bB, rfl, rfl⟩ | ⟨q1, q2, rfl, rfl⟩
 all_goals
  refine bd (f := 48) Tryz.func48 rfl rfl rfl rfl ?_;(repeat first | refine dv ?_ | (with_reducible apply bP (c := true)); rfl; rfl; (exact cd (by omega)) | (with_reducible apply bP (c := false)); rfl; rfl; (exact cA (by omega)))
  ((refine aW rfl (cD rfl rfl rfl aJ) ?_))
  exact ah.aK.refl _
theorem EX {a1 a2 b1 b2 p q r : Int} (aF : bu a1 a2 = true) (ab : bu b1 b2 = true) (hp : p = b2 - a2) (ak : q = a1 - b1) (al : r = p * a1 + q * a2) : au ag 78 [aE a1 a2, aE b1 b2] (.cz [.one (.c (.int .i64 p)), .one (.c (.int .i64 q)), km r]) := by
 unfold bu at aF ab;simp only [c6, cg] at aF ab;have aS := j0 (n := p) (by omega) (by omega);have bD := j0 (n := q) (by omega) (by omega);have dW := j0 (n := a1) (by omega) (by omega);have js := j0 (n := a2) (by omega) (by omega);have cE : bj 5 p := bj.i64 (by omega) (by omega);have cP : bj 5 q := bj.i64 (by omega) (by omega);have jG : bj 5 a1 := bj.i64 (by omega) (by omega);have mE : bj 5 a2 := bj.i64 (by omega) (by omega);have mQ := qP (n := p) (m := a1) (cE.up (by omega)) (jG.up (by omega));have yJ := qP (n := q) (m := a2) (cP.up (by omega)) (mE.up (by omega));have Uc : au ag 71 [cc (p * a1), cc (q * a2)] (cc r) := by rw [al]; exact E0 ((cE.mul jG).up (by omega)) ((cP.mul mE).up (by omega))
 have w1 : IntKind.i64.wrap (b2 - a2) = p := by rw [hp]; exact k9 (by omega)
 have w2 : IntKind.i64.wrap (a1 - b1) = q := by rw [ak]; exact k9 (by omega)
 clear cE cP jG mE al hp ak aF ab;refine bd (f := 78) Tryz.func78 rfl rfl rfl rfl ?_;(refine bS ?_)
 ((refine aW rfl (aY rfl (aY rfl (cD rfl rfl rfl aJ))) ?_))
 exact ah.aK.refl _
theorem afT {n d a b lo hi : Int} {x y : Bool} (cE : bj 150 n) (cP : bj 150 d) (a0 : -134217728 ≤ a) (a1 : a ≤ 134217728) (fD : -134217728 ≤ b) (b1 : b ≤ 134217728) (rO : (if b < a then b else a) = lo) (sT : (if b > a then b else a) = hi) (aa : decide (lo * d ≤ n) = x) (ai : decide (n ≤ hi * d) = y) : au ag 82 [gr n d, ax a, ax b] (a7 (x && y)) := by
 have pw : -134217728 ≤ lo ∧ lo ≤ 134217728 := by rw [← rO]; split <;> omega
 have m0 : -134217728 ≤ hi ∧ hi ≤ 134217728 := by rw [← sT]; split <;> omega
 have mm := j0 (n := 1) (by omega) (by omega);have aS : au ag 80 [ax (if b < a then b else a)] (cc lo) := by rw [rO]; exact j0 (by omega) (by omega)
 have bD : au ag 80 [ax (if b > a then b else a)] (cc hi) := by rw [sT]; exact j0 (by omega) (by omega)
 have ba : bj 5 lo := bj.i64 (by omega) (by omega);have bo : bj 5 hi := bj.i64 (by omega) (by omega);have dU : bj 5 (1 : Int) := bj.i64 (by omega) (by omega);have dW := yj (n := lo) (d := 1) (m := n) (e := d) (ba.up (by omega)) (dU.up (by omega)) (cE.up (by omega)) (cP.up (by omega));have js := yj (n := n) (d := d) (m := hi) (e := 1) (cE.up (by omega)) (cP.up (by omega)) (bo.up (by omega)) (dU.up (by omega));rw [Int.mul_one] at dW js;have q1 : bR (lo * d) n ≤ 0 ↔ lo * d ≤ n := by unfold bR; split <;> (try split) <;> omega
 have q2 : bR n (hi * d) ≤ 0 ↔ n ≤ hi * d := by unfold bR; split <;> (try split) <;> omega
 have cs : (bR (lo * d) n ≤ 0 ∧ bR n (hi * d) ≤ 0 ∧ (x && y) = true) ∨ (bR (lo * d) n ≤ 0 ∧ ¬ bR n (hi * d) ≤ 0 ∧ (x && y) = false) ∨ (¬ bR (lo * d) n ≤ 0 ∧ (x && y) = false) := by
  rw [← aa, ← ai]
  by_cases h1 : lo * d ≤ n <;> by_cases h2 : n ≤ hi * d <;> simp [q1, q2, h1, h2]
 clear q1 q2 aa ai cE cP ba bo dU pw m0 a0 a1 fD b1 rO sT;generalize (x && y) = z at *;generalize bR (lo * d) n = c1 at *;generalize bR n (hi * d) = c2 at *;rcases cs with ⟨bV, cC, rfl⟩ | ⟨bV, cC, rfl⟩ | ⟨bV, rfl⟩
 all_goals
  refine bd (f := 82) Tryz.func82 rfl rfl rfl rfl ?_;(repeat first | refine dv ?_ | refine e7 ?_ | (with_reducible apply bP (c := true)); rfl; rfl; (exact cd (by omega)) | (with_reducible apply bP (c := false)); rfl; rfl; (exact cA (by omega)))
  ((refine aW rfl (aY rfl aJ) ?_))
  first | exact ah.aK.refl _ | exact ah.aK.of_eq (by rw [cd cC]; rfl) | exact ah.aK.of_eq (by rw [cA cC]; rfl)
def vJ (n : Int) : Bool := decide (-134217728 ≤ n) && decide (n ≤ 134217728)
theorem RC {n : Int} {b : Bool} (ab : vJ n = b) : au ag 144 [ax n] (a7 b) := by
 have cs : (-134217728 ≤ n ∧ n ≤ 134217728 ∧ b = true) ∨ (-134217728 ≤ n ∧ ¬ n ≤ 134217728 ∧ b = false) ∨ (¬ -134217728 ≤ n ∧ b = false) := by
  rw [← ab]; unfold vJ
  by_cases h1 : -134217728 ≤ n <;> by_cases h2 : n ≤ 134217728 <;> simp [h1, h2]
 clear ab;rcases cs with ⟨h1, h2, rfl⟩ | ⟨h1, h2, rfl⟩ | ⟨h1, rfl⟩
 all_goals
  refine bd (f := 144) Tryz.func144 rfl rfl rfl rfl ?_;(repeat first | refine dv ?_ | (with_reducible apply bP (c := true)); rfl; rfl; (exact cd (by omega)) | (with_reducible apply bP (c := false)); rfl; rfl; (exact cA (by omega)))
  ((refine aW rfl (aY rfl aJ) ?_))
  first | exact ah.aK.refl _ | exact ah.aK.of_eq (by rw [cd h2]; rfl) | exact ah.aK.of_eq (by rw [cA h2]; rfl)
theorem agN (x y : Int) : bu x y = (vJ x && vJ y) := by
 unfold bu vJ;rw [kR];simp only [c6, cg];omega
theorem jk {x y : Int} (h : bu x y = true) : cp x y = true := by rw [kv] at h; rw [Fc]; omega
theorem pE {x y : Int} {b : Bool} (ab : bu x y = b) : au ag 123 [aE x y] (a7 b) := by
 have aS := RC (n := x) rfl;have bD := RC (n := y) rfl;rw [agN] at ab;cases q1 : vJ x <;> cases q2 : vJ y <;> rw [q1] at aS <;> rw [q2] at bD <;> rw [q1, q2] at ab <;> subst ab <;> clear q1 q2
 all_goals
  refine bd (f := 123) Tryz.func123 rfl rfl rfl rfl ?_;(refine bS ?_)
  ((refine aW rfl (aY rfl aJ) ?_))
  exact ah.aK.refl _
theorem aeB {n m : Int} : au ag 201 [ax n, ax m] (ax (bR n m)) :=
 hZ [.int .i64 n, .int .i64 m] (.int .i64 (bR n m)) rfl rfl rfl rfl rfl fun W => F5 n m W
abbrev ky (n d : Int) (o : Bool) : ah := .w (.agg [.c (.int .i64 n), .c (.int .i64 d), .c (.bool o)])
abbrev vb (x : h9) : ah := ky x.n x.d x.own
def ml (x : h9) : Prop := (-2000000000 ≤ x.n ∧ x.n ≤ 2000000000) ∧ 0 < x.d ∧ x.d ≤ 2000000000
theorem adH {x y : Int} (h1 : -2000000000 ≤ x) (h2 : x ≤ 2000000000) (h3 : 0 ≤ y) (aD : y ≤ 2000000000) : -4000000000000000000 ≤ x * y ∧ x * y ≤ 4000000000000000000 := by
 have a1 : x * y ≤ 2000000000 * y := lK h2 h3;have a2 : -2000000000 * y ≤ x * y := lK h1 h3;omega
theorem Mo {x y : h9} (aa : ml x) (ai : ml y) : IntKind.i64.wrap (x.n * y.d) = x.n * y.d := by
 obtain ⟨⟨a1, a2⟩, a3, a4⟩ := aa;obtain ⟨⟨b1, b2⟩, ee, dO⟩ := ai;have := adH a1 a2 (by omega : (0 : Int) ≤ y.d) dO;exact k9 (by omega)
theorem af5 {n d m e c : Int} {o q : Bool} (aS : au ag 201 [ax (n * e), ax (m * d)] (ax c)) (w1 : IntKind.i64.wrap (n * e) = n * e) (w2 : IntKind.i64.wrap (m * d) = m * d) : au ag 200 [ky n d o, ky m e q] (ax c) := by
 refine bd (f := 200) Tryz.func200 rfl rfl rfl rfl ?_;(refine bS ?_)
 ((refine aW rfl (aY rfl aJ) ?_))
 exact ah.aK.refl _
theorem JY {x y : h9} (aa : ml x) (ai : ml y) : au ag 200 [vb x, vb y] (ax (hP x y)) :=
 af5 aeB (Mo aa ai) (Mo ai aa)
theorem afD {n d m e c : Int} {o q : Bool} {bV cC : Int} {eY : Bool} (aS : au ag 200 [ky n d o, ky m e q] (ax c)) (cs : (0 < c ∧ bV = n ∧ cC = d ∧ eY = o) ∨ (¬ 0 < c ∧ c = 0 ∧ q = true ∧ bV = n ∧ cC = d ∧ eY = o) ∨ (¬ 0 < c ∧ c = 0 ∧ q = false ∧ bV = m ∧ cC = e ∧ eY = q) ∨ (¬ 0 < c ∧ ¬ c = 0 ∧ bV = m ∧ cC = e ∧ eY = q)) : au ag 208 [ky n d o, ky m e q] (ky bV cC eY) := by
 rcases cs with ⟨q1, rfl, rfl, rfl⟩ | ⟨q1, q2, rfl, rfl, rfl, rfl⟩ | ⟨q1, q2, rfl, rfl, rfl, rfl⟩ | ⟨q1, q2, rfl, rfl, rfl⟩
 all_goals
  refine bd (f := 208) Tryz.func208 rfl rfl rfl rfl ?_;(repeat first | refine dv ?_ | refine e7 ?_ | (with_reducible apply bP (c := true)); rfl; rfl; (exact cd (by omega)) | (with_reducible apply bP (c := false)); rfl; rfl; (exact cA (by omega)))
  ((refine aW rfl (cD rfl rfl rfl aJ) ?_))
  exact ah.aK.refl _
theorem afC {x y : h9} (aa : ml x) (ai : ml y) : au ag 208 [vb x, vb y] (vb (rW x y)) := by
 refine afD (JY aa ai) ?_;rcases Ea x y with ⟨e, h⟩ | ⟨e, h⟩ <;> rw [e]
 ·by_cases h1 : 0 < hP x y
  ·exact .inl ⟨h1, rfl, rfl, rfl⟩
  ·rcases h with h | ⟨h, k⟩
   ·exact absurd h h1
   ·exact .inr (.inl ⟨h1, h, k, rfl, rfl, rfl⟩)
 ·have h1 : ¬ 0 < hP x y := fun k => h (.inl k)
  by_cases h2 : hP x y = 0
  ·refine .inr (.inr (.inl ⟨h1, h2, ?_, rfl, rfl, rfl⟩));cases ai : y.own with
   | false => rfl
   | true => exact absurd (.inr ⟨h2, ai⟩) h
  ·exact .inr (.inr (.inr ⟨h1, h2, rfl, rfl, rfl⟩))
theorem afo {n d m e c : Int} {o q : Bool} {bV cC : Int} {eY : Bool} (aS : au ag 200 [ky n d o, ky m e q] (ax c)) (cs : (c < 0 ∧ bV = n ∧ cC = d ∧ eY = o) ∨ (¬ c < 0 ∧ c = 0 ∧ q = true ∧ bV = n ∧ cC = d ∧ eY = o) ∨ (¬ c < 0 ∧ c = 0 ∧ q = false ∧ bV = m ∧ cC = e ∧ eY = q) ∨ (¬ c < 0 ∧ ¬ c = 0 ∧ bV = m ∧ cC = e ∧ eY = q)) : au ag 209 [ky n d o, ky m e q] (ky bV cC eY) := by
 rcases cs with ⟨q1, rfl, rfl, rfl⟩ | ⟨q1, q2, rfl, rfl, rfl, rfl⟩ | ⟨q1, q2, rfl, rfl, rfl, rfl⟩ | ⟨q1, q2, rfl, rfl, rfl⟩
 all_goals
  refine bd (f := 209) Tryz.func209 rfl rfl rfl rfl ?_;(repeat first | refine dv ?_ | refine e7 ?_ | (with_reducible apply bP (c := true)); rfl; rfl; (exact cd (by omega)) | (with_reducible apply bP (c := false)); rfl; rfl; (exact cA (by omega)))
  ((refine aW rfl (cD rfl rfl rfl aJ) ?_))
  exact ah.aK.refl _
theorem afn {x y : h9} (aa : ml x) (ai : ml y) : au ag 209 [vb x, vb y] (vb (rA x y)) := by
 refine afo (JY aa ai) ?_;rcases CQ x y with ⟨e, h⟩ | ⟨e, h⟩ <;> rw [e]
 ·by_cases h1 : hP x y < 0
  ·exact .inl ⟨h1, rfl, rfl, rfl⟩
  ·rcases h with h | ⟨h, k⟩
   ·exact absurd h h1
   ·exact .inr (.inl ⟨h1, h, k, rfl, rfl, rfl⟩)
 ·have h1 : ¬ hP x y < 0 := fun k => h (.inl k)
  by_cases h2 : hP x y = 0
  ·refine .inr (.inr (.inl ⟨h1, h2, ?_, rfl, rfl, rfl⟩));cases ai : y.own with
   | false => rfl
   | true => exact absurd (.inr ⟨h2, ai⟩) h
  ·exact .inr (.inr (.inr ⟨h1, h2, rfl, rfl, rfl⟩))
abbrev gY (a1 a2 b1 b2 n d : Int) (o : Bool) (m e : Int) (q : Bool) : ah := .w (.agg [.c (.int .i64 a1), .c (.int .i64 a2), .c (.int .i64 b1), .c (.int .i64 b2), .c (.int .i64 n), .c (.int .i64 d), .c (.bool o), .c (.int .i64 m), .c (.int .i64 e), .c (.bool q)])
abbrev FP (a1 a2 b1 b2 : Int) (p : Pa) : ah := gY a1 a2 b1 b2 p.f.n p.f.d p.f.own p.t.n p.t.d p.t.own
def yU (p : Pa) : Prop := ml p.f ∧ ml p.t
theorem afB {a1 a2 b1 b2 n d m e u v : Int} {o q w : Bool} {n' d' aH bm : Int} {bU cf : Bool} (hu : -1100000000 ≤ u ∧ u ≤ 1100000000) (hv : -1100000000 ≤ v ∧ v ≤ 1100000000)
  (cs : (0 < v - u ∧ au ag 208 [ky n d o, ky (-u) (v - u) w] (ky n' d' bU) ∧ aH = m ∧ bm = e ∧ cf = q) ∨ (¬ 0 < v - u ∧ v - u < 0 ∧ au ag 209 [ky m e q, ky u (-(v - u)) w] (ky aH bm cf) ∧ n' = n ∧ d' = d ∧ bU = o)
   ∨ (¬ 0 < v - u ∧ ¬ v - u < 0 ∧ u < 0 ∧ n' = 1 ∧ d' = 1 ∧ bU = false ∧ aH = 0 ∧ bm = 1 ∧ cf = false) ∨ (¬ 0 < v - u ∧ ¬ v - u < 0 ∧ ¬ u < 0 ∧ u = 0 ∧ w = false ∧ n' = 1 ∧ d' = 1 ∧ bU = false ∧ aH = 0 ∧ bm = 1 ∧ cf = false)
   ∨ (¬ 0 < v - u ∧ ¬ v - u < 0 ∧ ¬ u < 0 ∧ u = 0 ∧ w = true ∧ n' = n ∧ d' = d ∧ bU = o ∧ aH = m ∧ bm = e ∧ cf = q) ∨ (¬ 0 < v - u ∧ ¬ v - u < 0 ∧ ¬ u < 0 ∧ ¬ u = 0 ∧ n' = n ∧ d' = d ∧ bU = o ∧ aH = m ∧ bm = e ∧ cf = q)) :
  au ag 199 [gY a1 a2 b1 b2 n d o m e q, ax u, ax v, a7 w] (gY a1 a2 b1 b2 n' d' bU aH bm cf) := by
 rcases cs with ⟨q1, aS, rfl, rfl, rfl⟩ | ⟨q1, q2, aS, rfl, rfl, rfl⟩ | ⟨q1, q2, bB, rfl, rfl, rfl, rfl, rfl, rfl⟩ | ⟨q1, q2, bB, cS, rfl, rfl, rfl, rfl, rfl, rfl, rfl⟩ | ⟨q1, q2, bB, cS, rfl, rfl, rfl, rfl, rfl, rfl, rfl⟩ | ⟨q1, q2, bB, cS, rfl, rfl, rfl, rfl, rfl, rfl⟩
 ·refine bd (f := 199) Tryz.func199 rfl rfl rfl rfl ?_;(refine bS ?_)
  ((refine aW rfl (cD rfl rfl rfl aJ) ?_))
  exact ah.aK.refl _
 ·refine bd (f := 199) Tryz.func199 rfl rfl rfl rfl ?_;(refine bS ?_)
  ((refine aW rfl (cD rfl rfl rfl aJ) ?_))
  exact ah.aK.refl _
 all_goals
  refine bd (f := 199) Tryz.func199 rfl rfl rfl rfl ?_;(repeat first | refine dv ?_ | (with_reducible apply bP (c := true)); rfl; rfl; (exact cd (by omega)) | (with_reducible apply bP (c := false)); rfl; rfl; (exact cA (by omega)))
  ((refine aW rfl (cD rfl rfl rfl aJ) ?_))
  exact ah.aK.refl _
theorem acC {x y : h9} (aa : ml x) (ai : ml y) : ml (rW x y) := by unfold rW; split <;> assumption
theorem Yc {x y : h9} (aa : ml x) (ai : ml y) : ml (rA x y) := by unfold rA; split <;> assumption
theorem D8 {p : Pa} {u v : Int} {w : Bool} (hp : yU p) (hu : -900000000 ≤ u ∧ u ≤ 900000000) (hv : -900000000 ≤ v ∧ v ≤ 900000000) : yU (jV p u v w) := by
 unfold jV
 by_cases h1 : 0 < v - u
 ·rw [if_pos h1]; exact ⟨acC hp.1 ⟨by simp only; omega, by simp only; omega⟩, hp.2⟩
 ·rw [if_neg h1]
  by_cases h2 : v - u < 0
  ·rw [if_pos h2]; exact ⟨hp.1, Yc hp.2 ⟨by simp only; omega, by simp only; omega⟩⟩
  ·rw [if_neg h2]
   split
   ·exact ⟨⟨by decide, by decide⟩, ⟨by decide, by decide⟩⟩
   ·exact hp
theorem ES {a1 a2 b1 b2 u v : Int} {w : Bool} {p : Pa} (hp : yU p) (hu : -900000000 ≤ u ∧ u ≤ 900000000) (hv : -900000000 ≤ v ∧ v ≤ 900000000) : au ag 199 [FP a1 a2 b1 b2 p, ax u, ax v, a7 w] (FP a1 a2 b1 b2 (jV p u v w)) := by
 refine afB (by omega) (by omega) ?_;unfold jV
 by_cases h1 : 0 < v - u
 ·rw [if_pos h1];exact .inl ⟨h1, afC hp.1 (y := ⟨-u, v - u, w⟩) ⟨by simp only; omega, by simp only; omega⟩, rfl, rfl, rfl⟩
 ·rw [if_neg h1]
  by_cases h2 : v - u < 0
  ·rw [if_pos h2];exact .inr (.inl ⟨h1, h2, afn hp.2 (y := ⟨u, -(v - u), w⟩) ⟨by simp only; omega, by simp only; omega⟩, rfl, rfl, rfl⟩)
  ·rw [if_neg h2]
   by_cases h3 : u < 0
   ·rw [if_pos (.inl h3)];exact .inr (.inr (.inl ⟨h1, h2, h3, rfl, rfl, rfl, rfl, rfl, rfl⟩))
   ·by_cases aD : u = 0
    ·cases w with
     | false => rw [if_pos (.inr ⟨aD, rfl⟩)]; exact .inr (.inr (.inr (.inl ⟨h1, h2, h3, aD, rfl, rfl, rfl, rfl, rfl, rfl, rfl⟩)))
     | true => rw [if_neg (by simp [h3])]; exact .inr (.inr (.inr (.inr (.inl ⟨h1, h2, h3, aD, rfl, rfl, rfl, rfl, rfl, rfl, rfl⟩))))
    ·rw [if_neg (by simp [h3, aD])];exact .inr (.inr (.inr (.inr (.inr ⟨h1, h2, h3, aD, rfl, rfl, rfl, rfl, rfl, rfl⟩))))
instance ak0 : Lc ag 230 4 false 1 := ⟨by kernel_rfl⟩
abbrev vc (l1 l2 h1 h2 : Int) (o p : Bool) : ah := .w (.agg [.c (.int .i64 l1), .c (.int .i64 l2), .c (.int .i64 h1), .c (.int .i64 h2), .c (.bool o), .c (.bool p)])
def sG (n : Int) : Bool := decide (-536870912 ≤ n) && decide (n ≤ 536870912)
theorem MQ {n : Int} : sG n = true ↔ -536870912 ≤ n ∧ n ≤ 536870912 := by unfold sG; simp
def o8 (x y : Int) : Bool := sG x && sG y
theorem xt {x y : Int} : o8 x y = true ↔ (-536870912 ≤ x ∧ x ≤ 536870912) ∧ -536870912 ≤ y ∧ y ≤ 536870912 := by unfold o8; rw [c6, MQ, MQ]
def x5 (k : Int) : Bool := decide (0 ≤ k) && decide (k ≤ 2)
theorem afk {a1 a2 b1 b2 l1 l2 h1 h2 n d m e n' d' aH bm : Int} {o p q r cf aV : Bool} (aF : -134217728 ≤ a1 ∧ a1 ≤ 134217728) (ab : -134217728 ≤ b1 ∧ b1 ≤ 134217728) (hl : -536870912 ≤ l1 ∧ l1 ≤ 536870912)
  (aS : au ag 199 [gY a1 a2 b1 b2 n d q m e r, ax (2 * a1 - l1), ax (2 * b1 - l1), a7 o] (gY a1 a2 b1 b2 n' d' cf aH bm aV)) : au ag 173 [vc l1 l2 h1 h2 o p, gY a1 a2 b1 b2 n d q m e r] (gY a1 a2 b1 b2 n' d' cf aH bm aV) := by
 refine bd (f := 173) Tryz.func173 rfl rfl rfl rfl ?_;(refine bS ?_)
 ((refine aW rfl (cD rfl rfl rfl aJ) ?_))
 exact ah.aK.refl _
theorem afj {a1 a2 b1 b2 l1 l2 h1 h2 n d m e n' d' aH bm : Int} {o p q r cf aV : Bool} (aF : -134217728 ≤ a2 ∧ a2 ≤ 134217728) (ab : -134217728 ≤ b2 ∧ b2 ≤ 134217728) (hl : -536870912 ≤ l2 ∧ l2 ≤ 536870912)
  (aS : au ag 199 [gY a1 a2 b1 b2 n d q m e r, ax (2 * a2 - l2), ax (2 * b2 - l2), a7 o] (gY a1 a2 b1 b2 n' d' cf aH bm aV)) : au ag 174 [vc l1 l2 h1 h2 o p, gY a1 a2 b1 b2 n d q m e r] (gY a1 a2 b1 b2 n' d' cf aH bm aV) := by
 refine bd (f := 174) Tryz.func174 rfl rfl rfl rfl ?_;(refine bS ?_)
 ((refine aW rfl (cD rfl rfl rfl aJ) ?_))
 exact ah.aK.refl _
theorem afl {a1 a2 b1 b2 l1 l2 h1 h2 n d m e n' d' aH bm : Int} {o p q r cf aV : Bool} (aF : -134217728 ≤ a1 ∧ a1 ≤ 134217728) (ab : -134217728 ≤ b1 ∧ b1 ≤ 134217728) (hl : -536870912 ≤ h1 ∧ h1 ≤ 536870912)
  (aS : au ag 199 [gY a1 a2 b1 b2 n d q m e r, ax (h1 - 2 * a1), ax (h1 - 2 * b1), a7 p] (gY a1 a2 b1 b2 n' d' cf aH bm aV)) : au ag 175 [vc l1 l2 h1 h2 o p, gY a1 a2 b1 b2 n d q m e r] (gY a1 a2 b1 b2 n' d' cf aH bm aV) := by
 refine bd (f := 175) Tryz.func175 rfl rfl rfl rfl ?_;(refine bS ?_)
 ((refine aW rfl (cD rfl rfl rfl aJ) ?_))
 exact ah.aK.refl _
theorem afi {a1 a2 b1 b2 l1 l2 h1 h2 n d m e n' d' aH bm : Int} {o p q r cf aV : Bool} (aF : -134217728 ≤ a2 ∧ a2 ≤ 134217728) (ab : -134217728 ≤ b2 ∧ b2 ≤ 134217728) (hl : -536870912 ≤ h2 ∧ h2 ≤ 536870912)
  (aS : au ag 199 [gY a1 a2 b1 b2 n d q m e r, ax (h2 - 2 * a2), ax (h2 - 2 * b2), a7 p] (gY a1 a2 b1 b2 n' d' cf aH bm aV)) : au ag 176 [vc l1 l2 h1 h2 o p, gY a1 a2 b1 b2 n d q m e r] (gY a1 a2 b1 b2 n' d' cf aH bm aV) := by
 refine bd (f := 176) Tryz.func176 rfl rfl rfl rfl ?_;(refine bS ?_)
 ((refine aW rfl (cD rfl rfl rfl aJ) ?_))
 exact ah.aK.refl _
theorem ae7 {a1 a2 b1 b2 : Int} : au ag 172 [aE a1 a2, aE b1 b2] (FP a1 a2 b1 b2 rl) := by
 refine bd (f := 172) Tryz.func172 rfl rfl rfl rfl ?_;(refine eF ?_)
 ((refine aW rfl (cD rfl rfl rfl aJ) ?_))
 exact ah.aK.refl _
theorem afw {a1 a2 b1 b2 n d m e c : Int} {o q r : Bool} (aS : au ag 200 [ky n d o, ky m e q] (ax c)) (cs : (c < 0 ∧ r = true) ∨ (¬ c < 0 ∧ c = 0 ∧ o = true ∧ r = q) ∨ (¬ c < 0 ∧ c = 0 ∧ o = false ∧ r = false) ∨ (¬ c < 0 ∧ ¬ c = 0 ∧ r = false)) : au ag 177 [gY a1 a2 b1 b2 n d o m e q] (a7 r) := by
 rcases cs with ⟨q1, rfl⟩ | ⟨q1, q2, rfl, rfl⟩ | ⟨q1, q2, rfl, rfl⟩ | ⟨q1, q2, rfl⟩
 all_goals
  refine bd (f := 177) Tryz.func177 rfl rfl rfl rfl ?_;(repeat first | refine dv ?_ | refine e7 ?_ | (with_reducible apply bP (c := true)); rfl; rfl; (exact cd (by omega)) | (with_reducible apply bP (c := false)); rfl; rfl; (exact cA (by omega)))
  ((refine aW rfl (aY rfl aJ) ?_))
  exact ah.aK.refl _
theorem afv {a1 a2 b1 b2 : Int} {p : Pa} (hp : yU p) : au ag 177 [FP a1 a2 b1 b2 p] (a7 (tT p)) := by
 refine afw (JY hp.1 hp.2) ?_;unfold tT
 by_cases h1 : hP p.f p.t < 0
 ·exact .inl ⟨h1, by rw [cd h1]; rfl⟩
 ·rw [cA h1]
  by_cases h2 : hP p.f p.t = 0
  ·rw [cd h2];cases h3 : p.f.own with
   | true => exact .inr (.inl ⟨h1, h2, rfl, rfl⟩)
   | false => exact .inr (.inr (.inl ⟨h1, h2, rfl, rfl⟩))
  ·exact .inr (.inr (.inr ⟨h1, h2, by rw [cA h2]; rfl⟩))
theorem RD {n : Int} {b : Bool} (ab : sG n = b) : au ag 198 [ax n] (a7 b) := by
 have cs : (-536870912 ≤ n ∧ n ≤ 536870912 ∧ b = true) ∨ (-536870912 ≤ n ∧ ¬ n ≤ 536870912 ∧ b = false) ∨ (¬ -536870912 ≤ n ∧ b = false) := by
  rw [← ab]; unfold sG
  by_cases h1 : -536870912 ≤ n <;> by_cases h2 : n ≤ 536870912 <;> simp [h1, h2]
 clear ab;rcases cs with ⟨h1, h2, rfl⟩ | ⟨h1, h2, rfl⟩ | ⟨h1, rfl⟩
 all_goals
  refine bd (f := 198) Tryz.func198 rfl rfl rfl rfl ?_;(repeat first | refine dv ?_ | (with_reducible apply bP (c := true)); rfl; rfl; (exact cd (by omega)) | (with_reducible apply bP (c := false)); rfl; rfl; (exact cA (by omega)))
  ((refine aW rfl (aY rfl aJ) ?_))
  first | exact ah.aK.refl _ | exact ah.aK.of_eq (by rw [cd h2]; rfl) | exact ah.aK.of_eq (by rw [cA h2]; rfl)
theorem ER {x y : Int} {b : Bool} (ab : o8 x y = b) : au ag 170 [aE x y] (a7 b) := by
 have aS := RD (n := x) rfl;have bD := RD (n := y) rfl;unfold o8 at ab;cases q1 : sG x <;> cases q2 : sG y <;> rw [q1] at aS <;> rw [q2] at bD <;> rw [q1, q2] at ab <;> subst ab <;> clear q1 q2
 all_goals
  refine bd (f := 170) Tryz.func170 rfl rfl rfl rfl ?_;(refine bS ?_)
  ((refine aW rfl (aY rfl aJ) ?_))
  exact ah.aK.refl _
theorem RG {k : Int} {b : Bool} (ab : x5 k = b) : au ag 171 [ax k] (a7 b) := by
 have cs : (k = 0 ∧ b = true) ∨ (¬ k = 0 ∧ k = 1 ∧ b = true) ∨ (¬ k = 0 ∧ ¬ k = 1 ∧ k = 2 ∧ b = true) ∨ (¬ k = 0 ∧ ¬ k = 1 ∧ ¬ k = 2 ∧ b = false) := by
  rw [← ab]; unfold x5
  by_cases h1 : k = 0
  ·exact .inl ⟨h1, by subst h1; rfl⟩
  ·by_cases h2 : k = 1
   ·exact .inr (.inl ⟨h1, h2, by subst h2; rfl⟩)
   ·by_cases h3 : k = 2
    ·exact .inr (.inr (.inl ⟨h1, h2, h3, by subst h3; rfl⟩))
    ·refine .inr (.inr (.inr ⟨h1, h2, h3, ?_⟩));rw [Bool.and_eq_false_iff, kq, kq];omega
 clear ab;rcases cs with ⟨h1, rfl⟩ | ⟨h1, h2, rfl⟩ | ⟨h1, h2, h3, rfl⟩ | ⟨h1, h2, h3, rfl⟩
 all_goals
  refine bd (f := 171) Tryz.func171 rfl rfl rfl rfl ?_;(repeat first | refine dv ?_ | (with_reducible apply bP (c := true)); rfl; rfl; (exact cd (by omega)) | (with_reducible apply bP (c := false)); rfl; rfl; (exact cA (by omega)))
  ((refine aW rfl (aY rfl aJ) ?_))
  first | exact ah.aK.refl _ | exact ah.aK.of_eq (by rw [cd h3]; rfl) | exact ah.aK.of_eq (by rw [cA h3]; rfl)
theorem aeQ {a1 a2 b1 b2 l1 l2 h1 h2 k : Int} {o p r : Bool} {cE d1 m1 aG cP d2 m2 aO jG d3 m3 cl mE d4 m4 ey : Int} {q1 bV q2 cC bB eY cS iU : Bool} (bf : au ag 123 [aE a1 a2] (a7 true)) (ev : au ag 123 [aE b1 b2] (a7 true)) (B5 : au ag 170 [aE l1 l2] (a7 true)) (B6 : au ag 170 [aE h1 h2] (a7 true)) (UM : au ag 171 [ax k] (a7 true))
  (Ym : (!decide (k = 2)) = o) (qn : decide (k = 1) = p) (bq : au ag 172 [aE a1 a2, aE b1 b2] (gY a1 a2 b1 b2 0 1 true 1 1 true))
  (aS : au ag 173 [vc l1 l2 h1 h2 o p, gY a1 a2 b1 b2 0 1 true 1 1 true] (gY a1 a2 b1 b2 cE d1 q1 m1 aG bV))
  (bD : au ag 174 [vc l1 l2 h1 h2 o p, gY a1 a2 b1 b2 cE d1 q1 m1 aG bV] (gY a1 a2 b1 b2 cP d2 q2 m2 aO cC))
  (dW : au ag 175 [vc l1 l2 h1 h2 o p, gY a1 a2 b1 b2 cP d2 q2 m2 aO cC] (gY a1 a2 b1 b2 jG d3 bB m3 cl eY))
  (js : au ag 176 [vc l1 l2 h1 h2 o p, gY a1 a2 b1 b2 jG d3 bB m3 cl eY] (gY a1 a2 b1 b2 mE d4 cS m4 ey iU))
  (H1 : au ag 177 [gY a1 a2 b1 b2 mE d4 cS m4 ey iU] (a7 r)) :
  au ag 155 [aE a1 a2, aE b1 b2, aE l1 l2, aE h1 h2, ax k] (a7 r) := by
 subst Ym;subst qn;refine bd (f := 155) Tryz.func155 rfl rfl rfl rfl ?_;(refine bS ?_);refine WX 5 ?_;(refine bS ?_)
 ((refine aW rfl (aY rfl aJ) ?_))
 exact ah.aK.refl _
end Go.Proofs.YtbcecodakfejaaaGreat
