/-
  My own texts, without what this claim does not need. My own text.
-/
import Derived.Test.YtbcecodakfejaaaGreatSApartK7
set_option maxRecDepth 100000
set_option maxHeartbeats 64000000
set_option linter.unusedVariables false
set_option linter.unusedSimpArgs false
set_option linter.unusedSectionVars false
open Go.Proofs.Tryz renaming prog → ag
namespace Go.Proofs.YtbcecodakfejaaaGreat
open Go.RowKit
abbrev Bn (n d : Int) : br := .agg [.c (.int .i64 (bY n)), .c (.int .u64 (dq n)), .c (.int .i64 (bY d)), .c (.int .u64 (dq d))]
abbrev fv (n d : Int) : ah := .w (Bn n d)
abbrev fx (n d : Int) : Value := .agg #[.int .i64 (bY n), .int .u64 (dq n), .int .i64 (bY d), .int .u64 (dq d)]
abbrev tJ (n : Int) : Value := .agg #[.int .i64 (bY n), .int .u64 (dq n)]
theorem M3 (d : Int) : (d < 0 → cD d 0 = -1) ∧ (d = 0 → cD d 0 = 0) ∧ (0 < d → cD d 0 = 1) := by unfold cD; refine ⟨fun h => ?_, fun h => ?_, fun h => ?_⟩ <;> split <;> (try split) <;> omega
section
set_option maxRecDepth 100000
set_option maxHeartbeats 4000000
theorem Pk {k : Int} (aA : -9223372036854775808 ≤ k) (h1 : k < 9223372036854775808) : aC ag 148 [aB k] (fv k 1) := by
 have aU := tr aA h1;have bD := tr (n := 1) (by decide) (by decide);clear aA h1;refine bi (f := 148) Tryz.func148 rfl rfl rfl rfl ?_;(refine bZ ?_)
 ((refine ba rfl (cL rfl rfl rfl aK) ?_))
 exact ah.aQ.refl _
theorem abZ {n d : Int} (f : fits n = true) (g : fits d = true) (hd : 0 < d) : aC ag 151 [fL n, fL d] (.cj [Bn n d, .one (.c (.bool true))]) := by
 have aU := C6 g;rw [(M3 d).2.2 hd] at aU;clear f g hd;refine bi (f := 151) Tryz.func151 rfl rfl rfl rfl ?_;(refine bZ ?_)
 ((refine ba rfl (cL rfl rfl rfl (a6 rfl aK)) ?_))
 exact ah.aQ.refl _
theorem abY {n d : Int} (f : fits n = true) (g : fits d = true) (hd : d < 0) {s : Bool} {x y : Int} (hs : (fits (-n) && fits (-d)) = s) (aa : x = if s then -n else 0) (ai : y = if s then -d else 0) : aC ag 151 [fL n, fL d] (.cj [Bn x y, .one (.c (.bool s))]) := by
 have aU := C6 g;rw [(M3 d).1 hd] at aU;have bD := PL f;have eg := PL g;subst hs;clear f g hd;cases h1 : fits (-n) with
 | true =>
  rw [h1] at aa ai;cases h2 : fits (-d) with
  | true =>
   rw [h2] at aa ai;rw [vm h1] at bD;rw [vm h2] at eg;obtain rfl : x = -n := aa;obtain rfl : y = -d := ai;clear h1 h2;refine bi (f := 151) Tryz.func151 rfl rfl rfl rfl ?_;(refine bZ ?_)
   ((refine ba rfl (cL rfl rfl rfl (a6 rfl aK)) ?_))
   exact ah.aQ.refl _
  | false =>
   rw [h2] at aa ai;rw [vm h1] at bD;rw [RK h2] at eg;obtain rfl : x = 0 := aa;obtain rfl : y = 0 := ai;clear h1 h2;refine bi (f := 151) Tryz.func151 rfl rfl rfl rfl ?_;(refine bZ ?_)
   ((refine ba rfl (cL rfl rfl rfl (a6 rfl aK)) ?_))
   exact ah.aQ.refl _
 | false =>
  rw [h1] at aa ai;rw [RK h1] at bD;obtain rfl : x = 0 := aa;obtain rfl : y = 0 := ai;obtain ⟨z, b, e⟩ : ∃ z b, wf (-d) = .cj [mc z, .one (.c (.bool b))] := ⟨_, _, rfl⟩;rw [e] at eg;clear h1 e;refine bi (f := 151) Tryz.func151 rfl rfl rfl rfl ?_;(refine bZ ?_)
  ((refine ba rfl (cL rfl rfl rfl (a6 rfl aK)) ?_))
  exact ah.aQ.refl _
theorem Pj {n d : Int} (g : fits d = true) : aC ag 185 [fv n d] (bf (decide (0 < d))) := by
 have aU := C6 g;rw [← YV d];generalize cD d 0 = c at *;clear g;refine bi (f := 185) Tryz.func185 rfl rfl rfl rfl ?_;(refine bZ ?_)
 ((refine ba rfl (a6 rfl aK) ?_))
 exact ah.aQ.refl _
theorem abS {n d : Int} (f : fits n = true) (g : fits d = true) (hd : 0 < d) : aC ag 188 [fv n d] (fL (n / d)) := by
 have aU := Pf f g hd;clear f g hd;refine bi (f := 188) Tryz.func188 rfl rfl rfl rfl ?_;(refine bZ ?_)
 ((refine ba rfl (cL rfl rfl rfl aK) ?_))
 exact ah.aQ.refl _
theorem Fg {n d : Int} (f : fits n = true) (hd : 0 < d) : fits (n / d) = true := by
 have nw := jr.1 f;refine jr.2 ?_
 by_cases au : 0 ≤ n
 ·have := nc au (show 0 ≤ d by omega);have := Int.ediv_le_self d au;omega
 ·have ff : n * d ≤ n * 1 := Int.mul_le_mul_of_nonpos_left (show n ≤ 0 by omega) (show 1 ≤ d by omega);have := (nQ (a := n) (b := n) hd).2 (by omega);have := Int.ediv_lt_of_lt_mul (a := n) (b := 0) hd (by omega);omega
theorem LD {n d : Int} (au : fits n = true) (hd : 0 < d) (yq : fits d = true) : fits (mW n d) = true := by
 unfold mW
 split
 ·exact Fg au hd
 ·exact (Oy au hd yq).2 (by omega)
theorem Wh {n d : Int} {k : Nat} (au : fits n = true) (hd : 0 < d) (yq : fits d = true) (af : k ≤ 100) : fits (lm n d k) = true := by
 unfold lm
 split
 ·exact LD au hd yq
 ·exact LD (Fg au hd) (hr (by decide)) (PU af)
theorem acD {n d : Int} {k : Nat} (f : fits n = true) (g : fits d = true) (hd : 0 < d) (af : k ≤ 100) : aC ag 161 [fv n d, aB k] (.cj [mc (lm n d k), .one (.c (.bool true))]) := by
 have aU := Pj (n := n) g;rw [ck hd] at aU;unfold lm
 by_cases aA : k = 0
 ·subst aA;have bD := Py f g hd;rw [if_pos rfl];clear f g hd;refine bi (f := 161) Tryz.func161 rfl rfl rfl rfl ?_;(refine bZ ?_)
  ((refine ba rfl (cL rfl rfl rfl (a6 rfl aK)) ?_))
  exact ah.aQ.refl _
 ·rw [if_neg aA];have hp := PU af;have bD := tr (n := 1) (by decide) (by decide);have eg := ada (n := 1) (k := (k : Int)) (by decide) (by omega) (by omega);rw [Int.one_mul, ks, vm hp] at eg;have kb := abS f g hd;have my := Py (Fg f hd) hp (hr (by decide));have h1 : ¬ (k : Int) = 0 := by omega
  have h2 : ¬ (k : Int) < 0 := by omega
  have h3 : ¬ (k : Int) > 100 := by omega
  clear f g hd hp;refine bi (f := 161) Tryz.func161 rfl rfl rfl rfl ?_;(refine bZ ?_)
  ((refine ba rfl (cL rfl rfl rfl (a6 rfl aK)) ?_))
  exact ah.aQ.refl _
theorem acE {n d k : Int} (f : fits n = true) (g : fits d = true) (kp : ¬ (0 < d) ∨ (k < 0 ∨ 100 < k)) : aC ag 161 [fv n d, aB k] (.cj [.agg [.c (.int .i64 0), .c (.int .u64 0)], .one (.c (.bool false))]) := by
 have aU := Pj (n := n) g
 by_cases hd : 0 < d
 ·rw [ck hd] at aU;have h1 : k < 0 ∨ (¬ k < 0 ∧ k > 100) := by omega
  clear f g kp hd;rcases h1 with h1 | ⟨h1, h2⟩
  ·refine bi (f := 161) Tryz.func161 rfl rfl rfl rfl ?_;(repeat first | refine ec ?_ | refine gF ?_ | (with_reducible apply cc (c := true)); rfl; rfl; (exact ck (by omega)))
   ((refine ba rfl (cL rfl rfl rfl (a6 rfl aK)) ?_))
   exact ah.aQ.refl _
  ·refine bi (f := 161) Tryz.func161 rfl rfl rfl rfl ?_;(repeat first | refine ec ?_ | refine gF ?_ | (with_reducible apply cc (c := false)); rfl; rfl; (exact cC (by omega)))
   ((refine ba rfl (cL rfl rfl rfl (a6 rfl aK)) ?_))
   exact ah.aQ.refl _
 ·rw [cC hd] at aU;clear f g kp hd;refine bi (f := 161) Tryz.func161 rfl rfl rfl rfl ?_;(refine bZ ?_)
  ((refine ba rfl (cL rfl rfl rfl (a6 rfl aK)) ?_))
  exact ah.aQ.refl _
end
abbrev ad2 (n d : Int) : br := .agg [.c (.bool (decide (n < 0))), .p (kY n), .c (.bool (decide (d < 0))), .p (kY d)]
abbrev jm (n d : Int) : ah := .w (ad2 n d)
theorem Ox {n d : Int} (hd : 0 < d) : mW n d = (n + n + d) / (d * 2) := by
 have h1 := pK n d;have h2 := nP n (show d ≠ 0 by omega);have h3 := na n hd;unfold mW;generalize n / d = q at *;generalize n % d = r at *;have e : n + n + d = (r + r + d) + q * (d * 2) := by rw [← h1, gR q (d * 2), jl, Int.mul_left_comm d 2 q]; omega
 rw [e, Int.add_mul_ediv_right _ _ (by omega)]
 split
 ·rw [Int.ediv_eq_zero_of_lt (by omega) (by omega)]; omega
 ·have : (r + r + d) / (d * 2) = 1 := by
   rw [show r + r + d = (r + r - d) + 1 * (d * 2) by omega, Int.add_mul_ediv_right _ _ (by omega), Int.ediv_eq_zero_of_lt (by omega) (by omega)];omega
  rw [this]; omega
theorem afj {n d : Int} (k : Nat) (hd : 0 < d) : (n + n + d * 2 ^ k) / (d * 2 ^ (k + 1)) = lm n d k := by
 unfold lm;rcases k with _ | k
 ·rw [if_pos rfl, Ox hd];simp
 ·rw [if_neg (by omega), Ox (hr (by decide))];have hp : (0 : Int) < 2 ^ k := hr (by decide);rw [nb 2 (k + 1), nb 2 k];generalize (2 : Int) ^ k = Q at *
  have aF : (n + n + d * (Q * 2)) / (d * (Q * 2 * 2)) = (n + d * Q) / (d * (Q * 2)) := by
   rw [show n + n + d * (Q * 2) = 2 * (n + d * Q) by rw [gR Q 2, Int.mul_left_comm]; omega, show d * (Q * 2 * 2) = 2 * (d * (Q * 2)) by rw [gR (Q * 2) 2, Int.mul_left_comm], Int.mul_ediv_mul_of_pos _ _ (by decide)]
  have aN : (n / d + n / d + Q * 2) / (Q * 2 * 2) = (n / d + Q) / (Q * 2) := by
   rw [show n / d + n / d + Q * 2 = 2 * (n / d + Q) by omega, gR (Q * 2) 2, Int.mul_ediv_mul_of_pos _ _ (by decide)]
  rw [aF, aN, ← wZ (by omega), gR d Q, Int.add_mul_ediv_right _ _ (by omega)]
def fS (k : Int) (r : Nat) : Prop := r ≤ 28 ∧ ((k < 0 ∧ r = 0) ∨ (28 < k ∧ r = 28) ∨ (r : Int) = k)
theorem Ni (k : Int) : ∃ r, fS k r := by
 by_cases h : k < 0
 ·exact ⟨0, by omega, .inl ⟨h, rfl⟩⟩
 ·by_cases aJ : 28 < k
  ·exact ⟨28, by omega, .inr (.inl ⟨aJ, rfl⟩)⟩
  ·exact ⟨k.toNat, by omega, .inr (.inr (by omega))⟩
theorem ve {a b : Int} {w w' : World} (e : a = b) (h : Below w.heap.size w w') : kz (.int .i64 b) w (.returned (.int .i64 a)) w' := ⟨by rw [e], h⟩
theorem w6 {a b : Bool} {w w' : World} (e : a = b) (h : Below w.heap.size w w') : kz (.bool b) w (.returned (.bool a)) w' := ⟨by rw [e], h⟩
theorem zk (k : Int) (r : Nat) (w : World) (h : fS k r) : Calls ag 75 #[.int .i64 k] w (kz (.int .i64 r) w) := by
 have lV := Lib.hid h;clear h
 go_enter Tryz.func75, Tryz.ntmps75
 go_wp2
 all_goals
  go_ret
  refine ve ?_ (Below.refl _ _);have h1 := lV.out;unfold fS at h1;omega
theorem RO (n : Int) (h : -9223372036854775808 ≤ n ∧ n ≤ 9223372036854775807) : wrap64 n = n := by unfold wrap64; omega
theorem zv {r : Nat} (h : r ≤ 28) : (1 : Int) ≤ 2 ^ r ∧ (2 : Int) ^ r ≤ 268435456 := by
 have h1 := Nat.pow_le_pow_right (show 0 < 2 by decide) h;have h2 := Nat.pow_pos (show 0 < 2 by decide) (n := r);have e : ((2 : Int) ^ r) = ((2 ^ r : Nat) : Int) := by simp
 rw [show (2 : Nat) ^ 28 = 268435456 by decide] at h1;rw [e];omega
def cn (v : Int) (r : Nat) : Int := (2 * v + 2 ^ r) / (2 * 2 ^ r)
theorem WC (v : Int) : cn v 0 = v := by unfold cn; omega
theorem WB (v : Int) (r : Nat) : cn v (r + 1) = v / 2 ^ (r + 1) + v / 2 ^ r % 2 := by
 unfold cn;have hp : (0 : Int) < 2 ^ r := hr (by decide);rw [nb];generalize (2 : Int) ^ r = P at *
 have aF : (2 * v + P * 2) / (2 * (P * 2)) = (v + P) / (P * 2) := by
  rw [show 2 * v + P * 2 = 2 * (v + P) by omega, Int.mul_ediv_mul_of_pos _ _ (by decide)]
 rw [aF, ← wZ (by omega), ← wZ (by omega), show v + P = v + 1 * P by omega, Int.add_mul_ediv_right _ _ (by omega)];omega
theorem Uu (x : Int) : bits BinOp.and IntKind.i64 x 1 = x % 2 := by
 unfold bits
 have h : (BitVec.ofInt 64 x &&& BitVec.ofInt 64 1).toNat = (x % 2).toNat := by
  rw [BitVec.toNat_and, BitVec.toNat_ofInt, BitVec.toNat_ofInt, show ((1 : Int) % ((2 ^ 64 : Nat) : Int)).toNat = 1 by decide, Nat.and_one_is_mod];omega
 show IntKind.i64.wrap ((BitVec.ofInt 64 x &&& BitVec.ofInt 64 1).toNat : Int) = x % 2;rw [h];have h2 : ((x % 2).toNat : Int) = x % 2 := by omega
 rw [h2];rcases (show x % 2 = 0 ∨ x % 2 = 1 by omega) with e | e <;> rw [e] <;> decide
theorem afk {v : Int} (r : Nat) (v0 : -9223372036854775808 ≤ v) (v1 : v < 9223372036854775808) : wrap64 (v / 2 ^ (r + 1) + v / 2 ^ r % 2) = cn v (r + 1) := by
 rw [WB];refine RO _ ?_;have hp : (0 : Int) < 2 ^ r := hr (by decide);rw [nb, ← wZ (by omega)]
 have h1 : -9223372036854775808 ≤ v / 2 ^ r := by
  rw [nQ hp];have := pJ (show (1 : Int) ≤ 2 ^ r by omega) (show (0 : Int) ≤ 9223372036854775808 by omega);omega
 have h2 : v / 2 ^ r ≤ 9223372036854775807 := by
  by_cases h : 0 ≤ v
  ·have := Int.ediv_le_self (2 ^ r) h;omega
  ·have := Int.ediv_neg_of_neg_of_pos (show v < 0 by omega) hp;omega
 generalize v / 2 ^ r = q at *;omega
theorem Wt (v k : Int) (w : World) (h : fS k 0) : Calls ag 41 #[.int .i64 v, .int .i64 k] w (kz (.int .i64 v) w) := by
 have lV := Lib.hid (fun w => zk k 0 w h);clear h
 go_enter Tryz.func41, Tryz.ntmps41
 go_wp2_with (go_at_call 75; ((with_reducible refine (lV.out _).mono ?_); rintro e w1 ⟨rfl, ab⟩))
 go_ret
 exact ve rfl (by (repeat first | with_reducible assumption))
theorem Ws (v k : Int) (r : Nat) (w : World) (h : fS k (r + 1)) (v0 : -9223372036854775808 ≤ v) (v1 : v < 9223372036854775808) : Calls ag 41 #[.int .i64 v, .int .i64 k] w (kz (.int .i64 (cn v (r + 1))) w) := by
 have lV := Lib.hid (fun w => zk k (r + 1) w h);have vt := Lib.hid (afk r v0 v1);have al : r < 28 := by unfold fS at h; omega
 clear h v0 v1
 go_enter Tryz.func41, Tryz.ntmps41
 go_wp2_with (go_at_call 75; ((with_reducible refine (lV.out _).mono ?_); rintro e w1 ⟨rfl, ab⟩))
 go_region
 go_wp2
 go_ret
 exact ve (by rw [Uu]; exact vt.out) (by (repeat first | with_reducible assumption | with_reducible refine Below.drew ?_))
theorem Wr (v k : Int) (r : Nat) (w : World) (h : fS k r) (v0 : -9223372036854775808 ≤ v) (v1 : v < 9223372036854775808) : Calls ag 41 #[.int .i64 v, .int .i64 k] w (kz (.int .i64 (cn v r)) w) := by
 rcases r with _ | r
 ·rw [WC]; exact Wt v k w h
 ·exact Ws v k r w h v0 v1
theorem age {r : Nat} (h : r ≤ 28) : wrap64 (2 ^ r) = 2 ^ r := RO _ (by have := zv h; omega)
theorem ae7 (k : Int) (r : Nat) (w : World) (h : fS k r) : Calls ag 39 #[.int .i64 k] w (kz (.int .i64 (2 ^ r)) w) := by
 have lV := Lib.hid (fun w => zk k r w h);have al : r ≤ 28 := h.1;clear h
 go_enter Tryz.func39, Tryz.ntmps39
 go_wp2_with (go_at_call 75; ((with_reducible refine (lV.out _).mono ?_); rintro e w1 ⟨rfl, ab⟩))
 go_ret
 exact ve (age al) (by (repeat first | with_reducible assumption))
def SO (m : Int) (w : World) (e : Ending) (w' : World) : Prop := ∃ b, e = .returned (.func (Fn.func 114) #[] #[.pointer (some ⟨b, 0, none⟩)]) ∧ w'.cell? ⟨b, 0, none⟩ = some (.int .i64 m) ∧ Below w.heap.size w w'
theorem OJ (k : Int) (r : Nat) (w : World) (h : fS k r) : Calls ag 74 #[.int .i64 k] w (SO (134217728 / 2 ^ r) w) := by
 have lV := Lib.hid (fun w => zk k r w h);have al : r ≤ 28 := h.1;clear h
 go_enter Tryz.func74, Tryz.ntmps74
 go_wp2_with (go_at_call 75; ((with_reducible refine (lV.out _).mono ?_); rintro e w1 ⟨rfl, ab⟩))
 go_ret
 exact ⟨_, rfl, by go_simp, by (repeat first | with_reducible assumption | with_reducible refine dC ?_ _)⟩
def wi (m n : Int) : Bool := decide (-m ≤ n) && decide (n ≤ m)
theorem CH (b : Nat) (m n : Int) (w : World) (aj : w.cell? ⟨b, 0, none⟩ = some (.int .i64 m)) (m0 : 0 ≤ m) (m1 : m ≤ 134217728) : Calls ag 114 #[.int .i64 n, .pointer (some ⟨b, 0, none⟩)] w (kz (.bool (wi m n)) w) := by
 go_enter Tryz.func114, Tryz.ntmps114
 go_wp2
 ·go_ret
  exact w6 (by unfold wi; rw [ck (show -m ≤ n by assumption)]; rfl) (Below.refl _ _)
 ·go_ret
  exact w6 (by unfold wi; rw [cC (show ¬ (-m ≤ n) by omega)]; rfl) (Below.refl _ _)
def er (r : Nat) (x y : Int) : Bool := wi (134217728 / 2 ^ r) x && wi (134217728 / 2 ^ r) y
theorem Fe (r : Nat) : (0 : Int) ≤ 134217728 / 2 ^ r ∧ (134217728 : Int) / 2 ^ r ≤ 134217728 := by
 have hp : (0 : Int) < 2 ^ r := hr (by decide);exact ⟨nc (by decide) (by omega), Int.ediv_le_self _ (by decide)⟩
theorem IK (r : Nat) (n : Int) : wi (134217728 / 2 ^ r) n = decide (-134217728 ≤ 2 ^ r * n ∧ 2 ^ r * n ≤ 134217728) := by
 have hp : (0 : Int) < 2 ^ r := hr (by decide);unfold wi;rw [lN, dx, ca, ca, ca, gR];generalize (2 : Int) ^ r = P at *;have h1 := nQ (a := n) (b := 134217728) hp;have h2 := nQ (a := -n) (b := 134217728) hp;rw [Int.neg_mul] at h2
 constructor
 ·intro ⟨q1, q2⟩;exact ⟨by have := h2.1 (by omega); omega, h1.1 q2⟩
 ·intro ⟨q1, q2⟩;exact ⟨by have := h2.2 (by omega); omega, h1.2 q2⟩
theorem wI (r : Nat) (x y : Int) : er r x y = true ↔ (-134217728 ≤ 2 ^ r * x ∧ 2 ^ r * x ≤ 134217728) ∧ (-134217728 ≤ 2 ^ r * y ∧ 2 ^ r * y ≤ 134217728) := by
 unfold er;rw [IK, IK, dx, ca, ca]
theorem Sw (x y k : Int) (r : Nat) (w : World) (h : fS k r) : Calls ag 38 #[.agg #[.int .i64 x, .int .i64 y], .int .i64 k] w (kz (.bool (er r x y)) w) := by
 have lV := Lib.hid (fun w => OJ k r w h);obtain ⟨m0, m1⟩ := Fe r;have I0 := Lib.hid (show er r x y = (wi (134217728 / 2 ^ r) x && wi (134217728 / 2 ^ r) y) from rfl);clear h;generalize (134217728 : Int) / 2 ^ r = M at *;have xu := Lib.hid m0;have xv := Lib.hid m1;clear m0 m1
 go_enter Tryz.func38, Tryz.ntmps38
 go_wp2_with (first
  | (go_at_call 74; ((with_reducible refine (lV.out _).mono ?_); rintro e w1 ⟨b, rfl, aj, ab⟩; have RW : cM w1 (w.heap.size) (.int .i64 x) (.int .i64 y) := (by (repeat first | focus ((with_reducible refine cM.new ?_); simp; done) | with_reducible refine cM.call ?_ ab)); obtain ⟨⟨agP, ag0⟩, aha, ahe⟩ := id RW))
  | (go_at_call 114; ((with_reducible refine (CH b M x _ aj xu.out xv.out).mono ?_); rintro e w2 ⟨rfl, da⟩; have gH := (da.cell (p := ⟨b, 0, none⟩) (World.block_lt_of_cell? _ _ aj)).trans aj; clear aj; have RX : cM w2 (w.heap.size) (.int .i64 x) (.int .i64 y) := (by (repeat first | with_reducible assumption | with_reducible refine cM.call ?_ da)); obtain ⟨⟨agQ, ag1⟩, ahb, ahf⟩ := id RX))
  | (go_at_call 114; ((with_reducible refine (CH b M y _ gH xu.out xv.out).mono ?_); rintro e w3 ⟨rfl, FV⟩)))
 ·go_ret
  exact w6 (by rw [I0.out]; simp_all) (by (repeat first | with_reducible exact Below.refl _ _ | with_reducible refine dC ?_ _ | with_reducible refine eR ?_ FV | with_reducible refine eR ?_ da | with_reducible refine eR ?_ ab))
 ·go_ret
  exact w6 (by rw [I0.out]; simp_all) (by (repeat first | with_reducible exact Below.refl _ _ | with_reducible refine dC ?_ _ | with_reducible refine eR ?_ da | with_reducible refine eR ?_ ab))
theorem Wq (k : Int) (w : World) : Calls ag 153 #[.int .i64 k] w (kz (.bool (decide (0 ≤ k) && decide (k ≤ 28))) w) := by
 go_enter Tryz.func153, Tryz.ntmps153
 go_wp2
 ·go_ret
  exact w6 (by rw [ck (show 0 ≤ k by assumption)]; rfl) (Below.refl _ _)
 ·go_ret
  exact w6 (by rw [cC (show ¬ (0 ≤ k) by omega)]; rfl) (Below.refl _ _)
theorem DZ (n m : Int) (w : World) : Calls ag 201 #[.int .i64 n, .int .i64 m] w (kz (.int .i64 (cD n m)) w) := by
 go_enter Tryz.func201, Tryz.ntmps201
 go_wp2
 all_goals
  go_ret
  refine ve ?_ (Below.refl _ _);unfold cD
  repeat' split
  all_goals omega
def lK (x y x' y' : Int) : Int := if x = x' then cD y y' else cD x x'
theorem Wp (x y x' y' : Int) (w : World) : Calls ag 182 #[.agg #[.int .i64 x, .int .i64 y], .agg #[.int .i64 x', .int .i64 y']] w (kz (.int .i64 (lK x y x' y')) w) := by
 have aU := Lib.hid (fun w => DZ x x' w);have bD := Lib.hid (fun w => DZ y y' w);have n2 : Hid (x = x' → cD y y' = lK x y x' y') := fun h => by unfold lK; rw [if_pos h]
 have k0 : Hid (¬ (x = x') → cD x x' = lK x y x' y') := fun h => by unfold lK; rw [if_neg h]
 go_enter Tryz.func182, Tryz.ntmps182
 go_wp2_with (first
  | (go_at_call 201; ((with_reducible refine (aU.out _).mono ?_); rintro e w1 ⟨rfl, ab⟩))
  | (go_at_call 201; ((with_reducible refine (bD.out _).mono ?_); rintro e w1 ⟨rfl, ab⟩)))
 ·go_ret
  exact ve (k0.out (by simpa using ‹(x != x') = true›)) (by (repeat first | with_reducible exact Below.refl _ _ | with_reducible refine dC ?_ _ | with_reducible refine eR ?_ ab))
 ·go_ret
  exact ve (n2.out (by simpa using ‹(x != x') = false›)) (by (repeat first | with_reducible exact Below.refl _ _ | with_reducible refine dC ?_ _ | with_reducible refine eR ?_ ab))
end Go.Proofs.YtbcecodakfejaaaGreat
namespace Go.Proofs.YtbcecodakfejaaaGreat
open Go.RowKit
attribute [local go_sem ↓] Go.wp_at_zero Go.wp_at_succ
end Go.Proofs.YtbcecodakfejaaaGreat
namespace Go.Proofs.YtbcecodakfejaaaGreat
open Go.RowKit
attribute [local go_sem ↓] Go.wp_at_zero Go.wp_at_succ
def Jj (s : Bool) (z : Int) (w : World) (e : Ending) (w' : World) : Prop := ∃ H L, e = .returned (.tuple #[.agg #[.int .i64 H, .int .u64 L], .bool s]) ∧ cG H L z ∧ Below w.heap.size w w'
def AG (v : Int) (b : Bool) (w : World) (e : Ending) (w' : World) : Prop := e = .returned (.tuple #[.int .i64 v, .bool b]) ∧ Below w.heap.size w w'
def SY (w : World) (s : Bool) (z : Int) (u v : Value) (W : World) : Prop := ∃ g ob kh, u = .pointer (some ⟨g, 0, none⟩) ∧ v = .bool s ∧ cG ob kh z ∧ cM W g (.int .i64 ob) (.int .u64 kh) ∧ Below w.heap.size w W
theorem Is (aH qx aJ cw k : Int) (r : Nat) (s : Bool) (z v : Int) (b : Bool) (w : World) (h : fS k r)
  (IZ : ∀ w, Calls ag 161 #[.agg #[.int .i64 aH, .int .u64 qx, .int .i64 aJ, .int .u64 cw], .int .i64 r] w (Jj s z w))
  (hv : (s = false ∧ v = 0 ∧ b = false) ∨ (s = true ∧ small z = false ∧ v = 0 ∧ b = false) ∨ (s = true ∧ small z = true ∧ wi (134217728 / 2 ^ r) z = false ∧ v = 0 ∧ b = false) ∨ (s = true ∧ small z = true ∧ wi (134217728 / 2 ^ r) z = true ∧ v = z ∧ b = true)) :
  Calls ag 143 #[.agg #[.int .i64 aH, .int .u64 qx, .int .i64 aJ, .int .u64 cw], .int .i64 k] w (AG v b w) := by
 have IY := Lib.hid (fun w => zk k r w h);have D3 := Lib.hid (fun w => OJ k r w h);have vt := Lib.hid IZ;obtain ⟨m0, m1⟩ := Fe r;clear h IZ;generalize (134217728 : Int) / 2 ^ r = M at *;have xu := Lib.hid m0;have xv := Lib.hid m1;have oU := Lib.hid hv;clear m0 m1 hv
 go_enter Tryz.func143, Tryz.ntmps143
 go_upto_region 1 with fail
 have fe : gW (w.alloc (.cells #[.int .i64 aH, .int .u64 qx, .int .i64 aJ, .int .u64 cw] 148)) w.heap.size (.int .i64 aH) (.int .u64 qx) (.int .i64 aJ) (.int .u64 cw) := (by (repeat first | focus ((with_reducible refine gW.new ?_); simp; done)));have EN : Below w.heap.size w (w.alloc (.cells #[.int .i64 aH, .int .u64 qx, .int .i64 aJ, .int .u64 cw] 148)) := (by (repeat first | with_reducible exact Below.refl _ _ | with_reducible refine dC ?_ _))
 go_cut [6, 7] (fun u v tJ => SY w s z u v tJ)
 case first =>
  clear oU D3
  go_region_held3 (fun w' => w'.cell? ⟨w.heap.size, 0, none⟩ = some (.int .i64 aH) ∧ w'.cell? ⟨w.heap.size, 1, none⟩ = some (.int .u64 qx) ∧ w'.cell? ⟨w.heap.size, 2, none⟩ = some (.int .i64 aJ) ∧ w'.cell? ⟨w.heap.size, 3, none⟩ = some (.int .u64 cw))
   (((refine gW.cs ?_); ((repeat first | with_reducible assumption | with_reducible refine gW.alloc ?_ _ | with_reducible refine gW.drew ?_ | focus ((with_reducible refine gW.set ?_ _ ?_); rotate_left; omega) | with_reducible refine gW.call ?_ da | with_reducible refine gW.call ?_ c9); done)))
   (first
    | (go_at_call 75; ((with_reducible refine (IY.out _).mono ?_); rintro e w1 ⟨rfl, c9⟩; have YM := Below.size c9; (try simp at YM)))
    | (go_at_call 161; ((with_reducible refine (vt.out _).mono ?_); rintro e w2 ⟨afY, afZ, rfl, hu, da⟩; have GO := Below.size da; (try simp at GO); (try ((refine KS (p := cM w2 (w.heap.size + 1) (.int .i64 0) (.int .u64 0)) ?_ ?_); (repeat first | focus ((with_reducible refine cM.new ?_); simp; done) | with_reducible refine cM.alloc ?_ _ | with_reducible refine cM.drew ?_ | with_reducible refine cM.call ?_ da | with_reducible refine cM.call ?_ c9); intro Al; obtain ⟨⟨agR, ag2⟩, ahc, ahg⟩ := id Al; have ah4 := cM.lt Al; have aib := Nat.ne_of_gt (cM.lt Al); have ah9 := Nat.ne_of_lt (cM.lt Al))); (try ((refine KS (p := cM w2 (w1.heap.size) (.int .i64 0) (.int .u64 0)) ?_ ?_); (repeat first | focus ((with_reducible refine cM.new ?_); simp; done) | with_reducible refine cM.alloc ?_ _ | with_reducible refine cM.drew ?_ | with_reducible refine cM.call ?_ da | with_reducible refine cM.call ?_ c9); intro Am; obtain ⟨⟨agS, ag3⟩, ahd, ahh⟩ := id Am; have ah5 := cM.lt Am; have aic := Nat.ne_of_gt (cM.lt Am); have aia := Nat.ne_of_lt (cM.lt Am))))))
  all_goals
   go_wp2_with fail
   go_meet
   refine ⟨_, afY, afZ, rfl, rfl, hu, ?_, ?_⟩
   ·(repeat first | focus ((with_reducible refine cM.new ?_); simp; done) | with_reducible refine cM.put ?_ | focus ((with_reducible apply tS.of); with_reducible assumption))
   ·(repeat first | with_reducible assumption | with_reducible refine dC ?_ _ | focus ((with_reducible refine gZ ?_ _ _ _ ?_); rotate_left; omega) | with_reducible refine Below.drew ?_ | with_reducible refine eR ?_ da | with_reducible refine eR ?_ c9)
 case rest =>
  obtain ⟨g, ob, kh, rfl, rfl, ao, qj, iK⟩ := hcut;clear fe EN vt IY;obtain ⟨⟨Af, b8⟩, cp, jM⟩ := id qj;rcases oU.out with ⟨rfl, rfl, rfl⟩ | ⟨rfl, q, rfl, rfl⟩ | ⟨rfl, q, cd, rfl, rfl⟩ | ⟨rfl, q, cd, rfl, rfl⟩
  ·clear oU
   go_wp2
   go_ret2
   exact ⟨rfl, by (repeat first | with_reducible assumption)⟩
  ·have xq : Hid (∀ w, Calls ag 162 #[.agg #[.int .i64 ob, .int .u64 kh]] w (AG 0 false w)) := fun w => (Er ob kh z w ao).mono fun e w' k => by unfold vy at k; rw [q] at k; exact k
   clear oU q
   go_wp2_with (first
    | (go_at_call 162; ((with_reducible refine (xq.out _).mono ?_); rintro e ku ⟨rfl, ux⟩)))
   go_ret2
   exact ⟨rfl, by (repeat first | with_reducible assumption | with_reducible refine eR ?_ ux)⟩
  ·have xq : Hid (∀ w, Calls ag 162 #[.agg #[.int .i64 ob, .int .u64 kh]] w (AG z true w)) := fun w => (Er ob kh z w ao).mono fun e w' k => by unfold vy at k; rw [q] at k; exact k
   have tQ : Hid (∀ b w, w.cell? ⟨b, 0, none⟩ = some (.int .i64 M) → Calls ag 114 #[.int .i64 z, .pointer (some ⟨b, 0, none⟩)] w (kz (.bool false) w)) := fun b w aj => by have := CH b M z w aj xu.out xv.out; rw [cd] at this; exact this
   clear oU q cd
   go_wp2_with (first
    | (go_at_call 162; ((with_reducible refine (xq.out _).mono ?_); rintro e ku ⟨rfl, ux⟩))
    | (go_at_call 74; ((with_reducible refine (D3.out _).mono ?_); rintro e aga ⟨b, rfl, aj, FW⟩))
    | (go_at_call 114; ((with_reducible refine (tQ.out _ _ aj).mono ?_); rintro e agb ⟨rfl, FX⟩)))
   go_ret2
   exact ⟨rfl, by (repeat first | with_reducible assumption | with_reducible refine eR ?_ FX | with_reducible refine eR ?_ FW | with_reducible refine eR ?_ ux)⟩
  ·have xq : Hid (∀ w, Calls ag 162 #[.agg #[.int .i64 ob, .int .u64 kh]] w (AG v true w)) := fun w => (Er ob kh v w ao).mono fun e w' k => by unfold vy at k; rw [q] at k; exact k
   have tQ : Hid (∀ b w, w.cell? ⟨b, 0, none⟩ = some (.int .i64 M) → Calls ag 114 #[.int .i64 v, .pointer (some ⟨b, 0, none⟩)] w (kz (.bool true) w)) := fun b w aj => by have := CH b M v w aj xu.out xv.out; rw [cd] at this; exact this
   clear oU q cd
   go_wp2_with (first
    | (go_at_call 162; ((with_reducible refine (xq.out _).mono ?_); rintro e ku ⟨rfl, ux⟩))
    | (go_at_call 74; ((with_reducible refine (D3.out _).mono ?_); rintro e aga ⟨b, rfl, aj, FW⟩))
    | (go_at_call 114; ((with_reducible refine (tQ.out _ _ aj).mono ?_); rintro e agb ⟨rfl, FX⟩)))
   go_ret2
   exact ⟨rfl, by (repeat first | with_reducible assumption | with_reducible refine eR ?_ FX | with_reducible refine eR ?_ FW | with_reducible refine eR ?_ ux)⟩
theorem agd {r : Nat} {z : Int} (h : wi (134217728 / 2 ^ r) z = true) : small z = true := by
 obtain ⟨m0, m1⟩ := Fe r;unfold wi at h;rw [dx, ca, ca] at h;unfold small;rw [ca];omega
end Go.Proofs.YtbcecodakfejaaaGreat
namespace Go.Proofs.YtbcecodakfejaaaGreat
open Go.RowKit
section
variable {U : Nat → Prop} {ad : Nat → Nat} {W : World}
theorem QG : ∀ (xs : List AC) (r vs : List Value), sK xs = some r → bH U ad W xs vs → vs = r
 | [], r, vs, h, hv => by cases h; exact j3 hv.1.symm
 | .c v :: xs, r, vs, h, hv => by
  simp only [sK] at h
  split at h
  ·rename_i aT al;cases h
   match vs, hv with
   | [], hv => exact absurd hv.1 (by simp)
   | u :: vs, hv =>
    have aA := (hv.2 0 _ u rfl rfl).1;have bO := QG xs aT vs al ⟨by have := hv.1; simp at this; exact this, fun i x w aa hw => hv.2 (i + 1) x w (by simpa using aa) (by simpa using hw)⟩;rw [aA, bO]
  ·cases h
 | .own _ _ :: _, _, _, h, _ => by cases h
 | .p _ :: _, _, _, h, _ => by cases h
theorem QL {x : br} {u v : Value} (h : l6 x = some u) (hv : fE U ad W x v) : v = u := by
 cases x with
 | one y => cases y with
  | c w => cases h; exact hv.1
  | own => cases h
  | p => cases h
 | agg xs =>
  simp only [l6] at h
  split at h
  ·rename_i r al;cases h;obtain ⟨vs, rfl, hl⟩ := hv;rw [QG xs r vs al hl]
  ·cases h
theorem QI : ∀ (xs : List br) (r vs : List Value), vQ xs = some r → xs.length = vs.length → (∀ (i : Nat) (x : br) (v : Value), xs[i]? = some x → vs[i]? = some v → fE U ad W x v) → vs = r
 | [], r, vs, h, hl, _ => by cases h; exact j3 hl.symm
 | x :: xs, r, vs, h, hl, hv => by
  simp only [vQ] at h
  split at h
  ·rename_i v aT h1 al;cases h
   match vs, hl, hv with
   | u :: vs, hl, hv =>
    rw [QL h1 (hv 0 x u rfl rfl), QI xs aT vs al (by simpa using hl) fun i y w ai hw => hv (i + 1) y w (by simpa using ai) (by simpa using hw)]
  ·cases h
theorem aek {x : ah} {u v : Value} (h : qf x = some u) (hv : cR U ad W x v) : v = u := by
 cases x with
 | w y => exact QL h hv
 | cj xs =>
  simp only [qf] at h
  split at h
  ·rename_i r al;cases h;obtain ⟨vs, rfl, hl, aa⟩ := hv;rw [QI xs r vs al hl aa]
  ·cases h
end
theorem Kz {P : Program} {f : FuncId} {args : List ah} {r : ah} (h : aC P f args r) (iY : List Value) (bR : Value) (he : args.map qf = iY.map some) (ok : args.all HD = true) (al : qf r = some bR) (W : World) : Calls P f iY.toArray W fun e bb => e = .returned bR ∧ Below W.heap.size W bb :=
 (h.call (fun _ => True) W iY ⟨by have := congrArg List.length he; simpa using this, fun i x v aa hv => by
  have h1 : (args.map qf)[i]? = some (qf x) := by rw [ef, aa]; rfl
  rw [he, ef, hv] at h1;have h2 : some v = qf x := lP h1;exact Dn h2.symm (cb.1 ok x (c5 aa))⟩).mono fun e bb ⟨v, ol, hv, ab⟩ => by
  rw [aek al hv] at ol;exact ⟨ol, ab⟩
theorem Pp {v k : Int} {r : Nat} (h : fS k r) (v0 : -9223372036854775808 ≤ v) (v1 : v < 9223372036854775808) : aC ag 41 [aB v, aB k] (aB (cn v r)) :=
 ho [.int .i64 v, .int .i64 k] (.int .i64 (cn v r)) rfl rfl rfl rfl rfl fun W => Wr v k r W h v0 v1
theorem PI {k : Int} {r : Nat} (h : fS k r) : aC ag 39 [aB k] (aB (2 ^ r)) :=
 ho [.int .i64 k] (.int .i64 (2 ^ r)) rfl rfl rfl rfl rfl fun W => ae7 k r W h
theorem acH {k : Int} : aC ag 153 [aB k] (bf (decide (0 ≤ k) && decide (k ≤ 28))) :=
 ho [.int .i64 k] (.bool (decide (0 ≤ k) && decide (k ≤ 28))) rfl rfl rfl rfl rfl fun W => Wq k W
theorem zt {x y k : Int} {r : Nat} {b : Bool} (h : fS k r) (ab : er r x y = b) : aC ag 38 [aP x y, aB k] (bf b) := by
 subst ab;exact ho [.agg #[.int .i64 x, .int .i64 y], .int .i64 k] (.bool (er r x y)) rfl rfl rfl rfl rfl fun W => Sw x y k r W h
theorem acG {x y x' y' : Int} : aC ag 182 [aP x y, aP x' y'] (aB (lK x y x' y')) :=
 ho [.agg #[.int .i64 x, .int .i64 y], .agg #[.int .i64 x', .int .i64 y']] (.int .i64 (lK x y x' y')) rfl rfl rfl rfl rfl fun W => Wp x y x' y' W
theorem Po {x y k : Int} {r : Nat} (h : fS k r) (Af : -9223372036854775808 ≤ x) (b8 : x < 9223372036854775808) (lT : -9223372036854775808 ≤ y) (jo : y < 9223372036854775808) : aC ag 18 [aP x y, aB k] (aP (cn x r) (cn y r)) := by
 refine bi (f := 18) Tryz.func18 rfl rfl rfl rfl ?_;(repeat first | refine ec ?_ | refine lp (Pp h Af b8) ?_ | refine lp (Pp h lT jo) ?_)
 ((refine ba rfl (cL rfl rfl rfl aK) ?_))
 exact ah.aQ.refl _
theorem pF {x y k : Int} {r : Nat} (h : fS k r) (ab : er r x y = true) : aC ag 13 [aP x y, aB k] (aP (2 ^ r * x) (2 ^ r * y)) := by
 obtain ⟨⟨q1, q2⟩, bE, c4⟩ := (wI r x y).1 ab;have aU := zt h ab;have bD := PI h;clear h ab;generalize (2 : Int) ^ r = P at *;refine bi (f := 13) Tryz.func13 rfl rfl rfl rfl ?_;(refine bZ ?_)
 ((refine ba rfl (cL rfl rfl rfl aK) ?_))
 exact ah.aQ.refl _
theorem ace {x y k : Int} {r : Nat} (h : fS k r) (ab : er r x y = true) : aC ag 154 [aP x y, aB k] (.cj [.agg [.c (.int .i64 (2 * (2 ^ r * x) - 2 ^ r)), .c (.int .i64 (2 * (2 ^ r * y) - 2 ^ r))], .agg [.c (.int .i64 (2 * (2 ^ r * x) + 2 ^ r)), .c (.int .i64 (2 * (2 ^ r * y) + 2 ^ r))]]) := by
 obtain ⟨⟨q1, q2⟩, bE, c4⟩ := (wI r x y).1 ab;obtain ⟨kP, HZ⟩ := zv h.1;have aU := zt h ab;have bD := PI h;have eg := pF h ab;clear h ab;generalize (2 : Int) ^ r = P at *;generalize P * x = X at *;generalize P * y = Y at *;refine bi (f := 154) Tryz.func154 rfl rfl rfl rfl ?_;(refine bZ ?_)
 ((refine ba rfl (cL rfl rfl rfl (cL rfl rfl rfl aK)) ?_))
 exact ah.aQ.refl _
def sc (n d : Int) (r : Nat) : Bool := decide (0 < d) && wi (134217728 / 2 ^ r) (lm n d r)
def Dy (n d : Int) (r : Nat) : Int := if sc n d r then lm n d r else 0
theorem PJ {n d k : Int} {r : Nat} (h : fS k r) (f : fits n = true) (g : fits d = true) : aC ag 143 [fv n d, aB k] (.cj [.one (.c (.int .i64 (Dy n d r))), .one (.c (.bool (sc n d r)))]) := by
 refine ho [fx n d, .int .i64 k] (.tuple #[.int .i64 (Dy n d r), .bool (sc n d r)]) rfl rfl rfl rfl rfl fun W => ?_;unfold Dy sc
 by_cases hd : 0 < d
 ·have Ep : ∀ w, Calls ag 161 #[fx n d, .int .i64 r] w (Jj true (lm n d r) w) := fun w => (Kz (acD f g hd (by have := h.1; omega)) [fx n d, .int .i64 r] (.tuple #[tJ (lm n d r), .bool true]) rfl rfl rfl w).mono fun e w' k => ⟨_, _, k.1, lb (Wh f hd g (by have := h.1; omega)), k.2⟩;rw [ck hd, mq];cases hw : wi (134217728 / 2 ^ r) (lm n d r) with
  | true => exact Is _ _ _ _ k r true _ _ true W h Ep (.inr (.inr (.inr ⟨rfl, agd hw, hw, rfl, rfl⟩)))
  | false =>
   refine Is _ _ _ _ k r true _ 0 false W h Ep ?_;cases hs : small (lm n d r)
   ·exact .inr (.inl ⟨rfl, rfl, rfl, rfl⟩)
   ·exact .inr (.inr (.inl ⟨rfl, rfl, hw, rfl, rfl⟩))
 ·rw [cC hd, Bool.false_and];exact Is _ _ _ _ k r false 0 0 false W h (fun w => (Kz (acE (k := r) f g (.inl hd)) [fx n d, .int .i64 r] (.tuple #[tJ 0, .bool false]) rfl rfl rfl w).mono fun e w' k => ⟨_, _, k.1, wJ, k.2⟩) (.inl ⟨rfl, rfl, rfl⟩)
theorem abL {n d n' d' k : Int} {r : Nat} {b : Bool} (h : fS k r) (f : fits n = true) (g : fits d = true) (kD : fits n' = true) (jb : fits d' = true) (ab : (sc n d r && sc n' d' r) = b) :
  aC ag 122 [fv n d, fv n' d', aB k] (.cj [.agg [.c (.int .i64 (if b then lm n d r else 0)), .c (.int .i64 (if b then lm n' d' r else 0))], .one (.c (.bool b))]) := by
 have aU := PJ h f g;have bD := PJ h kD jb;clear h f g kD jb;unfold Dy at aU bD;cases q1 : sc n d r <;> cases q2 : sc n' d' r <;> rw [q1] at aU <;> rw [q2] at bD <;> rw [q1, q2] at ab <;> subst ab <;> clear q1 q2
 all_goals
  generalize lm n d r = X at *;generalize lm n' d' r = Y at *;refine bi (f := 122) Tryz.func122 rfl rfl rfl rfl ?_;(refine bZ ?_)
  ((refine ba rfl (cL rfl rfl rfl (a6 rfl aK)) ?_))
  exact ah.aQ.refl _
theorem HH {k : Int} {r : Nat} (h : fS k r) : aC ag 25 [aB k] (aB r) := by
 obtain ⟨aA, h1⟩ := h;have af : (r : Int) ≤ 28 := by omega
 rcases h1 with ⟨h1, rfl⟩ | ⟨h1, rfl⟩ | rfl
 all_goals
  refine bi (f := 25) Tryz.func25 rfl rfl rfl rfl ?_;(refine fl ?_)
  ((refine ba rfl (a6 rfl aK) ?_))
  exact ah.aQ.refl _
def CO (n : Int) (r : Nat) : Bool := decide (-134217728 ≤ n * 2 ^ r) && decide (n * 2 ^ r ≤ 134217728)
theorem abb (n : Int) (r : Nat) : CO n r = wi (134217728 / 2 ^ r) n := by
 rw [IK];unfold CO;rw [lN, dx, ca, ca, ca, gR]
theorem Px {n : Int} {r : Nat} {b : Bool} (au : cN 200 n) (al : r ≤ 28) (ab : CO n r = b) : aC ag 65 [e8 n, aB r] (bf b) := by
 have aU : aC ag 108 [aB r] (e8 (2 ^ r)) := PF (by omega)
 have bD : aC ag 108 [aB 27] (e8 134217728) := by
  have VM : (2 : Int) ^ 27 = 134217728 := by decide
  have := PF (k := 27) (by omega);rw [VM] at this;exact this
 have eg : aC ag 77 [e8 n, e8 (2 ^ r)] (e8 (n * 2 ^ r)) := u5 (au.up (by omega)) ((cN.PV r).up (by omega));have kb : aC ag 109 [e8 134217728] (e8 (-134217728)) := ac5 ((cN.zn (by decide)).up (show 10 ≤ 1000 by omega));have Hw : cN 1000 (n * 2 ^ r) := (au.mul (cN.PV r)).up (by omega);have my : aC ag 76 [e8 (n * 2 ^ r), e8 (-134217728)] (aB (cD (n * 2 ^ r) (-134217728))) := HO Hw ((cN.zn (by decide)).up (show 10 ≤ 1000 by omega));have An : aC ag 76 [e8 (n * 2 ^ r), e8 134217728] (aB (cD (n * 2 ^ r) 134217728)) := HO Hw ((cN.zn (by decide)).up (show 10 ≤ 1000 by omega));have i1 := GS (a := n * 2 ^ r) (b := -134217728);have i2 : cD (n * 2 ^ r) 134217728 ≤ 0 ↔ n * 2 ^ r ≤ 134217728 := by unfold cD; repeat' split <;> omega
 unfold CO at ab;generalize n * 2 ^ r = z at *;generalize cD z (-134217728) = a1 at *;generalize cD z 134217728 = a2 at *
 have cs : (0 ≤ a1 ∧ a2 ≤ 0 ∧ b = true) ∨ (0 ≤ a1 ∧ ¬ a2 ≤ 0 ∧ b = false) ∨ (¬ 0 ≤ a1 ∧ b = false) := by
  rw [← ab]
  by_cases p1 : -134217728 ≤ z <;> by_cases p2 : z ≤ 134217728 <;> simp [p1, p2] <;> omega
 clear ab au Hw i1 i2;have yI : (r : Int) ≤ 28 := by omega
 rcases cs with ⟨p1, p2, rfl⟩ | ⟨p1, p2, rfl⟩ | ⟨p1, rfl⟩
 ·refine bi (f := 65) Tryz.func65 rfl rfl rfl rfl ?_;(repeat first | refine ec ?_ | refine gF ?_ | (with_reducible apply cc (c := true)); rfl; rfl; (exact ck (by omega)))
  ((refine ba rfl (a6 rfl aK) ?_))
  exact ah.aQ.of_eq (by rw [ck p2]; rfl)
 ·refine bi (f := 65) Tryz.func65 rfl rfl rfl rfl ?_;(repeat first | refine ec ?_ | refine gF ?_ | (with_reducible apply cc (c := true)); rfl; rfl; (exact ck (by omega)))
  ((refine ba rfl (a6 rfl aK) ?_))
  exact ah.aQ.of_eq (by rw [cC p2]; rfl)
 ·refine bi (f := 65) Tryz.func65 rfl rfl rfl rfl ?_;(repeat first | refine ec ?_ | refine gF ?_ | (with_reducible apply cc (c := false)); rfl; rfl; (exact cC (by omega)))
  ((refine ba rfl (a6 rfl aK) ?_))
  exact ah.aQ.refl _
theorem ac0 {x y k : Int} {r : Nat} {b : Bool} (h : fS k r) (Af : -9223372036854775808 ≤ x) (b8 : x < 9223372036854775808) (lT : -9223372036854775808 ≤ y) (jo : y < 9223372036854775808) (ab : er r x y = b) : aC ag 35 [aP x y, aB k] (bf b) := by
 have aU := HH h;have bD := HP Af b8;have eg := HP lT jo;have dY : cN 200 x := (cN.zn (Bo Af b8)).up (by omega);have et : cN 200 y := (cN.zn (Bo lT jo)).up (by omega);have kb := Px dY h.1 rfl;have my := Px et h.1 rfl;rw [abb] at kb my;unfold er at ab;clear h dY et;cases q1 : wi (134217728 / 2 ^ r) x <;> cases q2 : wi (134217728 / 2 ^ r) y <;> rw [q1] at kb <;> rw [q2] at my <;> rw [q1, q2] at ab <;> subst ab <;> clear q1 q2
 all_goals
  refine bi (f := 35) Tryz.func35 rfl rfl rfl rfl ?_;(refine bZ ?_)
  ((refine ba rfl (a6 rfl aK) ?_))
  exact ah.aQ.refl _
end Go.Proofs.YtbcecodakfejaaaGreat
namespace Go.Proofs.YtbcecodakfejaaaGreat
abbrev df := Int × Int × Int
def lJ (x y z w : Int) : Bool := decide (x < z) || (decide (x = z) && decide (y < w))
theorem oB {x y z w : Int} : lJ x y z w = true ↔ x < z ∨ (x = z ∧ y < w) := by
 unfold lJ; simp
def tv (l : List df) (x y : Int) : List df := l.filter fun e => lJ e.1 e.2.1 x y
def C8 (l : List df) (x y : Int) : List df := l.filter fun e => lJ x y e.1 e.2.1
def r0 (l : List df) (x y v : Int) : List df := tv l x y ++ (x, y, v) :: C8 l x y
def sP (l : List df) (x y : Int) : Int := match l.findIdx? fun e => decide (e.1 = x) && decide (e.2.1 = y) with
 | some k => k
 | none => -1
def jQ (l : List df) : Prop := l.Pairwise fun a b => lJ a.1 a.2.1 b.1 b.2.1 = true
theorem abI {a b c d e f : Int} (h1 : lJ a b c d = true) (h2 : lJ c d e f = true) : lJ a b e f = true := by
 rw [oB] at *; omega
theorem adD {l : List df} (h : jQ l) (x y v : Int) : jQ (r0 l x y v) := by
 unfold r0 tv C8 jQ;rw [List.pairwise_append, iV];refine ⟨h.filter _, ⟨fun e he => ?_, h.filter _⟩, fun a aH b ab => ?_⟩
 ·exact (List.mem_filter.1 he).2
 ·have h1 := (List.mem_filter.1 aH).2;rcases fQ.1 ab with rfl | ab
  ·exact h1
  ·exact abI h1 (List.mem_filter.1 ab).2
def hb (l : List df) (x y : Int) : Bool := l.any fun e => decide (e.1 = x) && decide (e.2.1 = y)
theorem LU (l : List df) (x y : Int) : decide (0 ≤ sP l x y) = hb l x y := by
 unfold sP hb;cases h : l.findIdx? fun e => decide (e.1 = x) && decide (e.2.1 = y) with
 | none =>
  rw [List.findIdx?_eq_none_iff] at h
  have : (l.any fun e => decide (e.1 = x) && decide (e.2.1 = y)) = false := by
   rw [List.any_eq_false]; intro e he; rw [h e he]; decide
  rw [this]; rfl
 | some k =>
  have aA := List.findIdx?_eq_some_iff_getElem.1 h;obtain ⟨af, h1, _⟩ := aA;have : (l.any fun e => decide (e.1 = x) && decide (e.2.1 = y)) = true := tz.2 ⟨l[k], List.getElem_mem af, h1⟩;rw [this]; simp
theorem Ww {l : List df} {x y : Int} (h : 0 ≤ sP l x y) : ∃ k v, sP l x y = (k : Nat) ∧ k < l.length ∧ l[k]? = some (x, y, v) := by
 unfold sP at h ⊢;cases ap : l.findIdx? fun e => decide (e.1 = x) && decide (e.2.1 = y) with
 | none => rw [ap] at h; simp at h
 | some k =>
  obtain ⟨af, h1, _⟩ := List.findIdx?_eq_some_iff_getElem.1 ap;simp only [dx, ca] at h1;refine ⟨k, l[k].2.2, rfl, af, ?_⟩;rw [bQ af];congr 1;exact Prod.ext h1.1 (Prod.ext h1.2 rfl)
def nX (l : List df) (x y : Int) : Int := match l.findIdx? fun e => decide (e.1 = x) && decide (e.2.1 = y) with
 | some k => (l.getD k (0, 0, 0)).2.2
 | none => 0
theorem af6 {l : List df} {x y v : Int} {k : Nat} (h : sP l x y = k) (hl : l[k]? = some (x, y, v)) : nX l x y = v := by
 unfold sP at h;unfold nX;cases ap : l.findIdx? fun e => decide (e.1 = x) && decide (e.2.1 = y) with
 | none => rw [ap] at h; simp at h
 | some j =>
  rw [ap] at h;have : j = k := by simp at h; omega
  subst this;simp only [fZ, hl]; rfl
theorem af4 {l : List df} {x y : Int} (h : hb l x y = false) : nX l x y = 0 := by
 have h2 := LU l x y;rw [h] at h2;unfold sP at h2;unfold nX;cases ap : l.findIdx? fun e => decide (e.1 = x) && decide (e.2.1 = y) with
 | none => rfl
 | some j => rw [ap] at h2; simp at h2
theorem adB (l : List df) (x y : Int) : (tv l x y).length ≤ l.length := List.length_filter_le _ _
theorem Rw {l : List df} (h : jQ l) {x y v : Int} (hm : (x, y, v) ∈ l) : hb l x y = true ∧ nX l x y = v := by
 have aR : hb l x y = true := tz.2 ⟨_, hm, by simp⟩;have ao := LU l x y;rw [aR] at ao;obtain ⟨k, u, h1, h2, h3⟩ := Ww (of_decide_eq_true ao);refine ⟨aR, ?_⟩;rw [af6 h1 h3];obtain ⟨j, ae⟩ := jh hm;have rC := (bF.1 ae).1;have hT : l[k] = (x, y, u) := (bF.1 h3).2;have ij : l[j] = (x, y, v) := (bF.1 ae).2;unfold jQ at h;rw [List.pairwise_iff_getElem] at h;rcases Nat.lt_trichotomy k j with q | q | q
 ·have := h k j h2 rC q;rw [hT, ij, oB] at this;simp at this
 ·subst q;rw [hT] at ij;cases ij; rfl
 ·have := h j k rC h2 q;rw [hT, ij, oB] at this;simp at this
end Go.Proofs.YtbcecodakfejaaaGreat
namespace Go.Proofs.YtbcecodakfejaaaGreat
open Go.RowKit
def dU : List df → List AC
 | [] => []
 | e :: l => .c (.int .i64 e.1) :: .c (.int .i64 e.2.1) :: .c (.int .i64 e.2.2) :: dU l
theorem Fa : ∀ (l : List df) (i : Nat) (e : df), l[i]? = some e → ((dU l).drop (i * 3)).take 3 = [.c (.int .i64 e.1), .c (.int .i64 e.2.1), .c (.int .i64 e.2.2)]
 | [], i, p, h => by simp at h
 | q :: l, 0, p, h => by simp at h; subst h; simp [dU]
 | q :: l, i + 1, p, h => by
  have e : (i + 1) * 3 = i * 3 + 1 + 1 + 1 := by omega
  rw [e];simp only [dU, List.drop_succ_cons];exact Fa l i p (by simpa using h)
theorem Lh {l : List df} {j : Int} {i : Nat} {x y v : Int} (ae : j = i) (h : l[i]? = some (x, y, v)) : ((dU l).drop (j.toNat * 3)).take 3 = [.c (.int .i64 x), .c (.int .i64 y), .c (.int .i64 v)] := by
 subst ae;exact Fa l i (x, y, v) h
theorem x5 : ∀ (l : List df), (dU l).length = l.length * 3
 | [] => rfl
 | p :: l => by simp only [dU, jZ, x5 l]; omega
theorem x4 : ∀ (l m : List df), dU (l ++ m) = dU l ++ dU m
 | [], _ => rfl
 | p :: l, m => by simp only [List.cons_append, dU, x4 l m]
theorem Ld : ∀ (l : List df), (dU l).all AC.aV = true
 | [] => rfl
 | p :: l => by simp only [dU, jI, Ld l]; rfl
abbrev mU (x y : Int) : List AC := [.c (.int .i64 x), .c (.int .i64 y)]
abbrev Rv (k : Nat) : ah := .w (.one (.own k 0))
def lj (n : Int) : Int := if n < 1 then 1 else if 1024 < n then 1024 else n
def kO (l : List an) (x y : Int) : Int := match l.findIdx? fun e => decide (e.1 = x) && decide (e.2 = y) with
 | some k => k
 | none => -1
def xD (P : Program) (f : FuncId) (args : List ah) (r : bz) (post : ah → bz → Prop) : Prop :=
 ∀ i, cY P f args bW (bw i r) fun v aD aw => ∃ aT, aD = bW ∧ aw = bw i aT ∧ post v aT
theorem Qs {args : List ah} (aH : args.all ah.aV = true) : args.map (ah.aW fun j => j) = args := by
 rw [cb] at aH
 conv => rhs; rw [← List.map_id args]
 exact oI fun x aa => tE (aH x aa)
theorem adU {P : Program} {f : FuncId} {args : List ah} {r : bz} {post : ah → bz → Prop} (aH : args.all ah.aV = true) (hp : ∀ v aT, post v aT → v.aV = true)
  (h : cY P f args bW (bw 0 r) fun v aD aw => ∃ aT, aD = bW ∧ aw = bw 0 aT ∧ post v aT) : xD P f args r post := by
 intro i;have h1 := h.aW (bx := fun j => j) (bS := swp 0 i) (ib := swp 0 i) (fun _ => rfl) (mv _ _) (mv _ _);rw [Qs aH, show Mem.aW (fun j => j) bW = bW from rfl, zH] at h1;refine ⟨fun U ad W vs cH cB cI => (h1.call U ad W vs cH cB cI).mono ?_⟩;rintro e bb ⟨v, b9, aD, aw, aY, cq, q0, ⟨cT, m2, fo, ⟨aT, rfl, rfl, ak⟩, rfl, rfl, rfl⟩, q⟩;rw [show Mem.aW (fun j => j) bW = bW from rfl, zH, tE (hp _ _ ak)] at q;exact ⟨v, cT, bW, bw i aT, aY, cq, q0, ⟨aT, rfl, rfl, ak⟩, q⟩
theorem Mp {P : Program} {fn : Func} {l : List ResultVar} {xs : List br} {R : aG} {s : az} {r aT : bz} {post : ah → bz → Prop} (al : fn.results = l.toArray) (h : l.map (iy P s) = xs.map some) (hi : R 0 = some aT) (aa : (packed xs).aV = true)
  (hp : post (packed xs) aT) : sX P fn bW (bw 0 r) (fun v aD aw => ∃ aT, aD = bW ∧ aw = bw 0 aT ∧ post v aT) R s := by
 refine ⟨xs, packed xs, bW, bw 0 aT, by rw [al]; exact h, .refl _, ⟨aT, rfl, rfl, hp⟩, fun k c h => (by cases h), fun i q h => ?_, fun j ae => absurd ae (ah.dd aa j), fun k c x j h => (by cases h), fun k c h => (by cases h), fun i q h => ?_⟩
 ·obtain ⟨rfl, rfl⟩ := fu h; exact hi
 ·obtain ⟨rfl, rfl⟩ := fu h; exact ⟨aT, by unfold bw; exact cf _ _ _⟩
section
variable {P : Program} {R : aG} {s : az} {ops : Array Oper} {dr : Option (List Nat)} {ty : Nat} {pos : String} {after : Array Edge} {guard : Option (Nat × Bool)} {K : aG → az → Prop} {rest : List Oper}
theorem tp (s : az) : s.over bW = s := by
 show ({ s with mem := bJ (fun _ => none) s.mem } : az) = s;rw [Pb]
theorem MS (i : Nat) {dst : Option Nat} {f : FuncId} {g : Operand} {aL : Array TypeId} {l : List Operand} {args : List ah} {r : bz} {post : ah → bz → Prop} [E : Enters P f] (hw : want ops ⟨dst, .call ⟨.value g, l.toArray, aL⟩, ty, pos, after, guard⟩ s = some true) (hm : dL dr ⟨dst, .call ⟨.value g, l.toArray, aL⟩, ty, pos, after, guard⟩ = true)
  (ao : s.look g = some (aM (.func (.func f) #[] #[]))) (aH : l.map s.look = args.map some) (hp : xD P f args r post) (hi : R i = some r) (dW : args.all ah.aV = true) (hd : kC dst s.n = true)
  (h : ∀ v aT, post v aT → ct P ops dr K rest (bA R i aT) (s.put dst v)) : ct P ops dr K (⟨dst, .call ⟨.value g, l.toArray, aL⟩, ty, pos, after, guard⟩ :: rest) R s := by
 refine uL hw hm ao aH (hp i) (fun x aa j ae => absurd ae (ah.dd (cb.1 dW x aa) j)) (fun k' aq aJ => by cases aJ) (fun fi aT aJ => ?_) (fun k' aq x j aJ aa ae => by cases aJ) hd ?_
 ·obtain ⟨rfl, rfl⟩ := fu aJ; exact hi
 ·rintro v aD aw ⟨aT, rfl, rfl, ak⟩;refine ⟨fun k' c aJ => (by cases aJ), ?_⟩;rw [show bJ (bw i aT) R = bA R i aT from u3 R i aT, tp];exact h v aT ak
theorem yM {x : Operand} {t f hU off : Nat} {r : bz} (i : Nat) [S : mA P t f hU] {d : Nat} (hi : R i = some r) (hw : want ops ⟨some d, .fieldAddr t x f, ty, pos, after, guard⟩ s = some true) (aa : s.look x = some (aM (jn r.v off))) (au : 0 < r.n) (al : tD ops dr (some d) = true) (hd : Nat.blt d s.n = true) (h : ct P ops dr K rest R (s.put (some d) (aM (jn r.v (off + hU))))) : ct P ops dr K (⟨some d, .fieldAddr t x f, ty, pos, after, guard⟩ :: rest) R s :=
 yQ hw (.nx i r off t f hU x hi au rfl aa S.h) rfl al hd h
end
structure Jn (W bb : World) (r aT : bz) (U : Nat → Prop) : Prop where
 grown : W.grownBy bb r.v.ownBlock
 row : ∃ xs, bb.ownsRow 0 aT.e aT.sz aT.v aT.n xs ∧ bH U id W aT.aO xs
 o9 : ∀ y ∈ aT.aO, y.aV = true
 agM : ∀ g, aT.v.ownBlock = some g → r.v.ownBlock = some g ∨ W.heap.size ≤ g
theorem bH.IB {U : Nat → Prop} {ad aY : Nat → Nat} {W : World} {xs : List AC} {vs : List Value} (aj : ∀ y ∈ xs, y.aV = true) (h : bH U ad W xs vs) : bH U aY W xs vs := h.vK aj fun b ab _ => ⟨ab, rfl⟩
theorem jR.IB {U : Nat → Prop} {ad : Nat → Nat} {W : World} {args : List ah} {vs : List Value} (aj : args.all ah.aV = true) (h : jR U ad W args vs) : jR U id W args vs :=
 ⟨h.1, fun i x v aa hv => Rel.M7 (ah.dd (cb.1 aj x (c5 aa))) (h.2 i x v aa hv)⟩
theorem ZK {U : Nat → Prop} {W bb : World} {row : Option Nat} (ao : W.grownBy bb row) (al : ∀ g, row = some g → ¬ U g) : ∀ b, U b → b < W.heap.size → (U b ∧ b < W.heap.size) ∧ bb.heap[b]? = W.heap[b]? := fun b ab hl =>
 ⟨⟨ab, hl⟩, ao.block b hl fun e => al b e.symm ab⟩
theorem adV {P : Program} {f : FuncId} {args : List ah} {r : bz} {post : ah → bz → Prop} (dW : args.all ah.aV = true) (bB : 0 < r.sz) (wA : ∀ bR aT, post bR aT → 0 < aT.sz)
  (h : ∀ (U : Nat → Prop) (W : World) (vs : List Value) (xs : List Value), W.ownsRow 0 r.e r.sz r.v r.n xs → bH U id W r.aO xs → (∀ y ∈ r.aO, y.aV = true) → (∀ g, r.v.ownBlock = some g → ¬ U g) → jR U id W args vs →
   Calls P f vs.toArray W fun e bb => ∃ v bR aT, e = .returned v ∧ post bR aT ∧ Jn W bb r aT U ∧ cR U id W bR v ∧ bR.aV = true) : xD P f args r post := by
 intro i;refine ⟨fun U ad W vs cH cB cI => ?_⟩;obtain ⟨oi, cA, X4⟩ := cH.rows i r (by unfold bw; exact cf _ _ _);obtain ⟨xs, ay, hl⟩ := oi.row bB;have uG := fun g ao => X4 g (.inl ao);refine (h U W vs xs ay (hl.IB cA) cA (fun g ao => (uG g ao).1) (cI.IB dW)).mono ?_;rintro e bb ⟨v, bR, aT, rfl, hp, ⟨iL, ⟨aO, gK, e0⟩, ru, k4⟩, pv, nE⟩;have NG := ZK iL fun g ao => (uG g ao).1
 have gf : ∀ b, ea ad bW (bw i r) b ↔ r.v.ownBlock = some b := fun b => by
  constructor
  ·rintro (⟨k, cs, af, _⟩ | ⟨j, q, ae, ao⟩)
   ·cases af
   ·obtain ⟨rfl, rfl⟩ := fu ae; exact bz.oA ao bB
  ·intro ao; exact .inr ⟨i, r, by unfold bw; exact cf _ _ _, .inl ao⟩
 refine ⟨v, bR, bW, bw i aT, ad, fun b => U b ∧ b < W.heap.size, rfl, ⟨aT, rfl, rfl, hp⟩, ⟨fun k cs af => (by cases af), fun k cs x j af => (by cases af), fun k k' cs aq af => (by cases af), fun j q ae => ?_, fun j k q cd ae af kn => ?_⟩, ?_, fun j ae => absurd ae (ah.dd nE j), fun k cs af => (by cases af), fun j q ae => ?_, fun b ab => .inl ab.1, ?_, ⟨iL.os, iL.tape, iL.output, iL.size, fun b ab => iL.block b ab.1 fun e => ab.2 ((gf b).2 e.symm)⟩⟩
 ·obtain ⟨rfl, rfl⟩ := fu ae;refine ⟨.inl ⟨wA _ _ hp, aO, gK, e0.vK ru NG⟩, ru, fun g ao => ⟨fun hu => ?_, fun k cs af => (by cases af)⟩⟩;rcases k4 g (bz.oA ao (wA _ _ hp)) with q | q
  ·exact (uG g q).1 hu.1
  ·omega
 ·obtain ⟨rfl, _⟩ := fu ae;obtain ⟨rfl, _⟩ := fu af;exact absurd rfl kn
 ·exact pv.map NG fun j ae => absurd ae (ah.dd nE j)
 ·obtain ⟨rfl, rfl⟩ := fu ae;exact ⟨aT, by unfold bw; exact cf _ _ _⟩
 ·rintro b (⟨k, cs, af, _⟩ | ⟨j, q, ae, ao⟩)
  ·cases af
  ·obtain ⟨rfl, rfl⟩ := fu ae;rcases k4 b (bz.oA ao (wA _ _ hp)) with z | z
   ·exact .inl ((gf b).2 z)
   ·exact .inr z
theorem Ii (i : Nat) {P : Program} {R : aG} {s : az} {c : Code} {Q : Exit → aG → az → Prop} {r : bz} (hi : R i = some r) (h : ∀ A k, r.v = .slice A r.n k → r.n ≤ k → k ≤ maxLen → (0 < r.n → ∃ g, A = some ⟨g, 0, none⟩) → r.aO.length = r.n * r.sz → e4 P c Q R s) (bB : 0 < r.sz := by first | decide | exact jk _) : e4 P c Q R s := by
 rintro ok bo bG a w ⟨A, ad, ar⟩;obtain ⟨xs, ay, hl⟩ := (ar.rows i r hi).cells bB;have hlen : r.aO.length = r.n * r.sz := hl.1.trans ay.1;rcases ay.2 with ⟨e, cW⟩ | ⟨g, cap, cur, e, _, _, eI, ju, _⟩
 ·exact h none 0 (by rw [e, cW]) (by omega) (dA _) (fun h => by omega) hlen ok bo bG a w ⟨A, ad, ar⟩
 ·exact h _ cap e eI ju (fun _ => ⟨g, rfl⟩) hlen ok bo bG a w ⟨A, ad, ar⟩
theorem Rel.ad1 {B : eP} {A : Nat → Prop} {s : az} {ad : Nat → Nat} {a : Act} {w : World} {k : Nat} {cs ds : List AC} (h : Rel B A s ad a w) (af : s.mem k = some cs) (al : ∀ vs, bH (s.free A ad) ad w cs vs → bH (s.free A ad) ad w ds vs) : Rel B A (s.dT k ds) ad a w := by
 obtain ⟨vs, ty, g1, g2, _⟩ := h.dt k cs af;have := h.set af (al vs g2);rwa [setRow_self w (ad k) vs.toArray ty (0, 0) g1] at this
theorem PA {n d m e : Int} (a : cN 200 n) (b : cN 200 d) (c : cN 200 m) (f : cN 200 e) : aC ag 44 [jm n d, jm m e] (aB (cD (n * e) (m * d))) := by
 have aU := u5 (n := n) (m := e) (a.up (by omega)) (f.up (by omega));have bD := u5 (n := m) (m := d) (c.up (by omega)) (b.up (by omega));have eg := HO (n := n * e) (m := m * d) ((a.mul f).up (by omega)) ((c.mul b).up (by omega));clear a b c f;refine bi (f := 44) Tryz.func44 rfl rfl rfl rfl ?_;(refine bZ ?_)
 ((refine ba rfl (a6 rfl aK) ?_))
 exact ah.aQ.refl _
theorem tq {x y : Int} {b : Bool} (ab : b7 x y = b) : aC ag 27 [aP x y] (bf b) := by
 have cs : (x ≤ 134217728 ∧ y ≤ 134217728 ∧ -134217728 ≤ x ∧ -134217728 ≤ y ∧ b = true) ∨ (x ≤ 134217728 ∧ y ≤ 134217728 ∧ -134217728 ≤ x ∧ ¬ -134217728 ≤ y ∧ b = false) ∨ (x ≤ 134217728 ∧ y ≤ 134217728 ∧ ¬ -134217728 ≤ x ∧ b = false) ∨ (x ≤ 134217728 ∧ ¬ y ≤ 134217728 ∧ b = false) ∨ (¬ x ≤ 134217728 ∧ b = false) := by
  rw [← ab]; unfold b7
  by_cases q1 : x ≤ 134217728 <;> by_cases q2 : y ≤ 134217728 <;> by_cases bE : -134217728 ≤ x <;> by_cases c4 : -134217728 ≤ y <;> simp [q1, q2, bE, c4]
 clear ab;rcases cs with ⟨q1, q2, bE, c4, rfl⟩ | ⟨q1, q2, bE, c4, rfl⟩ | ⟨q1, q2, bE, rfl⟩ | ⟨q1, q2, rfl⟩ | ⟨q1, rfl⟩
 all_goals
  refine bi (f := 27) Tryz.func27 rfl rfl rfl rfl ?_;(repeat first | refine ec ?_ | (with_reducible apply cc (c := true)); rfl; rfl; (exact ck (by omega)) | (with_reducible apply cc (c := false)); rfl; rfl; (exact cC (by omega)))
  ((refine ba rfl (a6 rfl aK) ?_))
  first | exact ah.aQ.refl _ | exact ah.aQ.of_eq (by rw [ck c4]; rfl) | exact ah.aQ.of_eq (by rw [cC c4]; rfl)
def uq (n : Int) : Bool := decide (-134217728 ≤ n) && decide (n ≤ 134217728)
theorem Pm {n : Int} {b : Bool} (ab : uq n = b) : aC ag 144 [aB n] (bf b) := by
 have cs : (-134217728 ≤ n ∧ n ≤ 134217728 ∧ b = true) ∨ (-134217728 ≤ n ∧ ¬ n ≤ 134217728 ∧ b = false) ∨ (¬ -134217728 ≤ n ∧ b = false) := by
  rw [← ab]; unfold uq
  by_cases h1 : -134217728 ≤ n <;> by_cases h2 : n ≤ 134217728 <;> simp [h1, h2]
 clear ab;rcases cs with ⟨h1, h2, rfl⟩ | ⟨h1, h2, rfl⟩ | ⟨h1, rfl⟩
 all_goals
  refine bi (f := 144) Tryz.func144 rfl rfl rfl rfl ?_;(repeat first | refine ec ?_ | (with_reducible apply cc (c := true)); rfl; rfl; (exact ck (by omega)) | (with_reducible apply cc (c := false)); rfl; rfl; (exact cC (by omega)))
  ((refine ba rfl (a6 rfl aK) ?_))
  first | exact ah.aQ.refl _ | exact ah.aQ.of_eq (by rw [ck h2]; rfl) | exact ah.aQ.of_eq (by rw [cC h2]; rfl)
theorem adM (x y : Int) : b7 x y = (uq x && uq y) := by
 unfold b7 uq;rw [lN];simp only [dx, ca];omega
theorem kR {x y : Int} (h : b7 x y = true) : dZ x y = true := by rw [oL] at h; rw [Qq]; omega
theorem oC {x y : Int} {b : Bool} (ab : b7 x y = b) : aC ag 123 [aP x y] (bf b) := by
 have aU := Pm (n := x) rfl;have bD := Pm (n := y) rfl;rw [adM] at ab;cases q1 : uq x <;> cases q2 : uq y <;> rw [q1] at aU <;> rw [q2] at bD <;> rw [q1, q2] at ab <;> subst ab <;> clear q1 q2
 all_goals
  refine bi (f := 123) Tryz.func123 rfl rfl rfl rfl ?_;(refine bZ ?_)
  ((refine ba rfl (a6 rfl aK) ?_))
  exact ah.aQ.refl _
theorem abM {n m : Int} : aC ag 201 [aB n, aB m] (aB (cD n m)) :=
 ho [.int .i64 n, .int .i64 m] (.int .i64 (cD n m)) rfl rfl rfl rfl rfl fun W => DZ n m W
abbrev jK (n d : Int) (o : Bool) : ah := .w (.agg [.c (.int .i64 n), .c (.int .i64 d), .c (.bool o)])
abbrev tH (x : hB) : ah := jK x.n x.d x.own
def lq (x : hB) : Prop := (-2000000000 ≤ x.n ∧ x.n ≤ 2000000000) ∧ 0 < x.d ∧ x.d ≤ 2000000000
theorem aaU {x y : Int} (h1 : -2000000000 ≤ x) (h2 : x ≤ 2000000000) (h3 : 0 ≤ y) (aE : y ≤ 2000000000) : -4000000000000000000 ≤ x * y ∧ x * y ≤ 4000000000000000000 := by
 have a1 : x * y ≤ 2000000000 * y := lh h2 h3;have a2 : -2000000000 * y ≤ x * y := lh h1 h3;omega
theorem Kb {x y : hB} (aa : lq x) (ai : lq y) : IntKind.i64.wrap (x.n * y.d) = x.n * y.d := by
 obtain ⟨⟨a1, a2⟩, a3, a4⟩ := aa;obtain ⟨⟨b1, b2⟩, dQ, dz⟩ := ai;have := aaU a1 a2 (by omega : (0 : Int) ≤ y.d) dz;exact la (by omega)
theorem adb {n d m e c : Int} {o q : Bool} (aU : aC ag 201 [aB (n * e), aB (m * d)] (aB c)) (w1 : IntKind.i64.wrap (n * e) = n * e) (w2 : IntKind.i64.wrap (m * d) = m * d) : aC ag 200 [jK n d o, jK m e q] (aB c) := by
 refine bi (f := 200) Tryz.func200 rfl rfl rfl rfl ?_;(refine bZ ?_)
 ((refine ba rfl (a6 rfl aK) ?_))
 exact ah.aQ.refl _
theorem HQ {x y : hB} (aa : lq x) (ai : lq y) : aC ag 200 [tH x, tH y] (aB (ha x y)) :=
 adb abM (Kb aa ai) (Kb ai aa)
theorem acR {n d m e c : Int} {o q : Bool} {b9 cT : Int} {e9 : Bool} (aU : aC ag 200 [jK n d o, jK m e q] (aB c)) (cs : (0 < c ∧ b9 = n ∧ cT = d ∧ e9 = o) ∨ (¬ 0 < c ∧ c = 0 ∧ q = true ∧ b9 = n ∧ cT = d ∧ e9 = o) ∨ (¬ 0 < c ∧ c = 0 ∧ q = false ∧ b9 = m ∧ cT = e ∧ e9 = q) ∨ (¬ 0 < c ∧ ¬ c = 0 ∧ b9 = m ∧ cT = e ∧ e9 = q)) : aC ag 208 [jK n d o, jK m e q] (jK b9 cT e9) := by
 rcases cs with ⟨q1, rfl, rfl, rfl⟩ | ⟨q1, q2, rfl, rfl, rfl, rfl⟩ | ⟨q1, q2, rfl, rfl, rfl, rfl⟩ | ⟨q1, q2, rfl, rfl, rfl⟩
 all_goals
  refine bi (f := 208) Tryz.func208 rfl rfl rfl rfl ?_;(repeat first | refine ec ?_ | refine gF ?_ | (with_reducible apply cc (c := true)); rfl; rfl; (exact ck (by omega)) | (with_reducible apply cc (c := false)); rfl; rfl; (exact cC (by omega)))
  ((refine ba rfl (cL rfl rfl rfl aK) ?_))
  exact ah.aQ.refl _
theorem acQ {x y : hB} (aa : lq x) (ai : lq y) : aC ag 208 [tH x, tH y] (tH (qy x y)) := by
 refine acR (HQ aa ai) ?_;rcases Cr x y with ⟨e, h⟩ | ⟨e, h⟩ <;> rw [e]
 ·by_cases h1 : 0 < ha x y
  ·exact .inl ⟨h1, rfl, rfl, rfl⟩
  ·rcases h with h | ⟨h, k⟩
   ·exact absurd h h1
   ·exact .inr (.inl ⟨h1, h, k, rfl, rfl, rfl⟩)
 ·have h1 : ¬ 0 < ha x y := fun k => h (.inl k)
  by_cases h2 : ha x y = 0
  ·refine .inr (.inr (.inl ⟨h1, h2, ?_, rfl, rfl, rfl⟩));cases ai : y.own with
   | false => rfl
   | true => exact absurd (.inr ⟨h2, ai⟩) h
  ·exact .inr (.inr (.inr ⟨h1, h2, rfl, rfl, rfl⟩))
theorem acC {n d m e c : Int} {o q : Bool} {b9 cT : Int} {e9 : Bool} (aU : aC ag 200 [jK n d o, jK m e q] (aB c)) (cs : (c < 0 ∧ b9 = n ∧ cT = d ∧ e9 = o) ∨ (¬ c < 0 ∧ c = 0 ∧ q = true ∧ b9 = n ∧ cT = d ∧ e9 = o) ∨ (¬ c < 0 ∧ c = 0 ∧ q = false ∧ b9 = m ∧ cT = e ∧ e9 = q) ∨ (¬ c < 0 ∧ ¬ c = 0 ∧ b9 = m ∧ cT = e ∧ e9 = q)) : aC ag 209 [jK n d o, jK m e q] (jK b9 cT e9) := by
 rcases cs with ⟨q1, rfl, rfl, rfl⟩ | ⟨q1, q2, rfl, rfl, rfl, rfl⟩ | ⟨q1, q2, rfl, rfl, rfl, rfl⟩ | ⟨q1, q2, rfl, rfl, rfl⟩
 all_goals
  refine bi (f := 209) Tryz.func209 rfl rfl rfl rfl ?_;(repeat first | refine ec ?_ | refine gF ?_ | (with_reducible apply cc (c := true)); rfl; rfl; (exact ck (by omega)) | (with_reducible apply cc (c := false)); rfl; rfl; (exact cC (by omega)))
  ((refine ba rfl (cL rfl rfl rfl aK) ?_))
  exact ah.aQ.refl _
theorem acB {x y : hB} (aa : lq x) (ai : lq y) : aC ag 209 [tH x, tH y] (tH (qe x y)) := by
 refine acC (HQ aa ai) ?_;rcases Bh x y with ⟨e, h⟩ | ⟨e, h⟩ <;> rw [e]
 ·by_cases h1 : ha x y < 0
  ·exact .inl ⟨h1, rfl, rfl, rfl⟩
  ·rcases h with h | ⟨h, k⟩
   ·exact absurd h h1
   ·exact .inr (.inl ⟨h1, h, k, rfl, rfl, rfl⟩)
 ·have h1 : ¬ ha x y < 0 := fun k => h (.inl k)
  by_cases h2 : ha x y = 0
  ·refine .inr (.inr (.inl ⟨h1, h2, ?_, rfl, rfl, rfl⟩));cases ai : y.own with
   | false => rfl
   | true => exact absurd (.inr ⟨h2, ai⟩) h
  ·exact .inr (.inr (.inr ⟨h1, h2, rfl, rfl, rfl⟩))
abbrev gq (a1 a2 b1 b2 n d : Int) (o : Bool) (m e : Int) (q : Bool) : ah := .w (.agg [.c (.int .i64 a1), .c (.int .i64 a2), .c (.int .i64 b1), .c (.int .i64 b2), .c (.int .i64 n), .c (.int .i64 d), .c (.bool o), .c (.int .i64 m), .c (.int .i64 e), .c (.bool q)])
abbrev DK (a1 a2 b1 b2 : Int) (p : Pa) : ah := gq a1 a2 b1 b2 p.f.n p.f.d p.f.own p.t.n p.t.d p.t.own
def xA (p : Pa) : Prop := lq p.f ∧ lq p.t
theorem acP {a1 a2 b1 b2 n d m e u v : Int} {o q w : Bool} {n' d' aD bm : Int} {eM cd : Bool} (hu : -1100000000 ≤ u ∧ u ≤ 1100000000) (hv : -1100000000 ≤ v ∧ v ≤ 1100000000)
  (cs : (0 < v - u ∧ aC ag 208 [jK n d o, jK (-u) (v - u) w] (jK n' d' eM) ∧ aD = m ∧ bm = e ∧ cd = q) ∨ (¬ 0 < v - u ∧ v - u < 0 ∧ aC ag 209 [jK m e q, jK u (-(v - u)) w] (jK aD bm cd) ∧ n' = n ∧ d' = d ∧ eM = o)
   ∨ (¬ 0 < v - u ∧ ¬ v - u < 0 ∧ u < 0 ∧ n' = 1 ∧ d' = 1 ∧ eM = false ∧ aD = 0 ∧ bm = 1 ∧ cd = false) ∨ (¬ 0 < v - u ∧ ¬ v - u < 0 ∧ ¬ u < 0 ∧ u = 0 ∧ w = false ∧ n' = 1 ∧ d' = 1 ∧ eM = false ∧ aD = 0 ∧ bm = 1 ∧ cd = false)
   ∨ (¬ 0 < v - u ∧ ¬ v - u < 0 ∧ ¬ u < 0 ∧ u = 0 ∧ w = true ∧ n' = n ∧ d' = d ∧ eM = o ∧ aD = m ∧ bm = e ∧ cd = q) ∨ (¬ 0 < v - u ∧ ¬ v - u < 0 ∧ ¬ u < 0 ∧ ¬ u = 0 ∧ n' = n ∧ d' = d ∧ eM = o ∧ aD = m ∧ bm = e ∧ cd = q)) :
  aC ag 199 [gq a1 a2 b1 b2 n d o m e q, aB u, aB v, bf w] (gq a1 a2 b1 b2 n' d' eM aD bm cd) := by
 rcases cs with ⟨q1, aU, rfl, rfl, rfl⟩ | ⟨q1, q2, aU, rfl, rfl, rfl⟩ | ⟨q1, q2, bE, rfl, rfl, rfl, rfl, rfl, rfl⟩ | ⟨q1, q2, bE, c4, rfl, rfl, rfl, rfl, rfl, rfl, rfl⟩ | ⟨q1, q2, bE, c4, rfl, rfl, rfl, rfl, rfl, rfl, rfl⟩ | ⟨q1, q2, bE, c4, rfl, rfl, rfl, rfl, rfl, rfl⟩
 ·refine bi (f := 199) Tryz.func199 rfl rfl rfl rfl ?_;(refine bZ ?_)
  ((refine ba rfl (cL rfl rfl rfl aK) ?_))
  exact ah.aQ.refl _
 ·refine bi (f := 199) Tryz.func199 rfl rfl rfl rfl ?_;(refine bZ ?_)
  ((refine ba rfl (cL rfl rfl rfl aK) ?_))
  exact ah.aQ.refl _
 all_goals
  refine bi (f := 199) Tryz.func199 rfl rfl rfl rfl ?_;(repeat first | refine ec ?_ | (with_reducible apply cc (c := true)); rfl; rfl; (exact ck (by omega)) | (with_reducible apply cc (c := false)); rfl; rfl; (exact cC (by omega)))
  ((refine ba rfl (cL rfl rfl rfl aK) ?_))
  exact ah.aQ.refl _
theorem ZT {x y : hB} (aa : lq x) (ai : lq y) : lq (qy x y) := by unfold qy; split <;> assumption
theorem VR {x y : hB} (aa : lq x) (ai : lq y) : lq (qe x y) := by unfold qe; split <;> assumption
theorem Cq {p : Pa} {u v : Int} {w : Bool} (hp : xA p) (hu : -900000000 ≤ u ∧ u ≤ 900000000) (hv : -900000000 ≤ v ∧ v ≤ 900000000) : xA (jf p u v w) := by
 unfold jf
 by_cases h1 : 0 < v - u
 ·rw [if_pos h1]; exact ⟨ZT hp.1 ⟨by simp only; omega, by simp only; omega⟩, hp.2⟩
 ·rw [if_neg h1]
  by_cases h2 : v - u < 0
  ·rw [if_pos h2]; exact ⟨hp.1, VR hp.2 ⟨by simp only; omega, by simp only; omega⟩⟩
  ·rw [if_neg h2]
   split
   ·exact ⟨⟨by decide, by decide⟩, ⟨by decide, by decide⟩⟩
   ·exact hp
theorem C2 {a1 a2 b1 b2 u v : Int} {w : Bool} {p : Pa} (hp : xA p) (hu : -900000000 ≤ u ∧ u ≤ 900000000) (hv : -900000000 ≤ v ∧ v ≤ 900000000) : aC ag 199 [DK a1 a2 b1 b2 p, aB u, aB v, bf w] (DK a1 a2 b1 b2 (jf p u v w)) := by
 refine acP (by omega) (by omega) ?_;unfold jf
 by_cases h1 : 0 < v - u
 ·rw [if_pos h1];exact .inl ⟨h1, acQ hp.1 (y := ⟨-u, v - u, w⟩) ⟨by simp only; omega, by simp only; omega⟩, rfl, rfl, rfl⟩
 ·rw [if_neg h1]
  by_cases h2 : v - u < 0
  ·rw [if_pos h2];exact .inr (.inl ⟨h1, h2, acB hp.2 (y := ⟨u, -(v - u), w⟩) ⟨by simp only; omega, by simp only; omega⟩, rfl, rfl, rfl⟩)
  ·rw [if_neg h2]
   by_cases h3 : u < 0
   ·rw [if_pos (.inl h3)];exact .inr (.inr (.inl ⟨h1, h2, h3, rfl, rfl, rfl, rfl, rfl, rfl⟩))
   ·by_cases aE : u = 0
    ·cases w with
     | false => rw [if_pos (.inr ⟨aE, rfl⟩)]; exact .inr (.inr (.inr (.inl ⟨h1, h2, h3, aE, rfl, rfl, rfl, rfl, rfl, rfl, rfl⟩)))
     | true => rw [if_neg (by simp [h3])]; exact .inr (.inr (.inr (.inr (.inl ⟨h1, h2, h3, aE, rfl, rfl, rfl, rfl, rfl, rfl, rfl⟩))))
    ·rw [if_neg (by simp [h3, aE])];exact .inr (.inr (.inr (.inr (.inr ⟨h1, h2, h3, aE, rfl, rfl, rfl, rfl, rfl, rfl⟩))))
instance ahT : I2 ag 230 4 false 1 := ⟨by kernel_rfl⟩
abbrev tI (l1 l2 h1 h2 : Int) (o p : Bool) : ah := .w (.agg [.c (.int .i64 l1), .c (.int .i64 l2), .c (.int .i64 h1), .c (.int .i64 h2), .c (.bool o), .c (.bool p)])
def rf (n : Int) : Bool := decide (-536870912 ≤ n) && decide (n ≤ 536870912)
theorem KC {n : Int} : rf n = true ↔ -536870912 ≤ n ∧ n ≤ 536870912 := by unfold rf; simp
def n7 (x y : Int) : Bool := rf x && rf y
theorem vL {x y : Int} : n7 x y = true ↔ (-536870912 ≤ x ∧ x ≤ 536870912) ∧ -536870912 ≤ y ∧ y ≤ 536870912 := by unfold n7; rw [dx, KC, KC]
def wK (k : Int) : Bool := decide (0 ≤ k) && decide (k ≤ 2)
theorem acy {a1 a2 b1 b2 l1 l2 h1 h2 n d m e n' d' aD bm : Int} {o p q r cd aT : Bool} (aH : -134217728 ≤ a1 ∧ a1 ≤ 134217728) (ab : -134217728 ≤ b1 ∧ b1 ≤ 134217728) (hl : -536870912 ≤ l1 ∧ l1 ≤ 536870912)
  (aU : aC ag 199 [gq a1 a2 b1 b2 n d q m e r, aB (2 * a1 - l1), aB (2 * b1 - l1), bf o] (gq a1 a2 b1 b2 n' d' cd aD bm aT)) : aC ag 173 [tI l1 l2 h1 h2 o p, gq a1 a2 b1 b2 n d q m e r] (gq a1 a2 b1 b2 n' d' cd aD bm aT) := by
 refine bi (f := 173) Tryz.func173 rfl rfl rfl rfl ?_;(refine bZ ?_)
 ((refine ba rfl (cL rfl rfl rfl aK) ?_))
 exact ah.aQ.refl _
theorem acx {a1 a2 b1 b2 l1 l2 h1 h2 n d m e n' d' aD bm : Int} {o p q r cd aT : Bool} (aH : -134217728 ≤ a2 ∧ a2 ≤ 134217728) (ab : -134217728 ≤ b2 ∧ b2 ≤ 134217728) (hl : -536870912 ≤ l2 ∧ l2 ≤ 536870912)
  (aU : aC ag 199 [gq a1 a2 b1 b2 n d q m e r, aB (2 * a2 - l2), aB (2 * b2 - l2), bf o] (gq a1 a2 b1 b2 n' d' cd aD bm aT)) : aC ag 174 [tI l1 l2 h1 h2 o p, gq a1 a2 b1 b2 n d q m e r] (gq a1 a2 b1 b2 n' d' cd aD bm aT) := by
 refine bi (f := 174) Tryz.func174 rfl rfl rfl rfl ?_;(refine bZ ?_)
 ((refine ba rfl (cL rfl rfl rfl aK) ?_))
 exact ah.aQ.refl _
theorem acz {a1 a2 b1 b2 l1 l2 h1 h2 n d m e n' d' aD bm : Int} {o p q r cd aT : Bool} (aH : -134217728 ≤ a1 ∧ a1 ≤ 134217728) (ab : -134217728 ≤ b1 ∧ b1 ≤ 134217728) (hl : -536870912 ≤ h1 ∧ h1 ≤ 536870912)
  (aU : aC ag 199 [gq a1 a2 b1 b2 n d q m e r, aB (h1 - 2 * a1), aB (h1 - 2 * b1), bf p] (gq a1 a2 b1 b2 n' d' cd aD bm aT)) : aC ag 175 [tI l1 l2 h1 h2 o p, gq a1 a2 b1 b2 n d q m e r] (gq a1 a2 b1 b2 n' d' cd aD bm aT) := by
 refine bi (f := 175) Tryz.func175 rfl rfl rfl rfl ?_;(refine bZ ?_)
 ((refine ba rfl (cL rfl rfl rfl aK) ?_))
 exact ah.aQ.refl _
theorem acw {a1 a2 b1 b2 l1 l2 h1 h2 n d m e n' d' aD bm : Int} {o p q r cd aT : Bool} (aH : -134217728 ≤ a2 ∧ a2 ≤ 134217728) (ab : -134217728 ≤ b2 ∧ b2 ≤ 134217728) (hl : -536870912 ≤ h2 ∧ h2 ≤ 536870912)
  (aU : aC ag 199 [gq a1 a2 b1 b2 n d q m e r, aB (h2 - 2 * a2), aB (h2 - 2 * b2), bf p] (gq a1 a2 b1 b2 n' d' cd aD bm aT)) : aC ag 176 [tI l1 l2 h1 h2 o p, gq a1 a2 b1 b2 n d q m e r] (gq a1 a2 b1 b2 n' d' cd aD bm aT) := by
 refine bi (f := 176) Tryz.func176 rfl rfl rfl rfl ?_;(refine bZ ?_)
 ((refine ba rfl (cL rfl rfl rfl aK) ?_))
 exact ah.aQ.refl _
theorem acj {a1 a2 b1 b2 : Int} : aC ag 172 [aP a1 a2, aP b1 b2] (DK a1 a2 b1 b2 p6) := by
 refine bi (f := 172) Tryz.func172 rfl rfl rfl rfl ?_;(refine fl ?_)
 ((refine ba rfl (cL rfl rfl rfl aK) ?_))
 exact ah.aQ.refl _
theorem acK {a1 a2 b1 b2 n d m e c : Int} {o q r : Bool} (aU : aC ag 200 [jK n d o, jK m e q] (aB c)) (cs : (c < 0 ∧ r = true) ∨ (¬ c < 0 ∧ c = 0 ∧ o = true ∧ r = q) ∨ (¬ c < 0 ∧ c = 0 ∧ o = false ∧ r = false) ∨ (¬ c < 0 ∧ ¬ c = 0 ∧ r = false)) : aC ag 177 [gq a1 a2 b1 b2 n d o m e q] (bf r) := by
 rcases cs with ⟨q1, rfl⟩ | ⟨q1, q2, rfl, rfl⟩ | ⟨q1, q2, rfl, rfl⟩ | ⟨q1, q2, rfl⟩
 all_goals
  refine bi (f := 177) Tryz.func177 rfl rfl rfl rfl ?_;(repeat first | refine ec ?_ | refine gF ?_ | (with_reducible apply cc (c := true)); rfl; rfl; (exact ck (by omega)) | (with_reducible apply cc (c := false)); rfl; rfl; (exact cC (by omega)))
  ((refine ba rfl (a6 rfl aK) ?_))
  exact ah.aQ.refl _
theorem acJ {a1 a2 b1 b2 : Int} {p : Pa} (hp : xA p) : aC ag 177 [DK a1 a2 b1 b2 p] (bf (sB p)) := by
 refine acK (HQ hp.1 hp.2) ?_;unfold sB
 by_cases h1 : ha p.f p.t < 0
 ·exact .inl ⟨h1, by rw [ck h1]; rfl⟩
 ·rw [cC h1]
  by_cases h2 : ha p.f p.t = 0
  ·rw [ck h2];cases h3 : p.f.own with
   | true => exact .inr (.inl ⟨h1, h2, rfl, rfl⟩)
   | false => exact .inr (.inr (.inl ⟨h1, h2, rfl, rfl⟩))
  ·exact .inr (.inr (.inr ⟨h1, h2, by rw [cC h2]; rfl⟩))
theorem Pn {n : Int} {b : Bool} (ab : rf n = b) : aC ag 198 [aB n] (bf b) := by
 have cs : (-536870912 ≤ n ∧ n ≤ 536870912 ∧ b = true) ∨ (-536870912 ≤ n ∧ ¬ n ≤ 536870912 ∧ b = false) ∨ (¬ -536870912 ≤ n ∧ b = false) := by
  rw [← ab]; unfold rf
  by_cases h1 : -536870912 ≤ n <;> by_cases h2 : n ≤ 536870912 <;> simp [h1, h2]
 clear ab;rcases cs with ⟨h1, h2, rfl⟩ | ⟨h1, h2, rfl⟩ | ⟨h1, rfl⟩
 all_goals
  refine bi (f := 198) Tryz.func198 rfl rfl rfl rfl ?_;(repeat first | refine ec ?_ | (with_reducible apply cc (c := true)); rfl; rfl; (exact ck (by omega)) | (with_reducible apply cc (c := false)); rfl; rfl; (exact cC (by omega)))
  ((refine ba rfl (a6 rfl aK) ?_))
  first | exact ah.aQ.refl _ | exact ah.aQ.of_eq (by rw [ck h2]; rfl) | exact ah.aQ.of_eq (by rw [cC h2]; rfl)
theorem C1 {x y : Int} {b : Bool} (ab : n7 x y = b) : aC ag 170 [aP x y] (bf b) := by
 have aU := Pn (n := x) rfl;have bD := Pn (n := y) rfl;unfold n7 at ab;cases q1 : rf x <;> cases q2 : rf y <;> rw [q1] at aU <;> rw [q2] at bD <;> rw [q1, q2] at ab <;> subst ab <;> clear q1 q2
 all_goals
  refine bi (f := 170) Tryz.func170 rfl rfl rfl rfl ?_;(refine bZ ?_)
  ((refine ba rfl (a6 rfl aK) ?_))
  exact ah.aQ.refl _
theorem Pr {k : Int} {b : Bool} (ab : wK k = b) : aC ag 171 [aB k] (bf b) := by
 have cs : (k = 0 ∧ b = true) ∨ (¬ k = 0 ∧ k = 1 ∧ b = true) ∨ (¬ k = 0 ∧ ¬ k = 1 ∧ k = 2 ∧ b = true) ∨ (¬ k = 0 ∧ ¬ k = 1 ∧ ¬ k = 2 ∧ b = false) := by
  rw [← ab]; unfold wK
  by_cases h1 : k = 0
  ·exact .inl ⟨h1, by subst h1; rfl⟩
  ·by_cases h2 : k = 1
   ·exact .inr (.inl ⟨h1, h2, by subst h2; rfl⟩)
   ·by_cases h3 : k = 2
    ·exact .inr (.inr (.inl ⟨h1, h2, h3, by subst h3; rfl⟩))
    ·refine .inr (.inr (.inr ⟨h1, h2, h3, ?_⟩));rw [Bool.and_eq_false_iff, jF, jF];omega
 clear ab;rcases cs with ⟨h1, rfl⟩ | ⟨h1, h2, rfl⟩ | ⟨h1, h2, h3, rfl⟩ | ⟨h1, h2, h3, rfl⟩
 all_goals
  refine bi (f := 171) Tryz.func171 rfl rfl rfl rfl ?_;(repeat first | refine ec ?_ | (with_reducible apply cc (c := true)); rfl; rfl; (exact ck (by omega)) | (with_reducible apply cc (c := false)); rfl; rfl; (exact cC (by omega)))
  ((refine ba rfl (a6 rfl aK) ?_))
  first | exact ah.aQ.refl _ | exact ah.aQ.of_eq (by rw [ck h3]; rfl) | exact ah.aQ.of_eq (by rw [cC h3]; rfl)
theorem ab1 {a1 a2 b1 b2 l1 l2 h1 h2 k : Int} {o p r : Bool} {dY d1 m1 aF et d2 m2 aN qD d3 m3 b5 tf d4 m4 eB : Int} {q1 b9 q2 cT bE e9 c4 j5 : Bool} (bg : aC ag 123 [aP a1 a2] (bf true)) (fo : aC ag 123 [aP b1 b2] (bf true)) (Eb : aC ag 170 [aP l1 l2] (bf true)) (Ec : aC ag 170 [aP h1 h2] (bf true)) (SB : aC ag 171 [aB k] (bf true))
  (V1 : (!decide (k = 2)) = o) (rl : decide (k = 1) = p) (bG : aC ag 172 [aP a1 a2, aP b1 b2] (gq a1 a2 b1 b2 0 1 true 1 1 true))
  (aU : aC ag 173 [tI l1 l2 h1 h2 o p, gq a1 a2 b1 b2 0 1 true 1 1 true] (gq a1 a2 b1 b2 dY d1 q1 m1 aF b9))
  (bD : aC ag 174 [tI l1 l2 h1 h2 o p, gq a1 a2 b1 b2 dY d1 q1 m1 aF b9] (gq a1 a2 b1 b2 et d2 q2 m2 aN cT))
  (eg : aC ag 175 [tI l1 l2 h1 h2 o p, gq a1 a2 b1 b2 et d2 q2 m2 aN cT] (gq a1 a2 b1 b2 qD d3 bE m3 b5 e9))
  (kb : aC ag 176 [tI l1 l2 h1 h2 o p, gq a1 a2 b1 b2 qD d3 bE m3 b5 e9] (gq a1 a2 b1 b2 tf d4 c4 m4 eB j5))
  (H1 : aC ag 177 [gq a1 a2 b1 b2 tf d4 c4 m4 eB j5] (bf r)) :
  aC ag 155 [aP a1 a2, aP b1 b2, aP l1 l2, aP h1 h2, aB k] (bf r) := by
 subst V1;subst rl;refine bi (f := 155) Tryz.func155 rfl rfl rfl rfl ?_;(refine bZ ?_);refine UD 5 ?_;(refine bZ ?_)
 ((refine ba rfl (a6 rfl aK) ?_))
 exact ah.aQ.refl _
theorem nJ {n : Int} (aA : -9223372036854775808 ≤ n) (h1 : n < 9223372036854775808) : cN 5 n := by unfold cN; omega
theorem oD {n : Int} (aA : -9223372036854775808 ≤ n) (h1 : n < 9223372036854775808) : aC ag 68 [aB n] (e8 n) := by
 have aU := HP aA h1;clear aA h1;refine bi (f := 68) Tryz.func68 rfl rfl rfl rfl ?_;(refine bZ ?_)
 ((refine ba rfl (cL rfl rfl rfl aK) ?_))
 exact ah.aQ.refl _
theorem PC {n d m e : Int} (h1 : cN 100 n) (h2 : cN 100 d) (h3 : cN 100 m) (aE : cN 100 e) : aC ag 70 [jm n d, jm m e] (jm (n * e + m * d) (d * e)) := by
 have aU := u5 (n := n) (m := e) (h1.up (by omega)) (aE.up (by omega));have bD := u5 (n := m) (m := d) (h3.up (by omega)) (h2.up (by omega));have eg := PE (n := n * e) (m := m * d) ((h1.mul aE).up (by omega)) ((h3.mul h2).up (by omega));have kb := u5 (n := d) (m := e) (h2.up (by omega)) (aE.up (by omega));clear h1 h2 h3 aE;refine bi (f := 70) Tryz.func70 rfl rfl rfl rfl ?_;(refine bZ ?_)
 ((refine ba rfl (cL rfl rfl rfl aK) ?_))
 exact ah.aQ.refl _
theorem PB {a b n d : Int} (aH : -134217728 ≤ a ∧ a ≤ 134217728) (ab : -134217728 ≤ b ∧ b ≤ 134217728) (h1 : cN 50 n) (h2 : cN 50 d) : aC ag 73 [aB a, aB b, jm n d] (jm (2 * a * d + n * (2 * (b - a)) * 1) (1 * d)) := by
 have aU := oD (n := 2 * (b - a)) (by omega) (by omega);have bD := oD (n := 2 * a) (by omega) (by omega);have eg := oD (n := 1) (by omega) (by omega);have bd : cN 5 (2 * (b - a)) := nJ (by omega) (by omega);have bC : cN 5 (2 * a) := nJ (by omega) (by omega);have ez : cN 5 (1 : Int) := nJ (by omega) (by omega);have kb := u5 (n := n) (m := 2 * (b - a)) (h1.up (by omega)) (bd.up (by omega));have my := PC (n := 2 * a) (d := 1) (m := n * (2 * (b - a))) (e := d) (bC.up (by omega)) (ez.up (by omega)) ((h1.mul bd).up (by omega)) (h2.up (by omega));clear h1 h2 bd bC ez;refine bi (f := 73) Tryz.func73 rfl rfl rfl rfl ?_;(refine bZ ?_)
 ((refine ba rfl (cL rfl rfl rfl aK) ?_))
 exact ah.aQ.refl _
def xk (x y low high kind : Int) : Bool := (decide (cD (low * y) (x * 1) < 0) || (decide (cD (low * y) (x * 1) = 0) && !decide (kind = 2))) && (decide (cD (x * 1) (high * y) < 0) || (decide (cD (x * 1) (high * y) = 0) && decide (kind = 1)))
theorem ac4 {x y low high kind c1 c2 : Int} {r : Bool} (aU : aC ag 68 [aB low] (e8 low)) (bD : aC ag 68 [aB high] (e8 high)) (eg : aC ag 68 [aB 1] (e8 1))
  (nj : aC ag 44 [jm low 1, jm x y] (aB c1)) (lr : aC ag 44 [jm x y, jm high 1] (aB c2))
  (cs : ((c1 < 0 ∨ (¬ c1 < 0 ∧ c1 = 0 ∧ ¬ kind = 2)) ∧ ((c2 < 0 ∧ r = true) ∨ (¬ c2 < 0 ∧ c2 = 0 ∧ kind = 1 ∧ r = true) ∨ (¬ c2 < 0 ∧ c2 = 0 ∧ ¬ kind = 1 ∧ r = false) ∨ (¬ c2 < 0 ∧ ¬ c2 = 0 ∧ r = false))) ∨ (¬ c1 < 0 ∧ c1 = 0 ∧ kind = 2 ∧ r = false) ∨ (¬ c1 < 0 ∧ ¬ c1 = 0 ∧ r = false)) : aC ag 72 [jm x y, aB low, aB high, aB kind] (bf r) := by
 rcases cs with ⟨q1 | ⟨q1, q2, bE⟩, ⟨g1, rfl⟩ | ⟨g1, g2, g3, rfl⟩ | ⟨g1, g2, g3, rfl⟩ | ⟨g1, g2, rfl⟩⟩ | ⟨q1, q2, bE, rfl⟩ | ⟨q1, q2, rfl⟩
 all_goals
  try (have c4 : (!decide (kind = 2)) = true := by simp [bE])
  try (have c4 : (!decide (kind = 2)) = false := by simp [bE])
  try (have g4 := ck g3)
  try (have g4 := cC g3)
  refine bi (f := 72) Tryz.func72 rfl rfl rfl rfl ?_;(repeat first | refine ec ?_ | refine gF ?_ | (with_reducible apply cc (c := true)); rfl; rfl; (first | assumption | exact ck (by omega)) | (with_reducible apply cc (c := false)); rfl; rfl; (first | assumption | exact cC (by omega)))
  ((refine ba rfl (a6 rfl aK) ?_))
  first | exact ah.aQ.refl _ | exact ah.aQ.of_eq (by rw [g4]; rfl)
theorem PD {x y low high kind : Int} (hl : -536870912 ≤ low ∧ low ≤ 536870912) (aR : -536870912 ≤ high ∧ high ≤ 536870912) (h1 : cN 150 x) (h2 : cN 150 y) : aC ag 72 [jm x y, aB low, aB high, aB kind] (bf (xk x y low high kind)) := by
 have bd : cN 5 low := nJ (by omega) (by omega);have bC : cN 5 high := nJ (by omega) (by omega);have ez : cN 5 (1 : Int) := nJ (by omega) (by omega);refine ac4 (oD (by omega) (by omega)) (oD (by omega) (by omega)) (oD (by omega) (by omega)) (PA (bd.up (by omega)) (ez.up (by omega)) (h1.up (by omega)) (h2.up (by omega))) (PA (h1.up (by omega)) (h2.up (by omega)) (bC.up (by omega)) (ez.up (by omega))) ?_;unfold xk;generalize cD (low * y) (x * 1) = c1;generalize cD (x * 1) (high * y) = c2
 by_cases q1 : c1 < 0 <;> by_cases q2 : c1 = 0 <;> by_cases bE : kind = 2 <;> by_cases g1 : c2 < 0 <;> by_cases g2 : c2 = 0 <;> by_cases g3 : kind = 1 <;> simp [q1, q2, bE, g1, g2, g3] <;> omega
theorem C3 {x y : Int} {b : Bool} (ab : n7 x y = b) : aC ag 67 [aP x y] (bf b) := by
 have cs : (x ≤ 536870912 ∧ -536870912 ≤ x ∧ y ≤ 536870912 ∧ -536870912 ≤ y ∧ b = true) ∨ (x ≤ 536870912 ∧ -536870912 ≤ x ∧ y ≤ 536870912 ∧ ¬ -536870912 ≤ y ∧ b = false) ∨ (x ≤ 536870912 ∧ -536870912 ≤ x ∧ ¬ y ≤ 536870912 ∧ b = false) ∨ (x ≤ 536870912 ∧ ¬ -536870912 ≤ x ∧ b = false) ∨ (¬ x ≤ 536870912 ∧ b = false) := by
  rw [← ab]; unfold n7 rf
  by_cases q1 : x ≤ 536870912 <;> by_cases q2 : y ≤ 536870912 <;> by_cases bE : -536870912 ≤ x <;> by_cases c4 : -536870912 ≤ y <;> simp [q1, q2, bE, c4]
 clear ab;rcases cs with ⟨q1, q2, bE, c4, rfl⟩ | ⟨q1, q2, bE, c4, rfl⟩ | ⟨q1, q2, bE, rfl⟩ | ⟨q1, q2, rfl⟩ | ⟨q1, rfl⟩
 all_goals
  refine bi (f := 67) Tryz.func67 rfl rfl rfl rfl ?_;(repeat first | refine ec ?_ | (with_reducible apply cc (c := true)); rfl; rfl; (exact ck (by omega)) | (with_reducible apply cc (c := false)); rfl; rfl; (exact cC (by omega)))
  ((refine ba rfl (a6 rfl aK) ?_))
  first | exact ah.aQ.refl _ | exact ah.aQ.of_eq (by rw [ck c4]; rfl) | exact ah.aQ.of_eq (by rw [cC c4]; rfl)
def hE : List (Int × Int) → List AC
 | [] => []
 | (n, d) :: l => .c (.bool (decide (n < 0))) :: .p (kY n) :: .c (.bool (decide (d < 0))) :: .p (kY d) :: hE l
theorem LO : ∀ (l : List (Int × Int)), (hE l).length = l.length * 4
 | [] => rfl
 | (n, d) :: l => by simp [hE, LO l]; omega
theorem vU : ∀ (l k : List (Int × Int)), hE l ++ hE k = hE (l ++ k)
 | [], k => rfl
 | (n, d) :: l, k => by simp [hE, vU l k]
theorem ye : ∀ (l : List (Int × Int)), (hE l).all AC.aV = true
 | [] => rfl
 | (n, d) :: l => by simp only [hE, jI, ye l]; rfl
theorem LN : ∀ {l : List (Int × Int)} {i : Nat} {n d : Int}, l[i]? = some (n, d) → ((hE l).drop (i * 4)).take 4 = [.c (.bool (decide (n < 0))), .p (kY n), .c (.bool (decide (d < 0))), .p (kY d)]
 | [], i, n, d, h => by simp at h
 | (m, e) :: l, 0, n, d, h => by simp at h; obtain ⟨rfl, rfl⟩ := h; rfl
 | (m, e) :: l, i + 1, n, d, h => by
  have := LN (l := l) (i := i) (n := n) (d := d) (by simpa using h);rw [← this];rw [show (i + 1) * 4 = i * 4 + 4 by omega, ← pL];simp only [hE];congr 1;rw [pL, Nat.add_comm, ← pL];rfl
abbrev xg (l : List (Int × Int)) : ah := cz 4 l.length (hE l)
def ng (a b hH : Int) : List (Int × Int) :=
 let n := hH - 2 * a
 let d := 2 * (b - a)
 let n' := if d < 0 then -n else n
 let d' := if d < 0 then -d else d
 if d' = 0 ∨ n' < 0 ∨ d' < n' then [] else [(n', d')]
theorem zl (z : Nat) : ah.aQ (aM (.slice none 0 0)) (cz z 0 []) := fun U ad W v ⟨h, _⟩ => by
 subst h;exact ⟨⟨none, 0, rfl, dl _, by simp, fun h => absurd h (by omega)⟩, fun b ⟨c', a', q, au, ab⟩ => by cases q⟩
theorem C4 {a b hH : Int} (aH : -134217728 ≤ a ∧ a ≤ 134217728) (ab : -134217728 ≤ b ∧ b ≤ 134217728) (hl : -536870912 ≤ hH ∧ hH ≤ 536870912) : aC ag 69 [aB a, aB b, aB hH] (xg (ng a b hH)) := by
 unfold ng;obtain ⟨n, au⟩ : ∃ n, hH - 2 * a = n := ⟨_, rfl⟩;obtain ⟨d, hd⟩ : ∃ d, 2 * (b - a) = d := ⟨_, rfl⟩;simp only [au, hd];have agN : -1000000000 ≤ n ∧ n ≤ 1000000000 := by omega
 have agL : -1000000000 ≤ d ∧ d ≤ 1000000000 := by omega
 have w1 : IntKind.i64.wrap (hH - 2 * a) = n := by rw [au]; exact la (by omega)
 have w2 : IntKind.i64.wrap (2 * (b - a)) = d := by rw [hd]; exact la (by omega)
 have w3 : IntKind.i64.wrap (2 * a) = 2 * a := la (by omega);have ku : IntKind.i64.wrap (b - a) = b - a := la (by omega);clear aH ab hl au hd
 by_cases q : d < 0
 ·rw [if_pos q, if_pos q];have qY := oD (n := -n) (by omega) (by omega);have AB := oD (n := -d) (by omega) (by omega)
  by_cases q1 : -d = 0
  ·omega
  ·by_cases q2 : -n < 0
   ·rw [if_pos (by omega)];refine bi (f := 69) Tryz.func69 rfl rfl rfl rfl ?_;(repeat first | refine ec ?_ | (with_reducible apply cc (c := true)); rfl; rfl; (exact ck (by omega)) | (with_reducible apply cc (c := false)); rfl; rfl; (exact cC (by omega)))
    ((refine ba rfl (a6 rfl aK) ?_))
    exact zl 4
   ·by_cases bE : -d < -n
    ·rw [if_pos (by omega)];refine bi (f := 69) Tryz.func69 rfl rfl rfl rfl ?_;(repeat first | refine ec ?_ | (with_reducible apply cc (c := false)); rfl; rfl; (exact cC (by omega)))
     ((refine ba rfl (a6 rfl aK) ?_))
     exact zl 4
    ·rw [if_neg (by omega)];refine bi (f := 69) Tryz.func69 rfl rfl rfl rfl ?_;(repeat first | refine ec ?_ | refine gF ?_ | (with_reducible apply cc (c := false)); rfl; rfl; (exact cC (by omega)))
     ((refine ba rfl (a6 rfl aK) ?_))
     exact ah.aQ.refl _
 ·rw [if_neg q, if_neg q];have qY := oD (n := n) (by omega) (by omega);have AB := oD (n := d) (by omega) (by omega)
  by_cases q1 : d = 0
  ·rw [if_pos (by omega)];refine bi (f := 69) Tryz.func69 rfl rfl rfl rfl ?_;(repeat first | refine ec ?_ | (with_reducible apply cc (c := true)); rfl; rfl; (exact ck (by omega)))
   ((refine ba rfl (a6 rfl aK) ?_))
   exact zl 4
  ·by_cases q2 : n < 0
   ·rw [if_pos (by omega)];refine bi (f := 69) Tryz.func69 rfl rfl rfl rfl ?_;(repeat first | refine ec ?_ | (with_reducible apply cc (c := true)); rfl; rfl; (exact ck (by omega)) | (with_reducible apply cc (c := false)); rfl; rfl; (exact cC (by omega)))
    ((refine ba rfl (a6 rfl aK) ?_))
    exact zl 4
   ·by_cases bE : d < n
    ·rw [if_pos (by omega)];refine bi (f := 69) Tryz.func69 rfl rfl rfl rfl ?_;(repeat first | refine ec ?_ | (with_reducible apply cc (c := false)); rfl; rfl; (exact cC (by omega)))
     ((refine ba rfl (a6 rfl aK) ?_))
     exact zl 4
    ·rw [if_neg (by omega)];refine bi (f := 69) Tryz.func69 rfl rfl rfl rfl ?_;(repeat first | refine ec ?_ | refine gF ?_ | (with_reducible apply cc (c := false)); rfl; rfl; (exact cC (by omega)))
     ((refine ba rfl (a6 rfl aK) ?_))
     exact ah.aQ.refl _
end Go.Proofs.YtbcecodakfejaaaGreat
