/-
  My own texts, without what this claim does not need. My own text.
-/
import Derived.Laws.AppendOwn
import Derived.Laws.MakeOwn
import Derived.Laws.Slices
import Derived.Test.YtpochbhajmbfdaaGreatSLastK3
set_option maxRecDepth 100000
set_option maxHeartbeats 64000000
set_option linter.unusedVariables false
set_option linter.unusedSimpArgs false
set_option linter.unusedSectionVars false
open Go.Proofs.Tryz renaming prog → aj
namespace Go.Proofs.YtpochbhajmbfdaaGreat
open Go.RowKit
def te (n : Int) : Bool := decide (-536870912 ≤ n) && decide (n ≤ 536870912)
theorem Lq {n : Int} : te n = true ↔ -536870912 ≤ n ∧ n ≤ 536870912 := by unfold te; rw [dQ, cB, cB]
def eb (x y : Int) : Bool := te x && te y
theorem PS {x y : Int} : eb x y = true ↔ (-536870912 ≤ x ∧ x ≤ 536870912) ∧ -536870912 ≤ y ∧ y ≤ 536870912 := by unfold eb; rw [dQ, Lq, Lq]
theorem Pb {n : Int} {b : Bool} (ab : te n = b) : aX aj 273 [aW n] (bF b) := by
 have cs : (-536870912 ≤ n ∧ n ≤ 536870912 ∧ b = true) ∨ (-536870912 ≤ n ∧ ¬ n ≤ 536870912 ∧ b = false) ∨ (¬ -536870912 ≤ n ∧ b = false) := by
  rw [← ab]; unfold te
  by_cases h1 : -536870912 ≤ n <;> by_cases h2 : n ≤ 536870912 <;> simp [h1, h2]
 clear ab;rcases cs with ⟨h1, h2, rfl⟩ | ⟨h1, h2, rfl⟩ | ⟨h1, rfl⟩
 all_goals
  refine cl (f := 273) Tryz.func273 rfl rfl rfl rfl ?_;(repeat first | (with_reducible apply aA); exact rfl | (with_reducible apply c8 (c := true)); exact rfl; exact rfl; (exact bB (by omega)) | (with_reducible apply c8 (c := false)); exact rfl; exact rfl; (exact bR (by omega)) | (with_reducible first | apply bX | apply bN | apply bV | apply aB | apply cd))
  ((refine bU rfl (bE rfl bf) ?_))
  first | exact ai.bo.refl _ | exact ai.bo.of_eq (by rw [bB h2]; rfl) | exact ai.bo.of_eq (by rw [bR h2]; rfl)
theorem sk {x y : Int} {b : Bool} (ab : eb x y = b) : aX aj 243 [bh x y] (bF b) := by
 have aP := Pb (n := x) rfl;have cc := Pb (n := y) rfl;unfold eb at ab;cases q1 : te x <;> cases q2 : te y <;> rw [q1] at aP <;> rw [q2] at cc <;> rw [q1, q2] at ab <;> subst ab <;> clear q1 q2
 all_goals
  refine cl (f := 243) Tryz.func243 rfl rfl rfl rfl ?_;(repeat first | (with_reducible apply aA); exact rfl | refine fN rfl rfl rfl (by (first | exact aP | exact cc)) rfl ?_ | (with_reducible first | apply bX | apply bN | apply bV | apply aB | apply cd))
  ((refine bU rfl (bE rfl bf) ?_))
  exact ai.bo.refl _
def cf (o1 o2 a1 a2 b1 b2 : Int) : Int := (a1 - o1) * (b2 - o2) - (a2 - o2) * (b1 - o1)
theorem H2 {x y A B : Int} (h1 : -A ≤ x) (h2 : x ≤ A) (ap : -B ≤ y) (aL : y ≤ B) : -(A * B) ≤ x * y ∧ x * y ≤ A * B := by
 have aa : x.natAbs ≤ A.natAbs := by omega
 have ag : y.natAbs ≤ B.natAbs := by omega
 have h := Nat.mul_le_mul aa ag;rw [← Int.natAbs_mul, ← Int.natAbs_mul] at h;have dS : 0 ≤ A * B := iM (by omega) (by omega);omega
theorem Oh {x y : Int} (h1 : -1073741824 ≤ x) (h2 : x ≤ 1073741824) (ap : -1073741824 ≤ y) (aL : y ≤ 1073741824) : -1152921504606846976 ≤ x * y ∧ x * y ≤ 1152921504606846976 := by
 have := H2 h1 h2 ap aL;omega
theorem O7 {o1 o2 a1 a2 b1 b2 : Int} (ax : eb o1 o2 = true) (aK : eb a1 a2 = true) (ab : eb b1 b2 = true) : aX aj 218 [bh o1 o2, bh a1 a2, bh b1 b2] (aW (cf o1 o2 a1 a2 b1 b2)) := by
 have bn := sk ax;have eY := sk aK;have jL := sk ab;rw [PS] at ax aK ab;have m1 := Oh (x := a1 - o1) (y := b2 - o2) (by omega) (by omega) (by omega) (by omega);have m2 := Oh (x := a2 - o2) (y := b1 - o1) (by omega) (by omega) (by omega) (by omega);refine cl (f := 218) Tryz.func218 rfl rfl rfl rfl ?_;(repeat first | (with_reducible apply aA); exact rfl | (with_reducible apply nX); (iterate 3 exact rfl); (exact da (by omega)); exact rfl | (with_reducible apply sW); (iterate 3 exact rfl); (exact da (by omega)); exact rfl | refine fN rfl rfl rfl (by (first | exact bn | exact eY | exact jL)) rfl ?_ | (with_reducible first | apply bX | apply bN | apply bV | apply aB | apply cd | apply fr) | (with_reducible apply jm); exact rfl)
 ((refine bU rfl (bE rfl bf) ?_))
 exact ai.bo.refl _
theorem abU {o1 o2 a1 a2 b1 b2 : Int} (h : (eb o1 o2 && eb a1 a2 && eb b1 b2) = false) : aX aj 218 [bh o1 o2, bh a1 a2, bh b1 b2] (aW 0) := by
 have bn := sk (x := o1) (y := o2) rfl;have eY := sk (x := a1) (y := a2) rfl;have jL := sk (x := b1) (y := b2) rfl
 have cs : eb o1 o2 = false ∨ (eb o1 o2 = true ∧ eb a1 a2 = false) ∨ (eb o1 o2 = true ∧ eb a1 a2 = true ∧ eb b1 b2 = false) := by
  generalize eb o1 o2 = p at *;generalize eb a1 a2 = q at *;generalize eb b1 b2 = r at *;cases p <;> cases q <;> cases r <;> simp_all
 clear h;rcases cs with h1 | ⟨h1, h2⟩ | ⟨h1, h2, ap⟩ <;> simp only [*] at bn eY jL
 all_goals
  refine cl (f := 218) Tryz.func218 rfl rfl rfl rfl ?_;(repeat first | (with_reducible apply aA); exact rfl | refine fN rfl rfl rfl (by (first | exact bn | exact eY | exact jL)) rfl ?_ | (with_reducible first | apply bX | apply bN | apply bV | apply aB | apply cd | apply gy) | (with_reducible apply kE); exact rfl)
  ((refine bU rfl (bE rfl bf) ?_))
  exact ai.bo.refl _
def rF (o1 o2 a1 a2 b1 b2 : Int) : Int := if (eb o1 o2 && eb a1 a2 && eb b1 b2) = true then cf o1 o2 a1 a2 b1 b2 else 0
theorem abT {o1 o2 a1 a2 b1 b2 : Int} : aX aj 218 [bh o1 o2, bh a1 a2, bh b1 b2] (aW (rF o1 o2 a1 a2 b1 b2)) := by
 unfold rF
 by_cases h : (eb o1 o2 && eb a1 a2 && eb b1 b2) = true
 ·rw [if_pos h];simp only [dQ] at h;exact O7 h.1.1 h.1.2 h.2
 ·rw [if_neg h];exact abU (by simpa using h)
def qW (n : Int) : Int := if n < 0 then -1 else if 0 < n then 1 else 0
theorem acg {o1 o2 a1 a2 b1 b2 : Int} : aX aj 276 [bh o1 o2, bh a1 a2, bh b1 b2] (aW (qW (rF o1 o2 a1 a2 b1 b2))) := by
 have aP := abT (o1 := o1) (o2 := o2) (a1 := a1) (a2 := a2) (b1 := b1) (b2 := b2);generalize rF o1 o2 a1 a2 b1 b2 = c at *;have cs : (c < 0 ∧ qW c = -1) ∨ (¬ c < 0 ∧ 0 < c ∧ qW c = 1) ∨ (¬ c < 0 ∧ ¬ 0 < c ∧ qW c = 0) := by unfold qW; repeat' split <;> omega
 rcases cs with ⟨h1, h⟩ | ⟨h1, h2, h⟩ | ⟨h1, h2, h⟩ <;> rw [h] <;> clear h
 all_goals
  refine cl (f := 276) Tryz.func276 rfl rfl rfl rfl ?_;(repeat first | (with_reducible apply aA); exact rfl | refine jP rfl rfl rfl rfl rfl (by (exact aP)) rfl ?_ | (with_reducible first | apply bX | apply bN | apply bV | apply aB | apply cd | apply fr | apply gy | apply iS | apply mX | apply rs) | (with_reducible apply hI); exact rfl; (exact bB (by omega)) | (with_reducible apply hZ); exact rfl; (exact bR (by omega)))
  ((refine bU rfl (bE rfl bf) ?_))
  exact ai.bo.refl _
abbrev gE (a b : Int) : Int := if b < a then b else a
abbrev gD (a b : Int) : Int := if b > a then b else a
theorem abQ {a1 a2 b1 b2 : Int} : aX aj 275 [bh a1 a2, bh b1 b2] (iO (gE a1 b1) (gE a2 b2) (gD a1 b1) (gD a2 b2)) := by
 refine cl (f := 275) Tryz.func275 rfl rfl rfl rfl ?_;(repeat first | (with_reducible apply aA); exact rfl | (with_reducible apply x6); (iterate 4 exact rfl) | (with_reducible apply uz); (iterate 4 exact rfl) | (with_reducible first | apply bX | apply bN | apply bV | apply aB | apply cd))
 ((refine bU rfl (eV rfl rfl rfl bf) ?_))
 exact ai.bo.refl _
def fi (l1 l2 h1 h2 p1 p2 : Int) : Bool := decide (l1 ≤ p1) && decide (p1 ≤ h1) && decide (l2 ≤ p2) && decide (p2 ≤ h2)
theorem WK {l1 l2 h1 h2 p1 p2 : Int} : fi l1 l2 h1 h2 p1 p2 = true ↔ l1 ≤ p1 ∧ p1 ≤ h1 ∧ l2 ≤ p2 ∧ p2 ≤ h2 := by unfold fi; simp only [dQ, cB, and_assoc]
theorem ab0 {l1 l2 h1 h2 p1 p2 : Int} {b : Bool} (ab : fi l1 l2 h1 h2 p1 p2 = b) : aX aj 274 [iO l1 l2 h1 h2, bh p1 p2] (bF b) := by
 have cs : (l1 ≤ p1 ∧ p1 ≤ h1 ∧ l2 ≤ p2 ∧ p2 ≤ h2 ∧ b = true) ∨ (l1 ≤ p1 ∧ p1 ≤ h1 ∧ l2 ≤ p2 ∧ ¬ p2 ≤ h2 ∧ b = false) ∨ (l1 ≤ p1 ∧ p1 ≤ h1 ∧ ¬ l2 ≤ p2 ∧ b = false) ∨ (l1 ≤ p1 ∧ ¬ p1 ≤ h1 ∧ b = false) ∨ (¬ l1 ≤ p1 ∧ b = false) := by
  rw [← ab]; unfold fi
  by_cases q1 : l1 ≤ p1 <;> by_cases q2 : p1 ≤ h1 <;> by_cases b5 : l2 ≤ p2 <;> by_cases ew : p2 ≤ h2 <;> simp [q1, q2, b5, ew]
 clear ab;rcases cs with ⟨q1, q2, b5, ew, rfl⟩ | ⟨q1, q2, b5, ew, rfl⟩ | ⟨q1, q2, b5, rfl⟩ | ⟨q1, q2, rfl⟩ | ⟨q1, rfl⟩
 all_goals
  refine cl (f := 274) Tryz.func274 rfl rfl rfl rfl ?_;(repeat first | (with_reducible apply aA); exact rfl | (with_reducible apply c8 (c := true)); exact rfl; exact rfl; (exact bB (by omega)) | (with_reducible apply c8 (c := false)); exact rfl; exact rfl; (exact bR (by omega)) | (with_reducible first | apply bX | apply bN | apply bV | apply aB | apply cd))
  ((refine bU rfl (bE rfl bf) ?_))
  first | exact ai.bo.refl _ | exact ai.bo.of_eq (by rw [bB ew]; rfl) | exact ai.bo.of_eq (by rw [bR ew]; rfl)
def DF (p1 p2 a1 a2 b1 b2 : Int) : Bool := eb p1 p2 && eb a1 a2 && eb b1 b2 && fi (gE a1 b1) (gE a2 b2) (gD a1 b1) (gD a2 b2) p1 p2 && decide (cf a1 a2 b1 b2 p1 p2 = 0)
theorem aej {n : Int} : qW n = 0 ↔ n = 0 := by unfold qW; repeat' split <;> omega
theorem ab9 {p1 p2 a1 a2 b1 b2 : Int} {b : Bool} (ab : DF p1 p2 a1 a2 b1 b2 = b) : aX aj 244 [bh p1 p2, bh a1 a2, bh b1 b2] (bF b) := by
 have bn := sk (x := p1) (y := p2) rfl;have eY := sk (x := a1) (y := a2) rfl;have jL := sk (x := b1) (y := b2) rfl;have H1 := abQ (a1 := a1) (a2 := a2) (b1 := b1) (b2 := b2);have b8 := ab0 (l1 := gE a1 b1) (l2 := gE a2 b2) (h1 := gD a1 b1) (h2 := gD a2 b2) (p1 := p1) (p2 := p2) rfl;have rp := acg (o1 := a1) (o2 := a2) (a1 := b1) (a2 := b2) (b1 := p1) (b2 := p2);unfold DF at ab
 have cs : (eb p1 p2 = false ∧ b = false) ∨ (eb p1 p2 = true ∧ eb a1 a2 = false ∧ b = false) ∨ (eb p1 p2 = true ∧ eb a1 a2 = true ∧ eb b1 b2 = false ∧ b = false)
   ∨ (eb p1 p2 = true ∧ eb a1 a2 = true ∧ eb b1 b2 = true ∧ fi (gE a1 b1) (gE a2 b2) (gD a1 b1) (gD a2 b2) p1 p2 = false ∧ b = false)
   ∨ (eb p1 p2 = true ∧ eb a1 a2 = true ∧ eb b1 b2 = true ∧ fi (gE a1 b1) (gE a2 b2) (gD a1 b1) (gD a2 b2) p1 p2 = true ∧ b = decide (qW (rF a1 a2 b1 b2 p1 p2) = 0)) := by
  have e : decide (qW (rF a1 a2 b1 b2 p1 p2) = 0) = decide (rF a1 a2 b1 b2 p1 p2 = 0) := by rw [oK, cB, cB, aej]
  rw [e];unfold rF;generalize cf a1 a2 b1 b2 p1 p2 = c at *;generalize eb p1 p2 = c7 at *;generalize eb a1 a2 = dq at *;generalize eb b1 b2 = kz at *;generalize fi _ _ _ _ p1 p2 = mR at *;cases c7 <;> cases dq <;> cases kz <;> cases mR <;> simp_all
 clear ab;generalize fi _ _ _ _ p1 p2 = mR at *;generalize gE a1 b1 = i1 at *;generalize gE a2 b2 = i2 at *;generalize gD a1 b1 = i3 at *;generalize gD a2 b2 = i4 at *;generalize qW (rF a1 a2 b1 b2 p1 p2) = t at *;rcases cs with ⟨h1, rfl⟩ | ⟨h1, h2, rfl⟩ | ⟨h1, h2, ap, rfl⟩ | ⟨h1, h2, ap, rfl, rfl⟩ | ⟨h1, h2, ap, rfl, rfl⟩ <;> simp only [*] at bn eY jL
 all_goals
  refine cl (f := 244) Tryz.func244 rfl rfl rfl rfl ?_;(repeat first | (with_reducible apply aA); exact rfl | refine fN rfl rfl rfl (by (first | exact bn | exact eY | exact jL)) rfl ?_ | refine dM rfl rfl rfl rfl (by (first | exact H1 | exact b8)) rfl ?_ | refine jP rfl rfl rfl rfl rfl (by (exact rp)) rfl ?_ | (with_reducible apply hX); kernel_rfl | (with_reducible apply h0); kernel_rfl; kernel_rfl; exact rfl | (with_reducible first | apply bX | apply bN | apply bV | apply aB | apply cd))
  ((refine bU rfl (bE rfl bf) ?_))
  exact ai.bo.refl _
end Go.Proofs.YtpochbhajmbfdaaGreat
namespace Go.Proofs.YtpochbhajmbfdaaGreat
def cH (x y : Int) : Bool := decide (x ≤ 134217728) && decide (y ≤ 134217728) && decide (-134217728 ≤ x) && decide (-134217728 ≤ y)
theorem sw {x y : Int} : cH x y = true ↔ (-134217728 ≤ x ∧ x ≤ 134217728) ∧ -134217728 ≤ y ∧ y ≤ 134217728 := by
  unfold cH;simp only [dQ, cB];omega
def dl (a1 a2 b1 b2 : Int) : Prop := a1 < b1 ∨ (a1 = b1 ∧ a2 ≤ b2)
instance (a1 a2 b1 b2 : Int) : Decidable (dl a1 a2 b1 b2) := by unfold dl; exact inferInstance
theorem dl.Iz {a1 a2 : Int} : dl a1 a2 a1 a2 := .inr ⟨rfl, oL _⟩
theorem dl.trans {a1 a2 b1 b2 c1 c2 : Int} (h : dl a1 a2 b1 b2) (k : dl b1 b2 c1 c2) : dl a1 a2 c1 c2 := by unfold dl at *; omega
theorem dl.total (a1 a2 b1 b2 : Int) : dl a1 a2 b1 b2 ∨ dl b1 b2 a1 a2 := by unfold dl; omega
theorem dl.Br {a1 a2 b1 b2 : Int} (h : dl a1 a2 b1 b2) (k : dl b1 b2 a1 a2) : a1 = b1 ∧ a2 = b2 := by unfold dl at *; omega
def r5 (p1 p2 a1 a2 b1 b2 : Int) : Prop := gE a1 b1 ≤ p1 ∧ p1 ≤ gD a1 b1 ∧ gE a2 b2 ≤ p2 ∧ p2 ≤ gD a2 b2
theorem Kt {s1 s2 t1 t2 p1 p2 : Int} (jx : dl s1 s2 t1 t2) (ak : cf s1 s2 t1 t2 p1 p2 = 0) : r5 p1 p2 s1 s2 t1 t2 ↔ dl s1 s2 p1 p2 ∧ dl p1 p2 t1 t2 := by
  unfold cf at ak;have tr : (t1 - s1) * (p2 - s2) = (t2 - s2) * (p1 - s1) := by omega
  unfold r5 gE gD dl at *
  by_cases h1 : s1 = t1
  · subst h1
    have e : (t2 - s2) * (p1 - s1) = 0 := by rw [← tr]; simp
    rcases sr.1 e with e | e
    · constructor
      · intro h; split at h <;> (try split at h) <;> (try split at h) <;> (try split at h) <;> omega
      · intro h; split <;> (try split) <;> (try split) <;> (try split) <;> omega
    · constructor
      · intro h; split at h <;> (try split at h) <;> (try split at h) <;> (try split at h) <;> omega
      · intro h; split <;> (try split) <;> (try split) <;> (try split) <;> omega
  · have h2 : s1 < t1 := by omega
    have hd : 0 < t1 - s1 := by omega
    rw [if_neg (show ¬ t1 < s1 by omega), if_pos (show t1 > s1 by omega)]
   
    have key : s1 ≤ p1 → p1 ≤ t1 → (if t2 < s2 then t2 else s2) ≤ p2 ∧ p2 ≤ (if t2 > s2 then t2 else s2) := by
      intro bA b9
      by_cases g : t2 < s2
      · rw [if_pos g, if_neg (by omega)]
        have a1 : (t2 - s2) * (t1 - s1) ≤ (t2 - s2) * (p1 - s1) := Int.mul_le_mul_of_nonpos_left (by omega) (by omega);have a2 : (t2 - s2) * (p1 - s1) ≤ 0 := Int.mul_nonpos_of_nonpos_of_nonneg (by omega) (by omega);rw [← tr] at a1 a2;rw [jE (t2 - s2)] at a1;have b1 := Int.le_of_mul_le_mul_left a1 hd
        have b2 : p2 - s2 ≤ 0 := by
          have : (t1 - s1) * (p2 - s2) ≤ (t1 - s1) * 0 := by omega
          exact Int.le_of_mul_le_mul_left this hd
        omega
      · rw [if_neg g]
        have a1 : (t2 - s2) * (p1 - s1) ≤ (t2 - s2) * (t1 - s1) := pH (by omega) (by omega);have a2 : 0 ≤ (t2 - s2) * (p1 - s1) := iM (by omega) (by omega);rw [← tr] at a1 a2;rw [jE (t2 - s2)] at a1;have b1 := Int.le_of_mul_le_mul_left a1 hd
        have b2 : 0 ≤ p2 - s2 := by
          have : (t1 - s1) * 0 ≤ (t1 - s1) * (p2 - s2) := by omega
          exact Int.le_of_mul_le_mul_left this hd
        split <;> omega
    constructor
    · rintro ⟨bA, b9, hr, iZ⟩
      constructor
      · by_cases g : s1 < p1
        · exact .inl g
        · right
          have : p1 = s1 := by omega
          subst this;have : (t1 - p1) * (p2 - s2) = 0 := by rw [tr]; simp
          rcases sr.1 this with e | e <;> omega
      · by_cases g : p1 < t1
        · exact .inl g
        · right
          have : p1 = t1 := by omega
          subst this;rw [jE (t2 - s2)] at tr;have := Int.eq_of_mul_eq_mul_left (show p1 - s1 ≠ 0 by omega) tr;omega
    · rintro ⟨bA, b9⟩
      have Hv : s1 ≤ p1 := by omega
      have Hw : p1 ≤ t1 := by omega
      exact ⟨Hv, Hw, (key Hv Hw).1, (key Hv Hw).2⟩
def dj (p1 p2 s1 s2 t1 t2 : Int) : Prop := cf s1 s2 t1 t2 p1 p2 = 0 ∧ r5 p1 p2 s1 s2 t1 t2
theorem vk {s1 s2 t1 t2 p1 p2 : Int} (jx : dl s1 s2 t1 t2) : dj p1 p2 s1 s2 t1 t2 ↔ cf s1 s2 t1 t2 p1 p2 = 0 ∧ dl s1 s2 p1 p2 ∧ dl p1 p2 t1 t2 := by
  unfold dj
  constructor
  · rintro ⟨h, k⟩; exact ⟨h, (Kt jx h).1 k⟩
  · rintro ⟨h, k⟩; exact ⟨h, (Kt jx h).2 k⟩
theorem FG (a1 a2 b1 b2 : Int) : cf a1 a2 b1 b2 a1 a2 = 0 := by unfold cf; grind
theorem KO (a1 a2 b1 b2 : Int) : cf a1 a2 b1 b2 b1 b2 = 0 := by unfold cf; grind
theorem tR {s1 s2 t1 t2 : Int} (jx : dl s1 s2 t1 t2) : dj s1 s2 s1 s2 t1 t2 := (vk jx).2 ⟨FG .., .Iz, jx⟩
theorem tQ {s1 s2 t1 t2 : Int} (jx : dl s1 s2 t1 t2) : dj t1 t2 s1 s2 t1 t2 := (vk jx).2 ⟨KO .., jx, .Iz⟩
theorem zT {p1 p2 s1 s2 : Int} (h : dj p1 p2 s1 s2 s1 s2) : p1 = s1 ∧ p2 = s2 := by
  obtain ⟨_, h1, h2⟩ := (vk dl.Iz).1 h;have := dl.Br h1 h2; omega
def oG (s1 s2 bO bT t1 t2 t3 t4 : Int) : Int := (bO - s1) * (t4 - t2) - (bT - s2) * (t3 - t1)
theorem tT {s1 s2 bO bT t1 t2 t3 t4 p1 p2 cP ea : Int} (hs : dl s1 s2 bO bT) (aE : dl t1 t2 t3 t4) (hw : oG s1 s2 bO bT t1 t2 t3 t4 = 0)
    (ps : dj p1 p2 s1 s2 bO bT) (oI : dj p1 p2 t1 t2 t3 t4) (sD : dj cP ea s1 s2 bO bT) (hV : dl t1 t2 cP ea) (adr : dl cP ea t3 t4) : dj cP ea t1 t2 t3 t4 := by
  by_cases hd : s1 = bO ∧ s2 = bT
  · obtain ⟨rfl, rfl⟩ := hd
    obtain ⟨rfl, rfl⟩ := zT ps;obtain ⟨rfl, rfl⟩ := zT sD;exact oI
  · refine (vk aE).2 ⟨?_, hV, adr⟩
    have a := ps.1;have b := oI.1;have c := sD.1;unfold cf oG at *;have d1 : (bO - s1) * ((t3 - t1) * (ea - t2) - (t4 - t2) * (cP - t1)) = 0 := by grind
    have d2 : (bT - s2) * ((t3 - t1) * (ea - t2) - (t4 - t2) * (cP - t1)) = 0 := by grind
    rcases sr.1 d1 with e | e
    · rcases sr.1 d2 with f | f
      · omega
      · exact f
    · exact e
theorem Ku {x y A B D : Int} (kh : 0 < D) (e : D = A - B) : (gE x y * D ≤ y * A - x * B ∧ y * A - x * B ≤ gD x y * D) ↔ (x = y ∨ (B ≤ 0 ∧ 0 ≤ A)) := by
  subst e;unfold gE gD
  by_cases h : x = y
  · subst h
    have : x * (A - B) = x * A - x * B := Int.mul_sub ..;simp [this]
  · have pos : ∀ {u v : Int}, 0 < u → (0 ≤ u * v ↔ 0 ≤ v) := by
      intro u v hu
      constructor
      · intro k
        have k' : u * 0 ≤ u * v := by omega
        exact Int.le_of_mul_le_mul_left k' hu
      · intro k; exact iM (by omega) k
    by_cases g : x < y
    · rw [if_neg (by omega), if_pos (show y > x from g)]
      have hu : 0 < y - x := by omega
      have aI : y * A - x * B - x * (A - B) = (y - x) * A := by grind
      have aN : y * (A - B) - (y * A - x * B) = (y - x) * (-B) := by grind
      have p1 := pos (v := A) hu;have p2 := pos (v := -B) hu;omega
    · rw [if_pos (by omega), if_neg (by omega)]
      have hu : 0 < x - y := by omega
      have aI : x * (A - B) - (y * A - x * B) = (x - y) * A := by grind
      have aN : y * A - x * B - y * (A - B) = (x - y) * (-B) := by grind
      have p1 := pos (v := A) hu;have p2 := pos (v := -B) hu;omega
def kF (n d a b : Int) : Prop := gE a b * d ≤ n ∧ n ≤ gD a b * d
theorem BB {x y u v A B D : Int} (kh : 0 < D) (e : D = A - B) (cn : ¬ (x = y ∧ u = v)) : (kF (y * A - x * B) D x y ∧ kF (v * A - u * B) D u v) ↔ (B ≤ 0 ∧ 0 ≤ A) := by
  unfold kF;rw [Ku kh e, Ku kh e];omega
theorem rC {n d a b : Int} : kF n d a b ↔ kF n d b a := by
  unfold kF gE gD
  by_cases h : a = b
  · subst h; rfl
  · by_cases g : a < b
    · rw [if_neg (by omega), if_pos (show b > a from g), if_pos g, if_neg (by omega)]
    · rw [if_pos (show b < a by omega), if_neg (by omega), if_neg g, if_pos (by omega)]
structure fz where
  k : Int
  n : Int
  d : Int
  m : Int
  e : Int
  p1 : Int
  p2 : Int
  q1 : Int
  q2 : Int
def ht : fz := ⟨0, 0, 0, 0, 0, 0, 0, 0, 0⟩
def iK (n d m e : Int) : fz := ⟨1, n, d, m, e, 0, 0, 0, 0⟩
def sT (p1 p2 q1 q2 : Int) : fz := ⟨2, 0, 0, 0, 0, p1, p2, q1, q2⟩
def jb (n d : Int) : Int := if d < 0 then -n else n
def h9 (d : Int) : Int := if d < 0 then -d else d
theorem qE {d : Int} (h : d ≠ 0) (n : Int) : jb (-n) (-d) = jb n d := by unfold jb; split <;> split <;> omega
theorem zR (d : Int) : h9 (-d) = h9 d := by unfold h9; split <;> split <;> omega
theorem OH {d : Int} (h : d ≠ 0) : 0 < h9 d := by unfold h9; split <;> omega
def jz (a1 a2 b1 b2 c1 c2 d1 d2 : Int) : Int := ((b2 - a2) * a1 + (a1 - b1) * a2) * (c1 - d1) - (a1 - b1) * ((d2 - c2) * c1 + (c1 - d1) * c2)
def jA (a1 a2 b1 b2 c1 c2 d1 d2 : Int) : Int := (b2 - a2) * ((d2 - c2) * c1 + (c1 - d1) * c2) - ((b2 - a2) * a1 + (a1 - b1) * a2) * (d2 - c2)
def cW (a1 a2 b1 b2 c1 c2 d1 d2 : Int) : Int := (b2 - a2) * (c1 - d1) - (a1 - b1) * (d2 - c2)
theorem QW (a1 a2 b1 b2 c1 c2 d1 d2 : Int) : cW a1 a2 b1 b2 c1 c2 d1 d2 = oG a1 a2 b1 b2 c1 c2 d1 d2 := by unfold cW oG; grind
section
variable (a1 a2 b1 b2 c1 c2 d1 d2 : Int)
theorem EC : cW b1 b2 a1 a2 c1 c2 d1 d2 = - cW a1 a2 b1 b2 c1 c2 d1 d2 := by unfold cW; grind
theorem Ay : cW a1 a2 b1 b2 d1 d2 c1 c2 = - cW a1 a2 b1 b2 c1 c2 d1 d2 := by unfold cW; grind
theorem ED : cW c1 c2 d1 d2 a1 a2 b1 b2 = - cW a1 a2 b1 b2 c1 c2 d1 d2 := by unfold cW; grind
theorem aaP : jz b1 b2 a1 a2 c1 c2 d1 d2 = - jz a1 a2 b1 b2 c1 c2 d1 d2 := by unfold jz; grind
theorem aaQ : jz a1 a2 b1 b2 d1 d2 c1 c2 = - jz a1 a2 b1 b2 c1 c2 d1 d2 := by unfold jz; grind
theorem Ok : jz c1 c2 d1 d2 a1 a2 b1 b2 = - jz a1 a2 b1 b2 c1 c2 d1 d2 := by unfold jz; grind
theorem aaR : jA b1 b2 a1 a2 c1 c2 d1 d2 = - jA a1 a2 b1 b2 c1 c2 d1 d2 := by unfold jA; grind
theorem aaS : jA a1 a2 b1 b2 d1 d2 c1 c2 = - jA a1 a2 b1 b2 c1 c2 d1 d2 := by unfold jA; grind
theorem Ol : jA c1 c2 d1 d2 a1 a2 b1 b2 = - jA a1 a2 b1 b2 c1 c2 d1 d2 := by unfold jA; grind
theorem H6 : c1 * cf a1 a2 b1 b2 d1 d2 - d1 * cf a1 a2 b1 b2 c1 c2 = jz a1 a2 b1 b2 c1 c2 d1 d2 := by unfold jz cf; grind
theorem H7 : c2 * cf a1 a2 b1 b2 d1 d2 - d2 * cf a1 a2 b1 b2 c1 c2 = jA a1 a2 b1 b2 c1 c2 d1 d2 := by unfold jA cf; grind
theorem I5 : cf a1 a2 b1 b2 d1 d2 - cf a1 a2 b1 b2 c1 c2 = cW a1 a2 b1 b2 c1 c2 d1 d2 := by unfold cW cf; grind
end
def four (a1 a2 b1 b2 c1 c2 d1 d2 x y d : Int) : Prop := kF x d a1 b1 ∧ kF y d a2 b2 ∧ kF x d c1 d1 ∧ kF y d c2 d2
instance (n d a b : Int) : Decidable (kF n d a b) := by unfold kF; exact inferInstance
instance (a1 a2 b1 b2 c1 c2 d1 d2 x y d : Int) : Decidable (four a1 a2 b1 b2 c1 c2 d1 d2 x y d) := by unfold four; exact inferInstance
theorem zt {α : Type} {p q : Prop} [Decidable p] [Decidable q] {a b : α} (h : p ↔ q) : (if p then a else b) = if q then a else b := by
  by_cases k : p
  · rw [if_pos k, if_pos (h.1 k)]
  · rw [if_neg k, if_neg fun g => k (h.2 g)]
def tJ (a1 a2 b1 b2 c1 c2 d1 d2 x y d : Int) : fz := if four a1 a2 b1 b2 c1 c2 d1 d2 x y d then iK x d y d else ht
def mi (a1 a2 b1 b2 c1 c2 d1 d2 : Int) : fz :=
  tJ a1 a2 b1 b2 c1 c2 d1 d2 (jb (jz a1 a2 b1 b2 c1 c2 d1 d2) (cW a1 a2 b1 b2 c1 c2 d1 d2)) (jb (jA a1 a2 b1 b2 c1 c2 d1 d2) (cW a1 a2 b1 b2 c1 c2 d1 d2)) (h9 (cW a1 a2 b1 b2 c1 c2 d1 d2))
theorem aav {a1 a2 b1 b2 c1 c2 d1 d2 : Int} (h : cW a1 a2 b1 b2 c1 c2 d1 d2 ≠ 0) : mi b1 b2 a1 a2 c1 c2 d1 d2 = mi a1 a2 b1 b2 c1 c2 d1 d2 := by
  unfold mi;rw [EC, aaP, aaR, qE h, qE h, zR];unfold tJ four;exact zt (by rw [rC (a := b1), rC (a := b2)])
theorem aaw {a1 a2 b1 b2 c1 c2 d1 d2 : Int} (h : cW a1 a2 b1 b2 c1 c2 d1 d2 ≠ 0) : mi a1 a2 b1 b2 d1 d2 c1 c2 = mi a1 a2 b1 b2 c1 c2 d1 d2 := by
  unfold mi;rw [Ay, aaQ, aaS, qE h, qE h, zR];unfold tJ four;exact zt (by rw [rC (a := d1), rC (a := d2)])
theorem aax {a1 a2 b1 b2 c1 c2 d1 d2 : Int} (h : cW a1 a2 b1 b2 c1 c2 d1 d2 ≠ 0) : mi c1 c2 d1 d2 a1 a2 b1 b2 = mi a1 a2 b1 b2 c1 c2 d1 d2 := by
  unfold mi;rw [ED, Ok, Ol, qE h, qE h, zR];unfold tJ four;refine zt ?_
  constructor
  · rintro ⟨h1, h2, ap, aL⟩; exact ⟨ap, aL, h1, h2⟩
  · rintro ⟨h1, h2, ap, aL⟩; exact ⟨ap, aL, h1, h2⟩
def same (m n : Int) : Prop := (0 < m ∧ 0 < n) ∨ (m < 0 ∧ n < 0)
instance (m n : Int) : Decidable (same m n) := by unfold same; exact inferInstance
theorem QV {a1 a2 b1 b2 c1 c2 d1 d2 : Int} (h : cW a1 a2 b1 b2 c1 c2 d1 d2 ≠ 0) : ¬ (a1 = b1 ∧ a2 = b2) ∧ ¬ (c1 = d1 ∧ c2 = d2) := by
  refine ⟨?_, ?_⟩
  · rintro ⟨rfl, rfl⟩; apply h; unfold cW; simp
  · rintro ⟨rfl, rfl⟩; apply h; unfold cW; simp
theorem Qt {a1 a2 b1 b2 c1 c2 d1 d2 : Int} (h : cW a1 a2 b1 b2 c1 c2 d1 d2 ≠ 0) :
    (kF (jb (jz a1 a2 b1 b2 c1 c2 d1 d2) (cW a1 a2 b1 b2 c1 c2 d1 d2)) (h9 (cW a1 a2 b1 b2 c1 c2 d1 d2)) c1 d1 ∧ kF (jb (jA a1 a2 b1 b2 c1 c2 d1 d2) (cW a1 a2 b1 b2 c1 c2 d1 d2)) (h9 (cW a1 a2 b1 b2 c1 c2 d1 d2)) c2 d2) ↔ ¬ same (cf a1 a2 b1 b2 c1 c2) (cf a1 a2 b1 b2 d1 d2) := by
  have cn := (QV h).2;have aI := H6 a1 a2 b1 b2 c1 c2 d1 d2;have aN := H7 a1 a2 b1 b2 c1 c2 d1 d2;have cC := I5 a1 a2 b1 b2 c1 c2 d1 d2;generalize jz a1 a2 b1 b2 c1 c2 d1 d2 = X at *;generalize jA a1 a2 b1 b2 c1 c2 d1 d2 = Y at *;generalize cW a1 a2 b1 b2 c1 c2 d1 d2 = w at *;generalize cf a1 a2 b1 b2 c1 c2 = C at *;generalize cf a1 a2 b1 b2 d1 d2 = D at *;unfold jb h9 same
  by_cases g : w < 0
  · rw [if_pos g, if_pos g, if_pos g, rC (a := c1), rC (a := c2)]
    have aY := BB (x := d1) (y := c1) (u := d2) (v := c2) (A := -D) (B := -C) (D := -w) (by omega) (by omega) (by omega);have f1 : c1 * -D - d1 * -C = -X := by rw [← aI]; simp only [Int.mul_neg]; omega
    have f2 : c2 * -D - d2 * -C = -Y := by rw [← aN]; simp only [Int.mul_neg]; omega
    rw [f1, f2] at aY;rw [aY]; omega
  · rw [if_neg g, if_neg g, if_neg g, rC (a := c1), rC (a := c2)]
    have aY := BB (x := d1) (y := c1) (u := d2) (v := c2) (A := D) (B := C) (D := w) (by omega) (by omega) (by omega);rw [aI, aN] at aY;rw [aY]; omega
theorem aer {a1 a2 b1 b2 c1 c2 d1 d2 : Int} (h : cW a1 a2 b1 b2 c1 c2 d1 d2 ≠ 0) :
    (kF (jb (jz a1 a2 b1 b2 c1 c2 d1 d2) (cW a1 a2 b1 b2 c1 c2 d1 d2)) (h9 (cW a1 a2 b1 b2 c1 c2 d1 d2)) a1 b1 ∧ kF (jb (jA a1 a2 b1 b2 c1 c2 d1 d2) (cW a1 a2 b1 b2 c1 c2 d1 d2)) (h9 (cW a1 a2 b1 b2 c1 c2 d1 d2)) a2 b2) ↔ ¬ same (cf c1 c2 d1 d2 a1 a2) (cf c1 c2 d1 d2 b1 b2) := by
  have aC : cW c1 c2 d1 d2 a1 a2 b1 b2 ≠ 0 := by rw [ED]; omega
  have := Qt aC;rw [Ok, Ol, ED, qE h, qE h, zR] at this;exact this
theorem V0 {a1 a2 b1 b2 c1 c2 d1 d2 : Int} (h : cW a1 a2 b1 b2 c1 c2 d1 d2 ≠ 0) :
    four a1 a2 b1 b2 c1 c2 d1 d2 (jb (jz a1 a2 b1 b2 c1 c2 d1 d2) (cW a1 a2 b1 b2 c1 c2 d1 d2)) (jb (jA a1 a2 b1 b2 c1 c2 d1 d2) (cW a1 a2 b1 b2 c1 c2 d1 d2)) (h9 (cW a1 a2 b1 b2 c1 c2 d1 d2)) ↔ ¬ (same (cf a1 a2 b1 b2 c1 c2) (cf a1 a2 b1 b2 d1 d2) ∨ same (cf c1 c2 d1 d2 a1 a2) (cf c1 c2 d1 d2 b1 b2)) := by
  unfold four;have p := Qt h;have q := aer h
  constructor
  · rintro ⟨h1, h2, ap, aL⟩ (g | g)
    · exact p.1 ⟨ap, aL⟩ g
    · exact q.1 ⟨h1, h2⟩ g
  · intro g
    obtain ⟨ap, aL⟩ := p.2 fun k => g (.inl k);obtain ⟨h1, h2⟩ := q.2 fun k => g (.inr k);exact ⟨h1, h2, ap, aL⟩
def eB (a1 a2 b1 b2 : Int) : Int := if dl a1 a2 b1 b2 then a1 else b1
def ef (a1 a2 b1 b2 : Int) : Int := if dl a1 a2 b1 b2 then a2 else b2
def en (a1 a2 b1 b2 : Int) : Int := if dl a1 a2 b1 b2 then b1 else a1
def dO (a1 a2 b1 b2 : Int) : Int := if dl a1 a2 b1 b2 then b2 else a2
theorem mH (a1 a2 b1 b2 : Int) : (eB a1 a2 b1 b2 = a1 ∧ ef a1 a2 b1 b2 = a2 ∧ en a1 a2 b1 b2 = b1 ∧ dO a1 a2 b1 b2 = b2 ∧ dl a1 a2 b1 b2) ∨ (eB a1 a2 b1 b2 = b1 ∧ ef a1 a2 b1 b2 = b2 ∧ en a1 a2 b1 b2 = a1 ∧ dO a1 a2 b1 b2 = a2 ∧ dl b1 b2 a1 a2) := by
  unfold eB ef en dO
  by_cases h : dl a1 a2 b1 b2
  · simp [h]
  · simp [h, (dl.total a1 a2 b1 b2).resolve_left h]
theorem w5 (a1 a2 b1 b2 : Int) : dl (eB a1 a2 b1 b2) (ef a1 a2 b1 b2) (en a1 a2 b1 b2) (dO a1 a2 b1 b2) := by
  rcases mH a1 a2 b1 b2 with ⟨h1, h2, ap, aL, h⟩ | ⟨h1, h2, ap, aL, h⟩ <;> rw [h1, h2, ap, aL] <;> exact h
theorem NL (a1 a2 b1 b2 : Int) : eB b1 b2 a1 a2 = eB a1 a2 b1 b2 ∧ ef b1 b2 a1 a2 = ef a1 a2 b1 b2 ∧ en b1 b2 a1 a2 = en a1 a2 b1 b2 ∧ dO b1 b2 a1 a2 = dO a1 a2 b1 b2 := by
  rcases mH a1 a2 b1 b2 with ⟨h1, h2, ap, aL, h⟩ | ⟨h1, h2, ap, aL, h⟩ <;> rcases mH b1 b2 a1 a2 with ⟨bA, b9, hr, iZ, k⟩ | ⟨bA, b9, hr, iZ, k⟩ <;> rw [h1, h2, ap, aL, bA, b9, hr, iZ] <;> (try have := dl.Br h k) <;> simp_all
theorem zS {p1 p2 a1 a2 b1 b2 : Int} : dj p1 p2 b1 b2 a1 a2 ↔ dj p1 p2 a1 a2 b1 b2 := by
  unfold dj r5;have e : cf b1 b2 a1 a2 p1 p2 = - cf a1 a2 b1 b2 p1 p2 := by unfold cf; grind
  have m : ∀ x y : Int, gE x y = gE y x := fun x y => by unfold gE; split <;> split <;> omega
  have n : ∀ x y : Int, gD x y = gD y x := fun x y => by unfold gD; split <;> split <;> omega
  rw [e, m a1, m a2, n a1, n a2]
  constructor <;> rintro ⟨h, k⟩ <;> exact ⟨by omega, k⟩
instance (p1 p2 a1 a2 b1 b2 : Int) : Decidable (r5 p1 p2 a1 a2 b1 b2) := by unfold r5; exact inferInstance
instance (p1 p2 a1 a2 b1 b2 : Int) : Decidable (dj p1 p2 a1 a2 b1 b2) := by unfold dj; exact inferInstance
theorem zU {p1 p2 a1 a2 b1 b2 : Int} : dj p1 p2 (eB a1 a2 b1 b2) (ef a1 a2 b1 b2) (en a1 a2 b1 b2) (dO a1 a2 b1 b2) ↔ dj p1 p2 a1 a2 b1 b2 := by
  rcases mH a1 a2 b1 b2 with ⟨h1, h2, ap, aL, h⟩ | ⟨h1, h2, ap, aL, h⟩ <;> rw [h1, h2, ap, aL];exact zS
theorem acT {s1 s2 bO bT t1 t2 t3 t4 : Int} : oG t1 t2 t3 t4 s1 s2 bO bT = - oG s1 s2 bO bT t1 t2 t3 t4 := by unfold oG; grind
theorem NM {s1 s2 bO bT t1 t2 t3 t4 p1 p2 : Int} (hs : dl s1 s2 bO bT) (aE : dl t1 t2 t3 t4) (hw : oG s1 s2 bO bT t1 t2 t3 t4 = 0) (ps : dj p1 p2 s1 s2 bO bT) (oI : dj p1 p2 t1 t2 t3 t4) :
    dj (en s1 s2 t1 t2) (dO s1 s2 t1 t2) s1 s2 bO bT ∧ dj (en s1 s2 t1 t2) (dO s1 s2 t1 t2) t1 t2 t3 t4 ∧ dj (eB bO bT t3 t4) (ef bO bT t3 t4) s1 s2 bO bT ∧ dj (eB bO bT t3 t4) (ef bO bT t3 t4) t1 t2 t3 t4
    ∧ dl (en s1 s2 t1 t2) (dO s1 s2 t1 t2) p1 p2 ∧ dl p1 p2 (eB bO bT t3 t4) (ef bO bT t3 t4) := by
  obtain ⟨_, eF, xx⟩ := (vk hs).1 ps;obtain ⟨_, t0, t9⟩ := (vk aE).1 oI;have oi : oG t1 t2 t3 t4 s1 s2 bO bT = 0 := by rw [acT]; omega
  rcases mH s1 s2 t1 t2 with ⟨_, _, ap, aL, h⟩ | ⟨_, _, ap, aL, h⟩ <;> rcases mH bO bT t3 t4 with ⟨bA, b9, _, _, k⟩ | ⟨bA, b9, _, _, k⟩ <;> rw [ap, aL, bA, b9]
  · exact ⟨tT aE hs oi oI ps (tR aE) h (t0.trans xx), tR aE, tQ hs, tT hs aE hw ps oI (tQ hs) (t0.trans xx) k, t0, xx⟩
  · exact ⟨tT aE hs oi oI ps (tR aE) h (t0.trans xx), tR aE, tT aE hs oi oI ps (tQ aE) (eF.trans t9) k, tQ aE, t0, t9⟩
  · exact ⟨tR hs, tT hs aE hw ps oI (tR hs) h (eF.trans t9), tQ hs, tT hs aE hw ps oI (tQ hs) (t0.trans xx) k, eF, xx⟩
  · exact ⟨tR hs, tT hs aE hw ps oI (tR hs) h (eF.trans t9), tT aE hs oi oI ps (tQ aE) (eF.trans t9) k, tQ aE, eF, t9⟩
def u4 (f1 f2 g1 g2 : Int) : fz := if f1 = g1 ∧ f2 = g2 then iK f1 1 f2 1 else sT f1 f2 g1 g2
def inl (s1 s2 bO bT t1 t2 t3 t4 : Int) : fz :=
  if dj (en s1 s2 t1 t2) (dO s1 s2 t1 t2) s1 s2 bO bT ∧ dj (en s1 s2 t1 t2) (dO s1 s2 t1 t2) t1 t2 t3 t4 then u4 (en s1 s2 t1 t2) (dO s1 s2 t1 t2) (eB bO bT t3 t4) (ef bO bT t3 t4) else ht
def u5 (a1 a2 b1 b2 c1 c2 d1 d2 : Int) : fz := inl (eB a1 a2 b1 b2) (ef a1 a2 b1 b2) (en a1 a2 b1 b2) (dO a1 a2 b1 b2) (eB c1 c2 d1 d2) (ef c1 c2 d1 d2) (en c1 c2 d1 d2) (dO c1 c2 d1 d2)
def hO (a1 a2 b1 b2 c1 c2 d1 d2 : Int) : fz := if cW a1 a2 b1 b2 c1 c2 d1 d2 = 0 then u5 a1 a2 b1 b2 c1 c2 d1 d2 else mi a1 a2 b1 b2 c1 c2 d1 d2
theorem N2 (a1 a2 b1 b2 c1 c2 d1 d2 : Int) : hO b1 b2 a1 a2 c1 c2 d1 d2 = hO a1 a2 b1 b2 c1 c2 d1 d2 := by
  unfold hO;obtain ⟨h1, h2, ap, aL⟩ := NL a1 a2 b1 b2
  by_cases h : cW a1 a2 b1 b2 c1 c2 d1 d2 = 0
  · rw [if_pos (by rw [EC]; omega), if_pos h]; unfold u5; rw [h1, h2, ap, aL]
  · rw [if_neg (by rw [EC]; omega), if_neg h, aav h]
theorem N3 (a1 a2 b1 b2 c1 c2 d1 d2 : Int) : hO a1 a2 b1 b2 d1 d2 c1 c2 = hO a1 a2 b1 b2 c1 c2 d1 d2 := by
  unfold hO;obtain ⟨h1, h2, ap, aL⟩ := NL c1 c2 d1 d2
  by_cases h : cW a1 a2 b1 b2 c1 c2 d1 d2 = 0
  · rw [if_pos (by rw [Ay]; omega), if_pos h]; unfold u5; rw [h1, h2, ap, aL]
  · rw [if_neg (by rw [Ay]; omega), if_neg h, aaw h]
theorem aaz (a1 a2 b1 b2 c1 c2 d1 d2 : Int) : hO (eB a1 a2 b1 b2) (ef a1 a2 b1 b2) (en a1 a2 b1 b2) (dO a1 a2 b1 b2) (eB c1 c2 d1 d2) (ef c1 c2 d1 d2) (en c1 c2 d1 d2) (dO c1 c2 d1 d2) = hO a1 a2 b1 b2 c1 c2 d1 d2 := by
  rcases mH a1 a2 b1 b2 with ⟨h1, h2, ap, aL, _⟩ | ⟨h1, h2, ap, aL, _⟩ <;> rcases mH c1 c2 d1 d2 with ⟨bA, b9, hr, iZ, _⟩ | ⟨bA, b9, hr, iZ, _⟩ <;> rw [h1, h2, ap, aL, bA, b9, hr, iZ]
  · rw [N3]
  · rw [N2]
  · rw [N2, N3]
def HQ (s1 s2 bO bT t1 t2 t3 t4 A B C D : Int) : fz :=
  if A = B then inl s1 s2 bO bT t1 t2 t3 t4
  else if same A B ∨ same C D then ht
  else iK (jb (t3 * A - t1 * B) (A - B)) (h9 (A - B)) (jb (t4 * A - t2 * B) (A - B)) (h9 (A - B))
theorem NW {s1 s2 bO bT : Int} (h : dl s1 s2 bO bT) : eB s1 s2 bO bT = s1 ∧ ef s1 s2 bO bT = s2 ∧ en s1 s2 bO bT = bO ∧ dO s1 s2 bO bT = bT := by
  unfold eB ef en dO; simp [h]
theorem aay {s1 s2 bO bT t1 t2 t3 t4 : Int} (hs : dl s1 s2 bO bT) (aE : dl t1 t2 t3 t4) :
    HQ s1 s2 bO bT t1 t2 t3 t4 (cf s1 s2 bO bT t1 t2) (cf s1 s2 bO bT t3 t4) (cf t1 t2 t3 t4 s1 s2) (cf t1 t2 t3 t4 bO bT) = hO s1 s2 bO bT t1 t2 t3 t4 := by
  have aI := H6 s1 s2 bO bT t1 t2 t3 t4;have aN := H7 s1 s2 bO bT t1 t2 t3 t4;have cC := I5 s1 s2 bO bT t1 t2 t3 t4;unfold HQ hO
  by_cases h : cW s1 s2 bO bT t1 t2 t3 t4 = 0
  · rw [if_pos (by omega), if_pos h]
    unfold u5;obtain ⟨h1, h2, ap, aL⟩ := NW hs;obtain ⟨bA, b9, hr, iZ⟩ := NW aE;rw [h1, h2, ap, aL, bA, b9, hr, iZ]
  · rw [if_neg (by omega), if_neg h]
    have f := V0 h;have g1 : t3 * cf s1 s2 bO bT t1 t2 - t1 * cf s1 s2 bO bT t3 t4 = - jz s1 s2 bO bT t1 t2 t3 t4 := by omega
    have g2 : t4 * cf s1 s2 bO bT t1 t2 - t2 * cf s1 s2 bO bT t3 t4 = - jA s1 s2 bO bT t1 t2 t3 t4 := by omega
    have g3 : cf s1 s2 bO bT t1 t2 - cf s1 s2 bO bT t3 t4 = - cW s1 s2 bO bT t1 t2 t3 t4 := by omega
    rw [g1, g2, g3, qE h, qE h, zR];unfold mi tJ
    by_cases q : same (cf s1 s2 bO bT t1 t2) (cf s1 s2 bO bT t3 t4) ∨ same (cf t1 t2 t3 t4 s1 s2) (cf t1 t2 t3 t4 bO bT)
    · rw [if_pos q, if_neg fun k => f.1 k q]
    · rw [if_neg q, if_pos (f.2 q)]
structure hl where
 n : Int
 d : Int
 own : Bool
structure Pa where
 f : hl
 t : hl
def gT (x y : hl) : Int := fJ (x.n * y.d) (y.n * x.d)
def qA (x y : hl) : hl := if 0 < gT x y ∨ (gT x y = 0 ∧ y.own = true) then x else y
def qh (x y : hl) : hl := if gT x y < 0 ∨ (gT x y = 0 ∧ y.own = true) then x else y
def nx (p : Pa) (u v : Int) (own : Bool) : Pa :=
 if 0 < v - u then ⟨qA p.f ⟨-u, v - u, own⟩, p.t⟩
 else if v - u < 0 then ⟨p.f, qh p.t ⟨u, -(v - u), own⟩⟩
 else if u < 0 ∨ (u = 0 ∧ own = false) then ⟨⟨1, 1, false⟩, ⟨0, 1, false⟩⟩ else p
def v7 (p : Pa) : Bool := decide (gT p.f p.t < 0) || (decide (gT p.f p.t = 0) && p.f.own && p.t.own)
def uy : Pa := ⟨⟨0, 1, true⟩, ⟨1, 1, true⟩⟩
theorem YR (x y : Int) : fJ x y < 0 ↔ x < y := by unfold fJ; split <;> (try split) <;> omega
theorem YQ (x y : Int) : 0 < fJ x y ↔ y < x := by unfold fJ; split <;> (try split) <;> omega
theorem YP (x y : Int) : fJ x y = 0 ↔ x = y := by unfold fJ; split <;> (try split) <;> omega
def pX (x : hl) (n d : Int) : Prop := x.n * d < n * x.d ∨ (x.own = true ∧ x.n * d = n * x.d)
def pZ (y : hl) (n d : Int) : Prop := n * y.d < y.n * d ∨ (y.own = true ∧ n * y.d = y.n * d)
def oW (p : Pa) (n d : Int) : Prop := pX p.f n d ∧ pZ p.t n d
theorem oy {a b c : Int} (h : a < b) (ak : 0 < c) : a * c < b * c := Int.mul_lt_mul_of_pos_right h ak
theorem lt_mul {a b c : Int} (h : a * c < b * c) (ak : 0 < c) : a < b := Int.lt_of_mul_lt_mul_right h (by omega)
theorem eq_mul {a b c : Int} (h : a * c = b * c) (ak : 0 < c) : a = b := Int.eq_of_mul_eq_mul_right (by omega) h
theorem uL {a b c d e f : Int} (ab : 0 < b) (hd : 0 < d) (au : 0 < f) (h : a * d < c * b) (k : c * f < e * d) : a * f < e * b := by
 have h1 := oy h au;have h2 := oy k ab;refine lt_mul (c := d) ?_ hd;have aI : a * d * f = a * f * d := by grind
 have aN : c * b * f = c * f * b := by grind
 have cC : e * d * b = e * b * d := by grind
 omega
theorem wC {a b c d e f : Int} (ab : 0 < b) (hd : 0 < d) (au : 0 < f) (h : a * d = c * b) (k : c * f < e * d) : a * f < e * b := by
 have h2 := oy k ab;refine lt_mul (c := d) ?_ hd;have aI : a * d * f = a * f * d := by grind
 have aN : c * b * f = c * f * b := by grind
 have cC : e * d * b = e * b * d := by grind
 have h1 : a * d * f = c * b * f := by rw [h]
 omega
theorem wD {a b c d e f : Int} (ab : 0 < b) (hd : 0 < d) (au : 0 < f) (h : a * d < c * b) (k : c * f = e * d) : a * f < e * b := by
 have h1 := oy h au;refine lt_mul (c := d) ?_ hd;have aI : a * d * f = a * f * d := by grind
 have aN : c * b * f = c * f * b := by grind
 have cC : e * d * b = e * b * d := by grind
 have h2 : c * f * b = e * d * b := by rw [k]
 omega
theorem F4 {a b c d e f : Int} (ab : 0 < b) (hd : 0 < d) (au : 0 < f) (h : a * d = c * b) (k : c * f = e * d) : a * f = e * b := by
 refine eq_mul (c := d) ?_ hd;have aI : a * d * f = a * f * d := by grind
 have aN : c * b * f = c * f * b := by grind
 have cC : e * d * b = e * b * d := by grind
 have h1 : a * d * f = c * b * f := by rw [h]
 have h2 : c * f * b = e * d * b := by rw [k]
 omega
theorem BM (x y : hl) : (x.n * y.d < y.n * x.d ∧ gT x y < 0) ∨ (x.n * y.d = y.n * x.d ∧ gT x y = 0) ∨ (y.n * x.d < x.n * y.d ∧ 0 < gT x y) := by
 have h1 := YR (x.n * y.d) (y.n * x.d);have h2 := YQ (x.n * y.d) (y.n * x.d);have ap := YP (x.n * y.d) (y.n * x.d);unfold gT;omega
theorem NF (x y : hl) : (qA x y = x ∧ (0 < gT x y ∨ (gT x y = 0 ∧ y.own = true))) ∨ (qA x y = y ∧ ¬ (0 < gT x y ∨ (gT x y = 0 ∧ y.own = true))) := by
 unfold qA
 split
 ·rename_i h; exact .inl ⟨rfl, h⟩
 ·rename_i h; exact .inr ⟨rfl, h⟩
theorem K8 (x y : hl) : (qh x y = x ∧ (gT x y < 0 ∨ (gT x y = 0 ∧ y.own = true))) ∨ (qh x y = y ∧ ¬ (gT x y < 0 ∨ (gT x y = 0 ∧ y.own = true))) := by
 unfold qh
 split
 ·rename_i h; exact .inl ⟨rfl, h⟩
 ·rename_i h; exact .inr ⟨rfl, h⟩
theorem SN {x y : hl} {n d : Int} (aa : 0 < x.d) (ag : 0 < y.d) (hd : 0 < d) : pX (qA x y) n d ↔ pX x n d ∧ pX y n d := by
 unfold pX;rcases NF x y with ⟨e, h⟩ | ⟨e, h⟩ <;> rw [e] <;> rcases BM x y with ⟨t, c⟩ | ⟨t, c⟩ | ⟨t, c⟩
 ·omega
 ·have ax : y.own = true := by rcases h with h | ⟨_, h⟩ <;> first | exact h | (exfalso; omega)
  refine ⟨fun k => ⟨k, ?_⟩, fun k => k.1⟩;rcases k with k | ⟨_, k⟩
  ·exact .inl (wC ag aa hd t.symm k)
  ·exact .inr ⟨ax, F4 ag aa hd t.symm k⟩
 ·refine ⟨fun k => ⟨k, ?_⟩, fun k => k.1⟩;rcases k with k | ⟨_, k⟩
  ·exact .inl (uL ag aa hd t k)
  ·exact .inl (wD ag aa hd t k)
 ·refine ⟨fun k => ⟨?_, k⟩, fun k => k.2⟩;rcases k with k | ⟨_, k⟩
  ·exact .inl (uL aa ag hd t k)
  ·exact .inl (wD aa ag hd t k)
 ·refine ⟨fun k => ⟨?_, k⟩, fun k => k.2⟩;have ax : ¬ y.own = true := fun q => h (.inr ⟨c, q⟩);rcases k with k | ⟨q, k⟩
  ·exact .inl (wC aa ag hd t k)
  ·exact absurd q ax
 ·omega
theorem TL {x y : hl} {n d : Int} (aa : 0 < x.d) (ag : 0 < y.d) (hd : 0 < d) : pZ (qh x y) n d ↔ pZ x n d ∧ pZ y n d := by
 unfold pZ;rcases K8 x y with ⟨e, h⟩ | ⟨e, h⟩ <;> rw [e] <;> rcases BM x y with ⟨t, c⟩ | ⟨t, c⟩ | ⟨t, c⟩
 ·refine ⟨fun k => ⟨k, ?_⟩, fun k => k.1⟩;rcases k with k | ⟨_, k⟩
  ·exact .inl (uL hd aa ag k t)
  ·exact .inl (wC hd aa ag k t)
 ·have ax : y.own = true := by rcases h with h | ⟨_, h⟩ <;> first | exact h | (exfalso; omega)
  refine ⟨fun k => ⟨k, ?_⟩, fun k => k.1⟩;rcases k with k | ⟨_, k⟩
  ·exact .inl (wD hd aa ag k t)
  ·exact .inr ⟨ax, F4 hd aa ag k t⟩
 ·omega
 ·omega
 ·refine ⟨fun k => ⟨?_, k⟩, fun k => k.2⟩;have ax : ¬ y.own = true := fun q => h (.inr ⟨c, q⟩);rcases k with k | ⟨q, k⟩
  ·exact .inl (wD hd ag aa k t.symm)
  ·exact absurd q ax
 ·refine ⟨fun k => ⟨?_, k⟩, fun k => k.2⟩;rcases k with k | ⟨_, k⟩
  ·exact .inl (uL hd ag aa k t)
  ·exact .inl (wC hd ag aa k t)
def jl (u v : Int) (own : Bool) (n d : Int) : Prop := 0 < u * (d - n) + v * n ∨ (own = true ∧ u * (d - n) + v * n = 0)
theorem Da {p : Pa} {u v n d : Int} {own : Bool} (au : 0 < p.f.d) (aE : 0 < p.t.d) (hd : 0 < d) : oW (nx p u v own) n d ↔ oW p n d ∧ jl u v own n d := by
 have dp : u * (d - n) + v * n = (v - u) * n + u * d := by grind
 unfold nx
 by_cases h1 : 0 < v - u
 ·rw [if_pos h1];unfold oW;rw [SN au h1 hd]
  have : pX ⟨-u, v - u, own⟩ n d ↔ jl u v own n d := by
   unfold pX jl;simp only;have aI : -u * d = -(u * d) := by grind
   have aN : n * (v - u) = (v - u) * n := by grind
   rw [dp, aI, aN]
   constructor
   ·rintro (k | ⟨k, l⟩)
    ·exact .inl (by omega)
    ·exact .inr ⟨k, by omega⟩
   ·rintro (k | ⟨k, l⟩)
    ·exact .inl (by omega)
    ·exact .inr ⟨k, by omega⟩
  rw [this]
  constructor
  ·rintro ⟨⟨a, b⟩, c⟩; exact ⟨⟨a, c⟩, b⟩
  ·rintro ⟨⟨a, c⟩, b⟩; exact ⟨⟨a, b⟩, c⟩
 ·rw [if_neg h1]
  by_cases h2 : v - u < 0
  ·rw [if_pos h2];unfold oW;have al : (0 : Int) < -(v - u) := by omega
   rw [TL aE al hd]
   have : pZ ⟨u, -(v - u), own⟩ n d ↔ jl u v own n d := by
    unfold pZ jl;simp only;have aN : n * -(v - u) = -((v - u) * n) := by grind
    rw [dp, aN]
    constructor
    ·rintro (k | ⟨k, l⟩)
     ·exact .inl (by omega)
     ·exact .inr ⟨k, by omega⟩
    ·rintro (k | ⟨k, l⟩)
     ·exact .inl (by omega)
     ·exact .inr ⟨k, by omega⟩
   rw [this]
   constructor
   ·rintro ⟨a, b, c⟩; exact ⟨⟨a, b⟩, c⟩
   ·rintro ⟨⟨a, b⟩, c⟩; exact ⟨a, b, c⟩
  ·rw [if_neg h2];have cC : v - u = 0 := by omega
   have eH : u * (d - n) + v * n = u * d := by rw [dp, cC]; omega
   by_cases ap : u < 0 ∨ (u = 0 ∧ own = false)
   ·rw [if_pos ap]
    have js : ¬ jl u v own n d := by
     unfold jl;rw [eH];rcases ap with ap | ⟨rfl, rfl⟩
     ·have := oy ap hd;omega
     ·simp
    refine ⟨fun k => absurd k ?_, fun k => absurd k.2 js⟩;unfold oW pX pZ;simp;omega
   ·rw [if_neg ap]
    have YL : jl u v own n d := by
     unfold jl;rw [eH]
     by_cases aL : u = 0
     ·subst aL;right;refine ⟨?_, by simp⟩;cases own with
      | true => rfl
      | false => exact absurd (.inr ⟨rfl, rfl⟩) ap
     ·left;have : 0 < u := by omega
      have := oy this hd;omega
    exact ⟨fun k => ⟨k, YL⟩, fun k => k.1⟩
theorem ZR {x y : hl} (aa : 0 < x.d) (ag : 0 < y.d) : 0 < (qA x y).d := by unfold qA; split <;> assumption
theorem Vh {x y : hl} (aa : 0 < x.d) (ag : 0 < y.d) : 0 < (qh x y).d := by unfold qh; split <;> assumption
theorem vb {p : Pa} {u v : Int} {own : Bool} (au : 0 < p.f.d) (aE : 0 < p.t.d) : 0 < (nx p u v own).f.d ∧ 0 < (nx p u v own).t.d := by
 unfold nx
 by_cases h1 : 0 < v - u
 ·rw [if_pos h1]; exact ⟨ZR au h1, aE⟩
 ·rw [if_neg h1]
  by_cases h2 : v - u < 0
  ·rw [if_pos h2]; exact ⟨au, Vh aE (by simp only; omega)⟩
  ·rw [if_neg h2]
   split
   ·exact ⟨by decide, by decide⟩
   ·exact ⟨au, aE⟩
def Oa (x y : hl) : Int := x.n * y.d + y.n * x.d
def HR (x y : hl) : Int := x.d * y.d + x.d * y.d
theorem aaE {p : Pa} (au : 0 < p.f.d) (aE : 0 < p.t.d) (h : p.f.n * p.t.d < p.t.n * p.f.d) : 0 < HR p.f p.t ∧ oW p (Oa p.f p.t) (HR p.f p.t) := by
 unfold Oa HR oW pX pZ;have hm : 0 < p.f.d * p.t.d := Int.mul_pos au aE;refine ⟨by omega, .inl ?_, .inl ?_⟩
 ·have := oy h au;grind
 ·have := oy h aE;grind
theorem TA {p : Pa} (au : 0 < p.f.d) (aE : 0 < p.t.d) : v7 p = true ↔ ∃ n d, 0 < d ∧ oW p n d := by
 unfold v7;simp only [qM, dQ, cB]
 constructor
 ·intro h;rcases BM p.f p.t with ⟨t, c⟩ | ⟨t, c⟩ | ⟨t, c⟩
  ·obtain ⟨h1, h2⟩ := aaE au aE t;exact ⟨_, _, h1, h2⟩
  ·rcases h with h | ⟨⟨_, h1⟩, h2⟩
   ·omega
   ·exact ⟨p.f.n, p.f.d, au, .inr ⟨h1, rfl⟩, .inr ⟨h2, t⟩⟩
  ·rcases h with h | ⟨⟨h, _⟩, _⟩ <;> omega
 ·rintro ⟨n, d, hd, h1, h2⟩;rcases BM p.f p.t with ⟨t, c⟩ | ⟨t, c⟩ | ⟨t, c⟩
  ·exact .inl c
  ·right;refine ⟨⟨c, ?_⟩, ?_⟩
   ·rcases h1 with h1 | ⟨h1, _⟩
    ·exfalso;rcases h2 with h2 | ⟨_, h2⟩
     ·have := uL au hd aE h1 h2; omega
     ·have := wD au hd aE h1 h2; omega
    ·exact h1
   ·rcases h2 with h2 | ⟨h2, _⟩
    ·exfalso;rcases h1 with h1 | ⟨_, h1⟩
     ·have := uL au hd aE h1 h2; omega
     ·have := wC au hd aE h1 h2; omega
    ·exact h2
  ·exfalso;rcases h1 with h1 | ⟨_, h1⟩ <;> rcases h2 with h2 | ⟨_, h2⟩
   ·have := uL au hd aE h1 h2; omega
   ·have := wD au hd aE h1 h2; omega
   ·have := wC au hd aE h1 h2; omega
   ·have := F4 au hd aE h1 h2; omega
def s6 (cE v1 cF v2 jj v3 kZ v4 : Int) (o p : Bool) : Pa := nx (nx (nx (nx uy cE v1 o) cF v2 o) jj v3 p) kZ v4 p
theorem Uz (cE v1 cF v2 jj v3 kZ v4 : Int) (o p : Bool) : 0 < (s6 cE v1 cF v2 jj v3 kZ v4 o p).f.d ∧ 0 < (s6 cE v1 cF v2 jj v3 kZ v4 o p).t.d := by
 unfold s6;have h1 := vb (p := uy) (u := cE) (v := v1) (own := o) (by decide) (by decide);have h2 := vb (u := cF) (v := v2) (own := o) h1.1 h1.2;have ap := vb (u := jj) (v := v3) (own := p) h2.1 h2.2;exact vb (u := kZ) (v := v4) (own := p) ap.1 ap.2
theorem Tf {n d : Int} (hd : 0 < d) : oW uy n d ↔ 0 ≤ n ∧ n ≤ d := by
 unfold oW pX pZ uy;simp;omega
theorem KQ {cE v1 cF v2 jj v3 kZ v4 n d : Int} {o p : Bool} (hd : 0 < d) : oW (s6 cE v1 cF v2 jj v3 kZ v4 o p) n d ↔ (0 ≤ n ∧ n ≤ d) ∧ jl cE v1 o n d ∧ jl cF v2 o n d ∧ jl jj v3 p n d ∧ jl kZ v4 p n d := by
 unfold s6;have h1 := vb (p := uy) (u := cE) (v := v1) (own := o) (by decide) (by decide);have h2 := vb (u := cF) (v := v2) (own := o) h1.1 h1.2;have ap := vb (u := jj) (v := v3) (own := p) h2.1 h2.2;rw [Da ap.1 ap.2 hd, Da h2.1 h2.2 hd, Da h1.1 h1.2 hd, Da (by decide) (by decide) hd, Tf hd];simp only [and_assoc]
def Met (cE v1 cF v2 jj v3 kZ v4 : Int) (o p : Bool) : Prop := ∃ n d, 0 < d ∧ (0 ≤ n ∧ n ≤ d) ∧ jl cE v1 o n d ∧ jl cF v2 o n d ∧ jl jj v3 p n d ∧ jl kZ v4 p n d
theorem Uy (cE v1 cF v2 jj v3 kZ v4 : Int) (o p : Bool) : v7 (s6 cE v1 cF v2 jj v3 kZ v4 o p) = true ↔ Met cE v1 cF v2 jj v3 kZ v4 o p := by
 obtain ⟨h1, h2⟩ := Uz cE v1 cF v2 jj v3 kZ v4 o p;rw [TA h1 h2]
 constructor
 ·rintro ⟨n, d, hd, h⟩; exact ⟨n, d, hd, (KQ hd).1 h⟩
 ·rintro ⟨n, d, hd, h⟩; exact ⟨n, d, hd, (KQ hd).2 h⟩
def vM (X Y W a1 a2 b1 b2 : Int) : Prop := ∃ n d, 0 < d ∧ (0 ≤ n ∧ n ≤ d) ∧ X * d = W * (a1 * (d - n) + b1 * n) ∧ Y * d = W * (a2 * (d - n) + b2 * n)
theorem OZ {p1 p2 a1 a2 b1 b2 : Int} (h : dj p1 p2 a1 a2 b1 b2) : vM p1 p2 1 a1 a2 b1 b2 := by
 obtain ⟨aG, h1, h2, ap, aL⟩ := h;unfold cf at aG;unfold gE at h1 ap;unfold gD at h2 aL;rcases Int.lt_trichotomy a1 b1 with g | g | g
 ·rw [if_neg (by omega)] at h1; rw [if_pos (show b1 > a1 from g)] at h2;exact ⟨p1 - a1, b1 - a1, by omega, by omega, by grind, by grind⟩
 ·subst g;rcases Int.lt_trichotomy a2 b2 with g | g | g
  ·rw [if_neg (by omega)] at ap; rw [if_pos (show b2 > a2 from g)] at aL;have : p1 = a1 := by split at h1 <;> split at h2 <;> omega
   exact ⟨p2 - a2, b2 - a2, by omega, by omega, by grind, by grind⟩
  ·subst g;have aI : p1 = a1 := by split at h1 <;> split at h2 <;> omega
   have aN : p2 = a2 := by split at ap <;> split at aL <;> omega
   exact ⟨0, 1, by omega, by omega, by grind, by grind⟩
  ·rw [if_pos g] at ap; rw [if_neg (by omega)] at aL;have : p1 = a1 := by split at h1 <;> split at h2 <;> omega
   exact ⟨a2 - p2, a2 - b2, by omega, by omega, by grind, by grind⟩
 ·rw [if_pos g] at h1; rw [if_neg (by omega)] at h2;exact ⟨a1 - p1, a1 - b1, by omega, by omega, by grind, by grind⟩
theorem IL {v W : Int} (eT : 0 < W) (h : 0 ≤ v * W) : 0 ≤ v := by
 refine Int.not_lt.1 fun bi => ?_;have := Int.mul_lt_mul_of_pos_right bi eT;omega
theorem aei {v W : Int} (eT : 0 < W) (h : 0 < v * W) : 0 < v := by
 refine Int.not_le.1 fun hle => ?_;have := pI hle (show 0 ≤ W by omega);omega
theorem PH {X Y W a1 a2 b1 b2 l1 l2 h1 h2 : Int} (eT : 0 < W) (h : vM X Y W a1 a2 b1 b2) (g1 : l1 * W ≤ 2 * X) (g2 : l2 * W ≤ 2 * Y) (g3 : 2 * X < h1 * W) (g4 : 2 * Y < h2 * W) :
  Met (2 * a1 - l1) (2 * b1 - l1) (2 * a2 - l2) (2 * b2 - l2) (h1 - 2 * a1) (h1 - 2 * b1) (h2 - 2 * a2) (h2 - 2 * b2) true false := by
 obtain ⟨n, d, hd, aF, aI, aN⟩ := h
 have low : ∀ {X a b l : Int}, X * d = W * (a * (d - n) + b * n) → l * W ≤ 2 * X → jl (2 * a - l) (2 * b - l) true n d := fun {X a b l} e g => by
  have k := iM (show 0 ≤ d by omega) (show 0 ≤ 2 * X - l * W by omega);have bu : ((2 * a - l) * (d - n) + (2 * b - l) * n) * W = d * (2 * X - l * W) := by grind
  rw [← bu] at k;rcases Int.lt_or_eq_of_le (IL eT k) with h | h
  ·exact .inl h
  ·exact .inr ⟨rfl, h.symm⟩
 have high : ∀ {X a b l : Int}, X * d = W * (a * (d - n) + b * n) → 2 * X < l * W → jl (l - 2 * a) (l - 2 * b) false n d := fun {X a b l} e g => by
  have k := Int.mul_pos hd (show 0 < l * W - 2 * X by omega);have bu : ((l - 2 * a) * (d - n) + (l - 2 * b) * n) * W = d * (l * W - 2 * X) := by grind
  rw [← bu] at k;exact .inl (aei eT k)
 exact ⟨n, d, hd, aF, low aI g1, low aN g2, high aI g3, high aN g4⟩
theorem PG {X Y W a1 a2 b1 b2 : Int} (h : vM X Y W a1 a2 b1 b2) : (b1 - a1) * (Y - a2 * W) = (b2 - a2) * (X - a1 * W) := by
 obtain ⟨n, d, hd, aF, aI, aN⟩ := h;have : d * ((b1 - a1) * (Y - a2 * W) - (b2 - a2) * (X - a1 * W)) = 0 := by grind
 rcases sr.1 this with h | h
 ·omega
 ·omega
theorem N1 {a1 a2 b1 b2 c1 c2 d1 d2 X Y W W' : Int} (h : cW a1 a2 b1 b2 c1 c2 d1 d2 ≠ 0) (e : mi a1 a2 b1 b2 c1 c2 d1 d2 = iK X W Y W') : W' = W ∧ 0 < W ∧ vM X Y W c1 c2 d1 d2 := by
 obtain ⟨_, cn⟩ := QV h;unfold mi tJ at e
 split at e
 ·rename_i aL;obtain ⟨_, _, bA, b9⟩ := aL;have aI := congrArg fz.n e;have aN := congrArg fz.d e;have cC := congrArg fz.m e;have eH := congrArg fz.e e;simp only [iK] at aI aN cC eH;have Gv := H6 a1 a2 b1 b2 c1 c2 d1 d2;have L5 := H7 a1 a2 b1 b2 c1 c2 d1 d2;have hw := I5 a1 a2 b1 b2 c1 c2 d1 d2;rw [← aN, ← eH];refine ⟨rfl, OH h, ?_⟩;rw [rC] at bA b9;unfold jb at aI cC bA b9;unfold h9 at bA b9 ⊢
  by_cases hs : cW a1 a2 b1 b2 c1 c2 d1 d2 < 0
  ·rw [if_pos hs] at aI cC bA b9 ⊢;rw [if_pos hs] at bA b9
   have := (BB (x := d1) (y := c1) (u := d2) (v := c2) (A := -cf a1 a2 b1 b2 d1 d2) (B := -cf a1 a2 b1 b2 c1 c2) (D := -cW a1 a2 b1 b2 c1 c2 d1 d2) (by omega) (by omega) (by omega)).1 ⟨by
    rw [show c1 * -cf a1 a2 b1 b2 d1 d2 - d1 * -cf a1 a2 b1 b2 c1 c2 = -jz a1 a2 b1 b2 c1 c2 d1 d2 by grind]; exact bA, by
    rw [show c2 * -cf a1 a2 b1 b2 d1 d2 - d2 * -cf a1 a2 b1 b2 c1 c2 = -jA a1 a2 b1 b2 c1 c2 d1 d2 by grind]; exact b9⟩
   exact ⟨cf a1 a2 b1 b2 c1 c2, -cW a1 a2 b1 b2 c1 c2 d1 d2, by omega, by omega, by rw [← aI]; grind, by rw [← cC]; grind⟩
  ·rw [if_neg hs] at aI cC bA b9 ⊢;rw [if_neg hs] at bA b9
   have := (BB (x := d1) (y := c1) (u := d2) (v := c2) (A := cf a1 a2 b1 b2 d1 d2) (B := cf a1 a2 b1 b2 c1 c2) (D := cW a1 a2 b1 b2 c1 c2 d1 d2) (by omega) (by omega) (by omega)).1 ⟨by
    rw [Gv]; exact bA, by
    rw [L5]; exact b9⟩
   exact ⟨-cf a1 a2 b1 b2 c1 c2, cW a1 a2 b1 b2 c1 c2 d1 d2, by omega, by omega, by rw [← aI]; grind, by rw [← cC]; grind⟩
 ·have := congrArg fz.k e;simp [ht, iK] at this
theorem zH {a1 a2 b1 b2 c1 c2 d1 d2 X Y W W' : Int} (e : hO a1 a2 b1 b2 c1 c2 d1 d2 = iK X W Y W') : W' = W ∧ 0 < W ∧ vM X Y W a1 a2 b1 b2 ∧ vM X Y W c1 c2 d1 d2 ∧ (∀ p1 p2, dj p1 p2 a1 a2 b1 b2 → dj p1 p2 c1 c2 d1 d2 → X = p1 * W ∧ Y = p2 * W) := by
 unfold hO at e
 split at e
 ·rename_i hw;unfold u5 inl at e
  split at e
  ·rename_i ma;obtain ⟨o1, o2⟩ := ma;unfold u4 at e
   split at e
   ·rename_i wN;have aI := congrArg fz.n e;have aN := congrArg fz.d e;have cC := congrArg fz.m e;have eH := congrArg fz.e e;simp only [iK] at aI aN cC eH;subst aN; subst eH;rw [zU] at o1 o2;rw [aI, cC] at o1 o2;refine ⟨rfl, by decide, OZ o1, OZ o2, fun p1 p2 hp al => ?_⟩
    have Yc : oG (eB a1 a2 b1 b2) (ef a1 a2 b1 b2) (en a1 a2 b1 b2) (dO a1 a2 b1 b2) (eB c1 c2 d1 d2) (ef c1 c2 d1 d2) (en c1 c2 d1 d2) (dO c1 c2 d1 d2) = 0 := by
     rw [QW] at hw;rcases mH a1 a2 b1 b2 with ⟨h1, h2, ap, aL, _⟩ | ⟨h1, h2, ap, aL, _⟩ <;> rcases mH c1 c2 d1 d2 with ⟨bA, b9, hr, iZ, _⟩ | ⟨bA, b9, hr, iZ, _⟩ <;> rw [h1, h2, ap, aL, bA, b9, hr, iZ] <;> unfold oG at hw ⊢ <;> grind
    obtain ⟨_, _, _, _, l1, l2⟩ := NM (w5 a1 a2 b1 b2) (w5 c1 c2 d1 d2) Yc (zU.2 hp) (zU.2 al);rw [← wN.1, ← wN.2] at l2;have := dl.Br l1 l2;omega
   ·have := congrArg fz.k e;simp [sT, iK] at this
  ·have := congrArg fz.k e;simp [ht, iK] at this
 ·rename_i hw;obtain ⟨g1, g2, g3⟩ := N1 hw e;have oi : cW c1 c2 d1 d2 a1 a2 b1 b2 ≠ 0 := by rw [ED]; omega
  obtain ⟨_, _, g4⟩ := N1 oi (by rw [aax hw]; exact e);refine ⟨g1, g2, g4, g3, fun p1 p2 hp al => ?_⟩;have l1 := PG g4;have l2 := PG g3;have q1 := hp.1;have q2 := al.1;unfold cf at q1 q2
  have line : ∀ {a1 a2 b1 b2 : Int}, (b1 - a1) * (Y - a2 * W) = (b2 - a2) * (X - a1 * W) → (b1 - a1) * (p2 - a2) - (b2 - a2) * (p1 - a1) = 0 → (b1 - a1) * (Y - p2 * W) = (b2 - a2) * (X - p1 * W) := fun {a1 a2 b1 b2} l q => by
   have z : (b1 - a1) * (Y - p2 * W) - (b2 - a2) * (X - p1 * W) = ((b1 - a1) * (Y - a2 * W) - (b2 - a2) * (X - a1 * W)) - ((b1 - a1) * (p2 - a2) - (b2 - a2) * (p1 - a1)) * W := by grind
   rw [q, l, Int.zero_mul] at z;omega
  have m1 := line l1 q1;have m2 := line l2 q2
  have iP : cW a1 a2 b1 b2 c1 c2 d1 d2 * (X - p1 * W) = 0 := by
   have z : cW a1 a2 b1 b2 c1 c2 d1 d2 * (X - p1 * W) = (b1 - a1) * ((d2 - c2) * (X - p1 * W)) - (d1 - c1) * ((b2 - a2) * (X - p1 * W)) := by unfold cW; grind
   rw [z, ← m1, ← m2, Int.mul_left_comm];omega
  have z2 : cW a1 a2 b1 b2 c1 c2 d1 d2 * (Y - p2 * W) = 0 := by
   have z : cW a1 a2 b1 b2 c1 c2 d1 d2 * (Y - p2 * W) = (d2 - c2) * ((b1 - a1) * (Y - p2 * W)) - (b2 - a2) * ((d1 - c1) * (Y - p2 * W)) := by unfold cW; grind
   rw [z, m1, m2, Int.mul_left_comm];omega
  have lv := (sr.1 iP).resolve_left hw;have q3 := (sr.1 z2).resolve_left hw;omega
def xQ (S : Int) (p q x : Int × Int) : Prop := Met (2 * (S * p.1) - (2 * (S * x.1) - S)) (2 * (S * q.1) - (2 * (S * x.1) - S)) (2 * (S * p.2) - (2 * (S * x.2) - S)) (2 * (S * q.2) - (2 * (S * x.2) - S)) (2 * (S * x.1) + S - 2 * (S * p.1)) (2 * (S * x.1) + S - 2 * (S * q.1)) (2 * (S * x.2) + S - 2 * (S * p.2)) (2 * (S * x.2) + S - 2 * (S * q.2)) true false
def A6 (S X Y W : Int) (x : Int × Int) : Prop := ((2 * (S * x.1) - S) * W ≤ 2 * X ∧ 2 * X < (2 * (S * x.1) + S) * W) ∧ (2 * (S * x.2) - S) * W ≤ 2 * Y ∧ 2 * Y < (2 * (S * x.2) + S) * W
abbrev Jw (S : Int) (x p q : Int × Int) : Prop := dj (S * x.1) (S * x.2) (S * p.1) (S * p.2) (S * q.1) (S * q.2)
theorem OW (S : Int) (p q : Int × Int) : Jw S p p q := by
 refine ⟨FG .., ?_⟩;unfold r5 gE gD
 split <;> split <;> split <;> split <;> omega
theorem OX (S : Int) (p q : Int × Int) : Jw S q p q := by
 refine ⟨KO .., ?_⟩;unfold r5 gE gD
 split <;> split <;> split <;> split <;> omega
theorem aaB {S : Int} (hS : 0 < S) {p q fF cy x : Int × Int} {X Y W W' : Int} (e : hO (S * p.1) (S * p.2) (S * q.1) (S * q.2) (S * fF.1) (S * fF.2) (S * cy.1) (S * cy.2) = iK X W Y W') (aa : A6 S X Y W x) (h1 : xQ S p q x → x = p ∨ x = q) (h2 : xQ S fF cy x → x = fF ∨ x = cy) :
  (x = p ∨ x = q) ∧ (x = fF ∨ x = cy) ∧ X = S * x.1 * W ∧ Y = S * x.2 * W := by
 obtain ⟨_, eT, g1, g2, g3⟩ := zH e;obtain ⟨⟨b1, b2⟩, ed, dD⟩ := aa;have bA := h1 (PH eT g1 b1 ed b2 dD);have b9 := h2 (PH eT g2 b1 ed b2 dD);refine ⟨bA, b9, g3 _ _ ?_ ?_⟩
 ·rcases bA with rfl | rfl
  ·exact OW ..
  ·exact OX ..
 ·rcases b9 with rfl | rfl
  ·exact OW ..
  ·exact OX ..
end Go.Proofs.YtpochbhajmbfdaaGreat
namespace Go.Proofs.YtpochbhajmbfdaaGreat.bx
abbrev iv := Int × Int
abbrev N0 (S : Int) (l m : iv × iv) : fz := hO (S * l.1.1) (S * l.1.2) (S * l.2.1) (S * l.2.2) (S * m.1.1) (S * m.1.2) (S * m.2.1) (S * m.2.2)
def xX (l m : iv × iv) : Prop := l.1 = m.1 ∨ l.1 = m.2 ∨ l.2 = m.1 ∨ l.2 = m.2
structure xW (S : Int) (o : cG iv) : Prop where
 pos : 0 < S
 XQ : ∀ p q x, o.CD p q x = true → xQ S p q x
 Mp : ∀ p q x, o.gb p → o.gb q → o.gb x → xQ S p q x → o.CD p q x = true
 KP : ∀ l m x, o.cut l m = some x → ¬ xX l m ∧ ∃ X Y W W', N0 S l m = iK X W Y W' ∧ A6 S X Y W x
 Ux : ∀ l m, o.gb l.1 → o.gb l.2 → o.gb m.1 → o.gb m.2 → o.cut l m = none → (N0 S l m).k = 1 → xX l m
theorem xW.own {S : Int} {o : cG iv} (h : xW S o) {hot : List iv} (aw : ∀ y ∈ hot, o.gb y) {p q x : iv} (hp : p ∈ hot) (al : q ∈ hot) (aa : x ∈ hot) (hs : rl o hot p q) (hm : xQ S p q x) : x = p ∨ x = q := by
 have h1 := hs x aa;have h2 := h.Mp p q x (aw _ hp) (aw _ al) (aw _ aa) hm;unfold iV at h1;rw [h2, Bool.and_true, Bool.and_eq_false_iff] at h1;rcases h1 with h1 | h1
 ·exact .inl (by simpa using h1)
 ·exact .inr (by simpa using h1)
theorem xW.UB {S : Int} {o : cG iv} (h : xW S o) (hot : List iv) (p q fF cy x : iv) (aw : ∀ y ∈ hot, o.gb y) (hp : p ∈ hot) (al : q ∈ hot) (oe : fF ∈ hot) (qw : cy ∈ hot) (hs : rl o hot p q) (CO : rl o hot fF cy) (ak : o.cut (p, q) (fF, cy) = some x) : x ∉ hot := fun aa => by
 obtain ⟨aF, X, Y, W, W', e, lf⟩ := h.KP _ _ _ ak;obtain ⟨g1, g2, _⟩ := aaB h.pos e lf (h.own aw hp al aa hs) (h.own aw oe qw aa CO);refine aF ?_;unfold xX;rcases g1 with rfl | rfl <;> rcases g2 with g2 | g2
 ·exact .inl g2
 ·exact .inr (.inl g2)
 ·exact .inr (.inr (.inl g2))
 ·exact .inr (.inr (.inr g2))
end Go.Proofs.YtpochbhajmbfdaaGreat.bx
namespace Go.Proofs.YtpochbhajmbfdaaGreat
def fw (S X W : Int) : Int := (2 * X + S * W) / (2 * (S * W))
theorem DR {S W : Int} (hS : 0 < S) (eT : 0 < W) (X : Int) : (2 * (S * fw S X W) - S) * W ≤ 2 * X ∧ 2 * X < (2 * (S * fw S X W) + S) * W := by
 have WW := Int.mul_pos hS eT;unfold fw;have h1 := ss (2 * X + S * W) (2 * (S * W));have h2 := oN (2 * X + S * W) (show 2 * (S * W) ≠ 0 by omega);have ap := nH (2 * X + S * W) (show 0 < 2 * (S * W) by omega);generalize (2 * X + S * W) / (2 * (S * W)) = g at *;generalize (2 * X + S * W) % (2 * (S * W)) = m at *;have aI : (2 * (S * g) - S) * W = 2 * (S * W) * g - S * W := by grind
 have aN : (2 * (S * g) + S) * W = 2 * (S * W) * g + S * W := by grind
 omega
theorem YX {S X Y W : Int} (hS : 0 < S) (eT : 0 < W) : A6 S X Y W (fw S X W, fw S Y W) := ⟨DR hS eT X, DR hS eT Y⟩
theorem PN {S X W n d p q g : Int} (hS : 0 < S) (eT : 0 < W) (hd : 0 < d) (aF : 0 ≤ n ∧ n ≤ d) (e : X * d = W * (S * p * (d - n) + S * q * n)) (h1 : (2 * (S * g) - S) * W ≤ 2 * X) (h2 : 2 * X < (2 * (S * g) + S) * W) : (p ≤ q → p ≤ g ∧ g ≤ q) ∧ (q ≤ p → q ≤ g ∧ g ≤ p) := by
 have WW := Int.mul_pos hS eT
 have aag : ∀ {b : Int}, b ≤ p → b ≤ q → S * W * b ≤ X := fun {b} bA b9 => by
  have m1 := iM (show 0 ≤ S * W by omega) (iM (show 0 ≤ p - b by omega) (show 0 ≤ d - n by omega));have m2 := iM (show 0 ≤ S * W by omega) (iM (show 0 ≤ q - b by omega) aF.1);have bu : (X - S * W * b) * d = S * W * ((p - b) * (d - n)) + S * W * ((q - b) * n) := by grind
  have := IL (v := X - S * W * b) hd (by rw [bu]; omega);omega
 have XP : ∀ {b : Int}, p ≤ b → q ≤ b → X ≤ S * W * b := fun {b} bA b9 => by
  have m1 := iM (show 0 ≤ S * W by omega) (iM (show 0 ≤ b - p by omega) (show 0 ≤ d - n by omega));have m2 := iM (show 0 ≤ S * W by omega) (iM (show 0 ≤ b - q by omega) aF.1);have bu : (S * W * b - X) * d = S * W * ((b - p) * (d - n)) + S * W * ((b - q) * n) := by grind
  have := IL (v := S * W * b - X) hd (by rw [bu]; omega);omega
 have low : ∀ {b : Int}, b ≤ p → b ≤ q → b ≤ g := fun {b} bA b9 => by
  have Gv := aag bA b9;refine Int.not_lt.1 fun bi => ?_;have m := pH (show g + 1 ≤ b by omega) (show 0 ≤ S * W by omega);have aN : (2 * (S * g) + S) * W = 2 * (S * W * (g + 1)) - S * W := by grind
  omega
 have high : ∀ {b : Int}, p ≤ b → q ≤ b → g ≤ b := fun {b} bA b9 => by
  have Gv := XP bA b9;refine Int.not_lt.1 fun bi => ?_;have m := pH (show b + 1 ≤ g by omega) (show 0 ≤ S * W by omega);have aI : (2 * (S * g) - S) * W = 2 * (S * W * g) - S * W := by grind
  have cC : S * W * (b + 1) = S * W * b + S * W := by grind
  omega
 exact ⟨fun h => ⟨low (oL _) h, high h (oL _)⟩, fun h => ⟨low h (oL _), high (oL _) h⟩⟩
def eP (lt : Int × Int → Int × Int → Bool) : List (Int × Int) → List (Int × Int) → List (Int × Int)
 | [], b => b
 | x :: a, [] => x :: a
 | x :: a, y :: b => if lt y x then y :: eP lt (x :: a) b else x :: eP lt a (y :: b)
termination_by a b => a.length + b.length
theorem HZ (lt : Int × Int → Int × Int → Bool) (a : List (Int × Int)) : eP lt a [] = a := by cases a <;> simp [eP]
theorem aaH (lt : Int × Int → Int × Int → Bool) (a : List (Int × Int)) : eP lt [] a = a := by simp [eP]
theorem HY (lt : Int × Int → Int × Int → Bool) : ∀ a b, (eP lt a b).length = a.length + b.length := by
 intro a b
 induction a, b using eP.induct lt with
 | case1 b => simp [eP]
 | case2 x a => simp [eP]
 | case3 x a y b h cp => rw [eP, if_pos h, lm, cp]; simp; omega
 | case4 x a y b h cp => rw [eP, if_neg h, lm, cp]; simp; omega
def il (lt : Int × Int → Int × Int → Bool) (l : List (Int × Int)) : List (Int × Int) :=
 if h : l.length < 2 then l else eP lt (il lt (l.take (l.length / 2))) (il lt (l.drop (l.length / 2)))
termination_by l.length
decreasing_by all_goals (simp; omega)
theorem En (lt : Int × Int → Int × Int → Bool) : ∀ (N : Nat) (l : List (Int × Int)), l.length ≤ N → (il lt l).length = l.length
 | 0, l, h => by rw [il, dif_pos (by omega)]
 | N + 1, l, h => by
  rw [il]
  split
  ·rfl
  ·rw [HY, En lt N _ (by simp; omega), En lt N _ (by simp; omega)];simp; omega
end Go.Proofs.YtpochbhajmbfdaaGreat
namespace Go.Proofs.YtpochbhajmbfdaaGreat
open Go.RowKit
structure Jo where
 v : Value
 n : Nat
 xs : List Value
section
variable {P : Program} {B pY : eS} {A ei : Nat → Prop} {s s' : aD} {ad : Nat → Nat} {a : Act} {w w' : World}
theorem Rel.x9 (h : Rel B A s ad a w) (dy : ∀ b, A b → b < w.heap.size → ei b ∧ w'.heap[b]? = w.heap[b]?) (ee : ∀ k cs, s.mem k = some cs → w'.heap[ad k]? = w.heap[ad k]? ∧ ¬ pY.F (ad k)) (Xd : jK pY w') (Hi : ∀ b, pY.W.heap.size ≤ b → ei b) (Gy : ud pY s ad) (uU : pY.marks = B.marks := by rfl) : Rel pY ei s ad a w' := by
 have L3 : ∀ b, s.free A ad b → b < w.heap.size → s.free ei ad b ∧ w'.heap[b]? = w.heap[b]? := fun b ab an => ⟨⟨(dy b ab.1 an).1, ab.2⟩, (dy b ab.1 an).2⟩;refine ⟨h.pD.trans uU.symm, h.size, fun t av aE => ?_, fun k cs af => ?_, h.inj, Xd, Hi, Gy⟩
 ·obtain ⟨v, h1, h2⟩ := h.gK t av aE;exact ⟨v, h1, h2.map L3 fun _ _ => rfl⟩
 ·obtain ⟨vs, ty, h1, h2, ap⟩ := h.du k cs af;exact ⟨vs, ty, by rw [(ee k cs af).1]; exact h1, h2.map L3 fun _ _ _ _ => rfl, (ee k cs af).2⟩
theorem Rel.P0 {d : Nat} {av bv : ai} (h : Rel B A s ad a w) (hd : s.tmps d = some bv) (hv : ∀ v, a.tmps[d]? = some v → dc (s.free A ad) ad w bv v → dc (s.free A ad) ad w av v) : Rel B A (s.put (some d) av) ad a w := by
 refine ⟨h.pD, h.size, fun t cv aE => ?_, h.du, h.inj, h.below, h.up, h.jQ⟩;simp only [aD.put] at aE
 by_cases e : t = d
 ·subst e;rw [cr] at aE;cases aE;obtain ⟨v, h1, h2⟩ := h.gK t bv hd;exact ⟨v, h1, hv v h1 h2⟩
 ·rw [cj _ _ e] at aE;exact h.gK t cv aE
def nh (B : eS) (s : aD) (ad : Nat → Nat) (w : World) : eS := ⟨w, fun b => b < w.heap.size ∧ ∀ k cs, s.mem k = some cs → ad k ≠ b, fun _ h => h.1, fun k => if s.n ≤ k then some (ad k) else none, B.marks⟩
theorem wJ {B : eS} (s : aD) (ad : Nat → Nat) (w : World) : ud (nh B s ad w) s ad := fun k b af => by
 simp only [nh] at af
 split at af
 ·rename_i h; exact ⟨h, mo af⟩
 ·cases af
theorem TB {br : eS} {s s' : aD} {ad bg : Nat → Nat} {w w' : World} {A : Nat → Prop} {a' : Act} (h : ud br s ad) (cw : Rel (nh br s ad w) A s' bg a' w') : ud br s' bg := fun k b af => by
 obtain ⟨h1, h2⟩ := h k b af;obtain ⟨ap, aL⟩ := cw.jQ k (ad k) (by simp [nh, h1]);exact ⟨ap, aL.trans h2⟩
theorem Rel.hot (h : Rel B A s ad a w) (Hi : ∀ b, w.heap.size ≤ b → A b) : Rel (nh B s ad w) A s ad a w :=
 h.x9 (fun b h _ => ⟨h, rfl⟩) (fun k cs af => ⟨rfl, fun au => au.2 k cs af rfl⟩) (jK.refl _) Hi (wJ _ _ _)
theorem O5 {base : Nat} {e : TypeId} {sz : Nat} {v : Value} {n : Nat} {xs : List Value} (h : w.ownsRow base e sz v n xs) (aw : ∀ g, v.ownBlock = some g → w'.heap[g]? = w.heap[g]?) : w'.ownsRow base e sz v n xs := by
 refine ⟨h.1, ?_⟩;rcases h.2 with aF | ⟨g, cap, cur, rfl, ab, tw, rest⟩
 ·exact .inl aF
 ·exact .inr ⟨g, cap, cur, rfl, ab, (aw g rfl).trans tw, rest⟩
end
section
variable {P : Program} {e sz : Nat} {t : Jo} {s : aD} {Q : Exit → Jo → aD → Prop} {x y c : Code}
theorem Qf (w : World) (base : Nat) (t ty e : TypeId) (i : TypeInfo) (z : Value) (size bytes : Nat) (aE : P.underlying t = some (.slice e)) (hi : P.info? e = some i) (a6 : i.zero = some z)
  (gY : i.size = size) (kL : i.bytes = bytes) (om : z.cells.size = size) (bQ : 0 < size)
  (v : Value) (n : Nat) (xs : List Value) (ee : w.ownsRow base e size v n xs)
  (a : Addr) (m c : Nat) (news : List Value) (an : news.length = m * size) (kO : ∀ j u, news[j]? = some u → w.cell? (a.add j) = some u) (h1 : ∀ u ∈ news, u.oneCell' = true)
  (Gh : n + m ≤ maxLen) (GA : (n + m) * bytes ≤ 140737488355328) (nh : base ≤ w.heap.size) (hm : 0 < m) :
  ∃ aZ w', (Builtin.append_ #[t, t] ty #[v, .slice (some a) m c]).run P w = .ok aZ w' ∧ w'.ownsRow base e size aZ (n + m) (xs ++ news) ∧ w.grownBy w' v.ownBlock ∧ (∀ g, aZ.ownBlock = some g → v.ownBlock = some g ∨ w.heap.size ≤ g) ∧ aZ.oneCell' = true := by
 obtain ⟨aZ, w', aq, h2, ap, aL⟩ := run_append_own (P := P) w base t ty e i z size bytes aE hi a6 gY kL om bQ v n xs ee a m c news an kO h1 Gh GA nh;refine ⟨aZ, w', aq, h2, ap, ?_, ?_⟩
 ·have ahn : n + m ≤ 9223372036854775807 := by simp only [maxLen] at Gh; omega
  rcases ee.2 with ⟨rfl, rfl⟩ | ⟨g, cap, cur, rfl, qp, aw, eK, jq, et, nt⟩
  ·have aa : xs = [] := mq (by simpa using ee.1);subst aa;have := run_append_nil (P := P) w t ty e i z aE hi a6 a m c news (by rw [gY]; exact an) kO hm (by omega) (by rw [kL]; simp only [jF] at GA; omega);rw [this] at aq;cases aq;intro g aw;simp [Value.ownBlock] at aw;exact .inr (by omega)
  ·by_cases lK : n + m ≤ cap
   ·have wO : n * i.size + news.length ≤ cur.size := by rw [gY, an, et, ← jY]; exact jZ _ lK
    have := run_append_room (P := P) w t ty e i aE hi g n cap cur aw a m c news (by rw [gY]; exact an) kO h1 lK wO;rw [this] at aq;cases aq;intro iU eu;exact .inl eu
   ·have holds : ∀ j u, xs[j]? = some u → w.cell? ((⟨g, 0, none⟩ : Addr).add j) = some u := ee.cells (g := g) rfl;have := run_append_grow (P := P) w t ty e i z aE hi a6 ⟨g, 0, none⟩ n cap xs (by rw [gY]; exact ee.1) holds a m c news (by rw [gY]; exact an) kO (by omega) (by omega) (growslice_fits (by omega) (by rw [kL]; exact GA));rw [this] at aq;cases aq;intro iU eu;simp [Value.ownBlock] at eu;exact .inr (by omega)
 ·rcases h2.2 with ⟨rfl, _⟩ | ⟨g, cap, cur, rfl, _⟩ <;> rfl
def vt (P : Program) (tt e sz bytes : Nat) : Bool := match P.underlying tt, P.info? e with
 | some (.slice bu), some i => match i.zero with
  | some z => Nat.beq bu e && Nat.beq i.size sz && Nat.beq i.bytes bytes && Nat.beq z.cells.size sz && Nat.blt 0 sz
  | none => false
 | _, _ => false
class nU (P : Program) (tt : TypeId) (e sz bytes : outParam Nat) : Prop where
 h : vt P tt e sz bytes = true
theorem qU {tt e sz bytes : Nat} (h : vt P tt e sz bytes = true) : ∃ (i : TypeInfo) (z : Value), P.underlying tt = some (.slice e) ∧ P.info? e = some i ∧ i.zero = some z ∧ i.size = sz ∧ i.bytes = bytes ∧ z.cells.size = sz ∧ 0 < sz := by
 unfold vt at h
 split at h
 ·rename_i bu i hu hi
  split at h
  ·rename_i z a6;simp only [dQ] at h;obtain ⟨⟨⟨⟨h1, h2⟩, ap⟩, aL⟩, dx⟩ := h;rw [gS h1] at hu;exact ⟨i, z, hu, hi, a6, gS h2, gS ap, gS aL, by simpa [Nat.blt_eq] using dx⟩
  ·cases h
 ·cases h
end
structure bL where
 e : Nat
 sz : Nat
 v : Value
 n : Nat
 aV : List AC
abbrev aJ := Nat → Option bL
def fk : aJ := fun _ => none
def bI (i : Nat) (r : bL) : aJ := bM fk i r
def bH (R az : aJ) : Prop := ∀ i r, R i = some r → az i = some r
theorem bH.refl (R : aJ) : bH R R := fun _ _ h => h
theorem nI (f : aJ) (i : Nat) (r : bL) : bH (bI i r) (bM f i r) := by
 intro j q h
 by_cases e : j = i
 ·subst e; rw [bI, cr] at h; rw [cr]; exact h
 ·rw [bI, cj _ _ e] at h; cases h
def jg (v : Value) (off : Nat) : Value := match v with
 | .slice (some a) _ _ => .pointer (some (a.add off))
 | _ => .pointer none
def gJ (v : Value) (z lo hi : Nat) : Value := match v with
 | .slice A _ c => sliced A lo hi c z
 | _ => v
def bL.own (r : bL) (b : Nat) : Prop := r.v.ownBlock = some b ∨ (r.sz = 0 ∧ ∃ S w, r.aV = [.p S] ∧ S.holds w r.v ∧ S.la w r.v b)
def bL.ok (U : Nat → Prop) (ad : Nat → Nat) (w : World) (r : bL) : Prop :=
 (0 < r.sz ∧ ∃ xs, w.ownsRow 0 r.e r.sz r.v r.n xs ∧ bP U ad w r.aV xs) ∨ (r.sz = 0 ∧ r.n = 0 ∧ r.v.ownBlock = none ∧ (∃ S, r.aV = [.p S] ∧ S.holds w r.v) ∧ ∀ b, r.own b → b < w.heap.size)
theorem bL.oD {r : bL} {b : Nat} (h : r.own b) (hs : 0 < r.sz) : r.v.ownBlock = some b := by
 rcases h with h | ⟨h, _⟩
 ·exact h
 ·omega
theorem bL.ok.row {U : Nat → Prop} {ad : Nat → Nat} {w : World} {r : bL} (h : r.ok U ad w) (hs : 0 < r.sz) : ∃ xs, w.ownsRow 0 r.e r.sz r.v r.n xs ∧ bP U ad w r.aV xs := by
 rcases h with ⟨_, h⟩ | ⟨h, _⟩
 ·exact h
 ·omega
theorem bL.ok.pos {U : Nat → Prop} {ad : Nat → Nat} {w : World} {r : bL} (h : r.ok U ad w) (aF : 0 < r.n) : 0 < r.sz := by
 rcases h with ⟨h, _⟩ | ⟨_, h, _⟩
 ·exact h
 ·omega
theorem bL.ok.lt {U : Nat → Prop} {ad : Nat → Nat} {w : World} {r : bL} (h : r.ok U ad w) {g : Nat} (aw : r.own g) : g < w.heap.size := by
 rcases h with ⟨hs, xs, ax, _⟩ | ⟨_, _, _, _, h⟩
 ·exact (ax.lt g (aw.elim id fun h => by omega)).2
 ·exact h g aw
theorem bL.ok.kept {U cA : Nat → Prop} {ad bg : Nat → Nat} {w w' : World} {r : bL} (h : r.ok U ad w) (ak : ∀ y ∈ r.aV, y.bc = true) (af : ∀ g, r.own g → w'.heap[g]? = w.heap[g]?) (bQ : w.heap.size ≤ w'.heap.size) (dy : ∀ b, U b → b < w.heap.size → cA b ∧ w'.heap[b]? = w.heap[b]?) : r.ok cA bg w' := by
 rcases h with ⟨hs, xs, ax, an⟩ | ⟨hs, aF, hv, ⟨S, hS, aY⟩, bi⟩
 ·exact .inl ⟨hs, xs, O5 ax fun g q => af g (.inl q), an.map dy fun j x aa ae => absurd ae (AC.dw (ak x aa) j)⟩
 ·exact .inr ⟨hs, aF, hv, ⟨S, hS, (S.frame w w' r.v aY fun b ab => af b (.inr ⟨hs, S, w, hS, aY, ab⟩)).1⟩, fun b ab => tY (bi b ab) bQ⟩
structure uu (br : eS) (A : Nat → Prop) (s : aD) (ad : Nat → Nat) (w : World) (r : bL) : Prop where
 ok : r.ok (s.free A ad) ad w
 pa : ∀ y ∈ r.aV, y.bc = true
 own : ∀ g, r.own g → ¬ A g ∧ ∀ k cs, s.mem k = some cs → ad k ≠ g
theorem uu.cells {br : eS} {A : Nat → Prop} {s : aD} {ad : Nat → Nat} {w : World} {r : bL} (h : uu br A s ad w r) (hs : 0 < r.sz) : ∃ xs, w.ownsRow 0 r.e r.sz r.v r.n xs ∧ bP (s.free A ad) ad w r.aV xs := h.ok.row hs
structure ep (br : eS) (bY : Nat → Prop) (R : aJ) (s : aD) (a : Act) (w : World) (A : Nat → Prop) (ad : Nat → Nat) : Prop where
 up : ∀ b, br.W.heap.size ≤ b → bY b
 sub : ∀ b, A b → bY b
 rel : Rel (nh br s ad w) A s ad a w
 ov : ∀ k cs, s.mem k = some cs → ¬ br.F (ad k)
 below : jK br w
 rows : ∀ i r, R i = some r → uu br A s ad w r
 apart : ∀ i j r q, R i = some r → R j = some q → i ≠ j → ∀ g, r.own g → ¬ q.own g
 hot : ∀ i r g, R i = some r → r.own g → ¬ br.F g ∧ bY g
 jQ : ud br s ad
def oX (br : eS) (bY : Nat → Prop) (R : aJ) (s : aD) (a : Act) (w : World) : Prop := ∃ A ad, ep br bY R s a w A ad
section
variable {P : Program} {br : eS} {bY A : Nat → Prop} {R : aJ} {s s' : aD} {a a' : Act} {w w' : World} {ad bg : Nat → Nat} {o bm bk : Oper} {ops : Array Oper}
theorem bP.wo {U cA : Nat → Prop} {xs : List AC} {vs : List Value} (h : bP U ad w xs vs) (ak : ∀ y ∈ xs, y.bc = true) (dy : ∀ b, U b → b < w.heap.size → cA b ∧ w'.heap[b]? = w.heap[b]?) : bP cA bg w' xs vs :=
 h.map dy fun j x aa ae => absurd ae (AC.dw (ak x aa) j)
theorem ep.next (h : ep br bY R s a w A ad) (cw : Rel (nh br s ad w) A s' bg a' w') : ep br bY R s' a' w' A bg := by
 have GC : ∀ k cs, s'.mem k = some cs → w.heap.size ≤ bg k ∨ ∃ j cs, s.mem j = some cs ∧ ad j = bg k := by
  intro k cs af;obtain ⟨_, _, _, _, hF⟩ := cw.du k cs af;rcases iL (bg k) w.heap.size with an | an
  ·exact .inr (Classical.byContradiction fun aF => hF ⟨an, fun j cs ae e => aF ⟨j, cs, ae, e⟩⟩)
  ·exact .inl an
 have jr : ∀ b, s.free A ad b → b < w.heap.size → s'.free A bg b ∧ w'.heap[b]? = w.heap[b]? := fun b ab an => by
  refine ⟨⟨ab.1, fun k cs af e => ?_⟩, cw.below.block b ⟨an, fun k cs af => ab.2 k cs af⟩⟩;rcases GC k cs af with h1 | ⟨j, ar, ae, bu⟩
  ·omega
  ·exact ab.2 j ar ae (bu.trans e)
 refine ⟨h.up, h.sub, cw.hot fun b ab => cw.up b (ln cw.below.size ab), fun k cs af au => ?_, ⟨cw.below.os.trans h.below.os, cw.below.tape.trans h.below.tape, cw.below.output.trans h.below.output, ln h.below.size cw.below.size, fun b au => ?_⟩, fun i r hi => ?_, h.apart, h.hot, TB h.jQ cw⟩
 ·rcases GC k cs af with h1 | ⟨j, ar, ae, e⟩
  ·have := br.lt _ au; have := h.below.size; omega
  ·rw [← e] at au; exact h.ov j ar ae au
 ·exact (cw.below.block b ⟨tY (br.lt b au) h.below.size, fun k cs af e => h.ov k cs af (by rw [e]; exact au)⟩).trans (h.below.block b au)
 ·obtain ⟨lg, ak, aw⟩ := h.rows i r hi;refine ⟨lg.kept ak (fun g q => cw.below.block g ⟨lg.lt q, (aw g q).2⟩) cw.below.size jr, ak, fun g q => ⟨(aw g q).1, fun k cs af he => ?_⟩⟩;rcases GC k cs af with h1 | ⟨j, ar, ae, e⟩
  ·have := lg.lt q; omega
  ·exact (aw g q).2 j ar ae (e.trans he)
theorem ep.put {d : Option Nat} {av : ai} {v : Value} (h : ep br bY R s a w A ad) (hd : ∀ d', d = some d' → d' < s.n) (hv : dc (s.free A ad) ad w av v) : ep br bY R (s.put d av) (a.put d v) w A ad := h.next (h.rel.put hd hv)
theorem ep.le {az : aJ} (h : ep br bY R s a w A ad) (l : bH az R) : ep br bY az s a w A ad :=
 ⟨h.up, h.sub, h.rel, h.ov, h.below, fun i r hi => h.rows i r (l i r hi), fun i j r q hi ae => h.apart i j r q (l i r hi) (l j q ae), fun i r g hi => h.hot i r g (l i r hi), h.jQ⟩
theorem ep.NK (h : ep br bY R s a w A ad) (l : s.bo s') : ep br bY R s' a w A ad := h.next (h.rel.le l)
inductive kB (P : Program) (R : aJ) (look : Operand → Option ai) (o : Oper) : ai → Prop
 | len (i : Nat) (r : bL) (t z : Nat) (x : Operand) (hi : R i = some r) (bQ : 0 < r.sz) (ax : o.op = .call ⟨.builtin .len, #[x], #[t]⟩) (aa : look x = some (aQ r.v)) (aE : sG P t = some z) : kB P R look o (aW r.n)
 | idx (i : Nat) (r : bL) (t : Nat) (x y : Operand) (gC : IntKind) (j : Int) (hi : R i = some r) (ax : o.op = .indexAddr t x y) (aa : look x = some (aQ r.v)) (ag : look y = some (aQ (.int gC j))) (aG : 0 ≤ j) (h1 : j < r.n) (aE : sG P t = some r.sz) : kB P R look o (aQ (jg r.v (j.toNat * r.sz)))
 | ng (i : Nat) (r : bL) (off t f hK : Nat) (x : Operand) (hi : R i = some r) (aF : 0 < r.n) (ax : o.op = .fieldAddr t x f) (aa : look x = some (aQ (jg r.v off))) (aE : th P t f = some hK) : kB P R look o (aQ (jg r.v (off + hK)))
 | load (i : Nat) (r : bL) (off lt : Nat) (x : Operand) (av : bG) (hi : R i = some r) (aF : 0 < r.n) (ax : o.op = .load lt x) (aa : look x = some (aQ (jg r.v off))) (hv : pick P lt r.aV off = some av) : kB P R look o (.w av)
 | sl (i : Nat) (r : bL) (t lo hi : Nat) (x : Operand) (uc sM : Option Operand) (de : R i = some r) (bQ : 0 < r.sz) (ax : o.op = .slice t x uc sM none) (aa : look x = some (aQ r.v)) (an : (uc = none ∧ lo = 0 ∧ sM ≠ none) ∨ ∃ y, uc = some y ∧ look y = some (aQ (.int .i64 lo))) (aY : (sM = none ∧ hi = r.n) ∨ ∃ y, sM = some y ∧ look y = some (aQ (.int .i64 hi))) (h1 : lo ≤ hi) (h2 : hi ≤ r.n) (aE : sG P t = some r.sz) : kB P R look o (aQ (gJ r.v r.sz lo hi))
 | zA (i : Nat) (r : bL) (t z lo hi : Nat) (x : Operand) (de : R i = some r) (bQ : 0 < r.sz) (ax : o.op = .call ⟨.builtin .len, #[x], #[t]⟩) (aa : look x = some (aQ (gJ r.v r.sz lo hi))) (aE : sG P t = some z) : kB P R look o (aW ((hi - lo : Nat) : Int))
 | zo (i : Nat) (r : bL) (t lo hi : Nat) (x y : Operand) (gC : IntKind) (j : Int) (de : R i = some r) (ax : o.op = .indexAddr t x y) (aa : look x = some (aQ (gJ r.v r.sz lo hi))) (ag : look y = some (aQ (.int gC j))) (aG : 0 ≤ j) (h1 : j < ((hi - lo : Nat) : Int)) (h2 : hi ≤ r.n) (aE : sG P t = some r.sz) : kB P R look o (aQ (jg r.v ((lo + j.toNat) * r.sz)))
theorem kB.congr {look gi : Operand → Option ai} {av : ai} (h : kB P R look o av) (e : ∀ x ∈ o.op.operands, gi x = look x) : kB P R gi o av := by
 cases h with
 | len i r t z x hi bQ ax aa aE => exact .len i r t z x hi bQ ax (by rw [e x (by simp [ax, Op.operands, Call.operands])]; exact aa) aE
 | idx i r t x y gC j hi ax aa ag aG h1 aE => exact .idx i r t x y gC j hi ax (by rw [e x (by simp [ax, Op.operands])]; exact aa) (by rw [e y (by simp [ax, Op.operands])]; exact ag) aG h1 aE
 | ng i r off t f hK x hi aF ax aa aE => exact .ng i r off t f hK x hi aF ax (by rw [e x (by simp [ax, Op.operands])]; exact aa) aE
 | load i r off lt x av hi aF ax aa hv => exact .load i r off lt x av hi aF ax (by rw [e x (by simp [ax, Op.operands])]; exact aa) hv
 | sl i r t lo hi x uc sM de bQ ax aa an aY h1 h2 aE =>
  refine .sl i r t lo hi x uc sM de bQ ax (by rw [e x (by simp [ax, Op.operands])]; exact aa) ?_ ?_ h1 h2 aE
  ·rcases an with h | ⟨y, rfl, h⟩
   ·exact .inl h
   ·exact .inr ⟨y, rfl, by rw [e y (by simp [ax, Op.operands])]; exact h⟩
  ·rcases aY with h | ⟨y, rfl, h⟩
   ·exact .inl h
   ·exact .inr ⟨y, rfl, by rw [e y (by simp [ax, Op.operands])]; exact h⟩
 | zA i r t z lo hi x de bQ ax aa aE => exact .zA i r t z lo hi x de bQ ax (by rw [e x (by simp [ax, Op.operands, Call.operands])]; exact aa) aE
 | zo i r t lo hi x y gC j de ax aa ag aG h1 h2 aE => exact .zo i r t lo hi x y gC j de ax (by rw [e x (by simp [ax, Op.operands])]; exact aa) (by rw [e y (by simp [ax, Op.operands])]; exact ag) aG h1 h2 aE
theorem kB.rows {az : aJ} {look : Operand → Option ai} {av : ai} (h : kB P R look o av) (l : bH R az) : kB P az look o av := by
 cases h with
 | len i r t z x hi bQ ax aa aE => exact .len i r t z x (l _ _ hi) bQ ax aa aE
 | idx i r t x y gC j hi ax aa ag aG h1 aE => exact .idx i r t x y gC j (l _ _ hi) ax aa ag aG h1 aE
 | ng i r off t f hK x hi aF ax aa aE => exact .ng i r off t f hK x (l _ _ hi) aF ax aa aE
 | load i r off lt x av hi aF ax aa hv => exact .load i r off lt x av (l _ _ hi) aF ax aa hv
 | sl i r t lo hi x uc sM de bQ ax aa an aY h1 h2 aE => exact .sl i r t lo hi x uc sM (l _ _ de) bQ ax aa an aY h1 h2 aE
 | zA i r t z lo hi x de bQ ax aa aE => exact .zA i r t z lo hi x (l _ _ de) bQ ax aa aE
 | zo i r t lo hi x y gC j de ax aa ag aG h1 h2 aE => exact .zo i r t lo hi x y gC j (l _ _ de) ax aa ag aG h1 h2 aE
theorem ac2 {U : Nat → Prop} {ty : TypeId} {aV : List AC} {off : Nat} {av : bG} {xs : List Value} {b : Addr} (hv : pick P ty aV off = some av) (an : bP U ad w aV xs) (ak : ∀ j u, xs[j]? = some u → w.cell? (b.add j) = some u) :
  ∃ v, (loadVar ty (b.add off)).run P w = .ok v w ∧ gx U ad w av v := by
 unfold pick at hv
 have key : ∀ d, P.underlying ty = some d → ((∃ bl, d = .struct bl) ∨ ∃ n e, d = .array n e) → ((P.info? ty).bind fun i => if off + i.size ≤ aV.length then some (bG.agg ((aV.drop off).take i.size)) else none) = some av → ∃ v, (loadVar ty (b.add off)).run P w = .ok v w ∧ gx U ad w av v := by
  intro d hu hd h;cases hi : P.info? ty with
  | none => rw [hi] at h; cases h
  | some i =>
   rw [hi] at h;simp only [j0] at h
   split at h
   ·rename_i hle;cases h;have hs := an.sub off i.size;have hlen : ((xs.drop off).take i.size).length = i.size := by have := an.1; simp; omega
    refine ⟨_, ID hu hd hi hlen (fun j v ae => ?_), _, rfl, hs⟩;have jT : j < i.size := by rw [← hlen]; exact (bS.1 ae).1
    rw [fK jT, gj] at ae;rw [x1];exact ak _ v ae
   ·cases h
 have HE : ∀ d, P.underlying ty = some d → (∀ bl, d ≠ .struct bl) → (∀ n e, d ≠ .array n e) → (aV[off]?).map bG.one = some av → ∃ v, (loadVar ty (b.add off)).run P w = .ok v w ∧ gx U ad w av v := by
  intro d hu h1 h2 h;cases aa : aV[off]? with
  | none => rw [aa] at h; cases h
  | some x =>
   rw [aa] at h;cases h;have bi : off < xs.length := by rw [← an.1]; exact (bS.1 aa).1
   have hv := cm bi;exact ⟨_, IE hu h1 h2 (ak off _ hv), an.2 off x _ aa hv⟩
 cases hu : P.underlying ty with
 | none => rw [hu] at hv; cases hv
 | some d =>
  rw [hu] at hv;cases d <;> first | exact key _ hu (.inl ⟨_, rfl⟩) hv | exact key _ hu (.inr ⟨_, _, rfl⟩) hv | exact HE _ hu (fun _ h => by cases h) (fun _ _ h => by cases h) hv
theorem uu.slice {r : bL} (h : uu br A s ad w r) (bQ : 0 < r.sz) : ∃ eR c, r.v = .slice eR r.n c ∧ (0 < r.n → ∃ g, eR = some ⟨g, 0, none⟩) := by
 obtain ⟨xs, ax, _⟩ := h.cells bQ;rcases ax.2 with ⟨e, dp⟩ | ⟨g, cap, cur, e, _⟩
 ·exact ⟨none, 0, by rw [e, dp], fun h => by omega⟩
 ·exact ⟨_, _, e, fun _ => ⟨g, rfl⟩⟩
theorem uu.Eh {r : bL} (h : uu br A s ad w r) (bQ : 0 < r.sz) : ∃ eR c, r.v = .slice eR r.n c ∧ r.n ≤ c ∧ (0 < r.n → ∃ g, eR = some ⟨g, 0, none⟩) := by
 obtain ⟨xs, ax, _⟩ := h.cells bQ;rcases ax.2 with ⟨e, dp⟩ | ⟨g, cap, cur, e, _, _, eK, _⟩
 ·exact ⟨none, 0, by rw [e, dp], by omega, fun h => by omega⟩
 ·exact ⟨_, _, e, eK, fun _ => ⟨g, rfl⟩⟩
theorem P6 {g n c z lo hi : Nat} (h1 : lo < hi) (h2 : hi ≤ c) : gJ (.slice (some ⟨g, 0, none⟩) n c) z lo hi = .slice (some ((⟨g, 0, none⟩ : Addr).add (lo * z))) (hi - lo) (c - lo) := by
 unfold gJ sliced;simp only;rw [if_neg (by omega)]; rfl
theorem kB.sound {av : ai} (h : kB P R s.look o av) (ay : ep br bY R s a w A ad) : ∃ v, (execOp a.eval o).run P w = .ok (.value v) w ∧ dc (s.free A ad) ad w av v := by
 cases h with
 | len i r t z x hi bQ ax aa aE =>
  obtain ⟨eR, c, e, _⟩ := (ay.rows i r hi).slice bQ;have hv : a.eval x = r.v := (ay.rel.look aa).1;obtain ⟨el, ez, hu, _, _⟩ := ms aE;have e2 : P.underlying t = some (.slice (P.elem t)) := by rw [kf hu]; exact hu
  refine ⟨.int .i64 r.n, ?_, rfl, rfl⟩;have em : (#[x] : Array Operand).map a.eval = #[.slice eR r.n c] := by simp [hv, e]
  simp only [execOp, ax, resolve, em, Sem.run_bind, Sem.run_pure, Result.andThen_ok, invoke, builtin];rw [run_len_slice w t _ eR r.n c e2];rfl
 | idx i r t x y gC j hi ax aa ag aG h1 aE =>
  obtain ⟨eR, c, e, dS⟩ := (ay.rows i r hi).slice ((ay.rows i r hi).ok.pos (by omega));obtain ⟨g, rfl⟩ := dS (by omega);have hv : a.eval x = r.v := (ay.rel.look aa).1;have ae : a.eval y = .int gC j := (ay.rel.look ag).1;obtain ⟨el, ez, hu, de, hs⟩ := ms aE;refine ⟨jg r.v (j.toNat * r.sz), ?_, rfl, by rw [e]; rfl⟩;rw [e] at hv ⊢;simp only [execOp, ax, Instr.indexAt, hv, ae, asIntOf, Sem.run_bind, Sem.run_pure, Result.andThen_ok, run_underlying hu, hj de, if_pos (And.intro aG h1), hs, jg]
 | ng i r off t f hK x hi aF ax aa aE =>
  obtain ⟨eR, c, e, dS⟩ := (ay.rows i r hi).slice ((ay.rows i r hi).ok.pos (by omega));obtain ⟨g, rfl⟩ := dS aF;have hv : a.eval x = jg r.v off := (ay.rel.look aa).1;rw [e] at hv ⊢;unfold th at aE
  split at aE
  ·rename_i bl hu;cases au : bl[f]? with
   | none => rw [au] at aE; cases aE
   | some fd =>
    rw [au] at aE;simp only [j0] at aE;cases hi : P.info? fd.type with
    | none => rw [hi] at aE; cases aE
    | some ez =>
     rw [hi] at aE;simp only [j0] at aE
     split at aE
     ·cases aE
     ·rename_i cn;cases aE;refine ⟨_, ?_, rfl, rfl⟩;simp only [execOp, ax, Instr.fieldAt, hv, jg, Instr.sureAddr, Sem.run_bind, Sem.run_pure, Result.andThen_ok, run_underlying hu, au, fieldPlace, hj hi, if_neg cn, x1]
  ·cases aE
 | load i r off lt x av hi aF ax aa hv =>
  have dU := ay.rows i r hi;obtain ⟨eR, c, e, dS⟩ := dU.slice (dU.ok.pos aF);obtain ⟨g, rfl⟩ := dS aF;have CS : a.eval x = jg r.v off := (ay.rel.look aa).1;obtain ⟨xs, gB, an⟩ := dU.cells (dU.ok.pos aF);obtain ⟨v, h1, h2⟩ := ac2 hv an (gB.cells (g := g) (by rw [e]; rfl));rw [e] at CS;refine ⟨v, ?_, h2⟩;simp only [execOp, ax, Instr.loadAt, CS, jg, Instr.sureAddr, Sem.run_bind, Sem.run_pure, Result.andThen_ok, h1]
 | sl i r t lo hi x uc sM de bQ ax aa an aY h1 h2 aE =>
  obtain ⟨eR, c, e, eK, _⟩ := (ay.rows i r de).Eh bQ;have hv : a.eval x = r.v := (ay.rel.look aa).1;rw [e] at hv;obtain ⟨el, ez, hu, e1, hs⟩ := ms aE;have e2 : P.underlying t = some (.slice (P.elem t)) := by rw [kf hu]; exact hu
  have mb : (gJ r.v r.sz lo hi).oneCell' = true := by rw [e]; rfl
  refine ⟨_, ?_, rfl, mb⟩;rw [e];rcases an with ⟨rfl, rfl, cn⟩ | ⟨y, rfl, ag⟩
  ·rcases aY with ⟨rfl, _⟩ | ⟨y, rfl, ag⟩
   ·exact absurd rfl cn
   ·have kg : a.eval y = .int .i64 hi := (ay.rel.look ag).1;simp only [execOp, ax, hv, gH, su, kg, Sem.run_bind, run_sliceAt_slice w t _ _ _ _ e2, run_slice_h w t eR r.n c e2 .i64 hi (by omega) (by omega), kf hu, hj e1, Result.andThen_ok, hs, Sem.run_pure, kw, gJ]
  ·have kg : a.eval y = .int .i64 lo := (ay.rel.look ag).1;rcases aY with ⟨rfl, rfl⟩ | ⟨y', rfl, Hn⟩
   ·simp only [execOp, ax, hv, gH, su, kg, Sem.run_bind, run_sliceAt_slice w t _ _ _ _ e2, run_slice_l w t eR r.n c e2 .i64 lo (by omega) (by omega), kf hu, hj e1, Result.andThen_ok, hs, Sem.run_pure, kw, gJ]
   ·have VC : a.eval y' = .int .i64 hi := (ay.rel.look Hn).1;simp only [execOp, ax, hv, gH, su, kg, VC, Sem.run_bind, run_sliceAt_slice w t _ _ _ _ e2, run_slice_lh w t eR r.n c e2 .i64 .i64 lo hi (by omega) (by omega) (by omega), kf hu, hj e1, Result.andThen_ok, hs, Sem.run_pure, kw, gJ]
 | zA i r t z lo hi x de bQ ax aa aE =>
  obtain ⟨eR, c, e, _, _⟩ := (ay.rows i r de).Eh bQ;have hv : a.eval x = gJ r.v r.sz lo hi := (ay.rel.look aa).1;obtain ⟨el, ez, hu, _, _⟩ := ms aE;have e2 : P.underlying t = some (.slice (P.elem t)) := by rw [kf hu]; exact hu
  refine ⟨.int .i64 ((hi - lo : Nat) : Int), ?_, rfl, rfl⟩;rw [e] at hv;unfold gJ sliced at hv;simp only at hv;have em : (#[x] : Array Operand).map a.eval = #[.slice (if c = lo then eR else eR.map (·.add (lo * r.sz))) (hi - lo) (c - lo)] := by simp only [List.map_toArray, kv, List.map_nil, hv]
  simp only [execOp, ax, resolve, em, Sem.run_bind, Sem.run_pure, Result.andThen_ok, invoke, builtin];rw [run_len_slice w t _ _ _ _ e2];rfl
 | zo i r t lo hi x y gC j de ax aa ag aG h1 h2 aE =>
  obtain ⟨eR, c, e, eK, dS⟩ := (ay.rows i r de).Eh ((ay.rows i r de).ok.pos (by omega));obtain ⟨g, rfl⟩ := dS (by omega);have hv : a.eval x = gJ r.v r.sz lo hi := (ay.rel.look aa).1;have ae : a.eval y = .int gC j := (ay.rel.look ag).1;obtain ⟨el, ez, hu, e1, hs⟩ := ms aE;rw [e, P6 (by omega) (by omega)] at hv;refine ⟨jg r.v ((lo + j.toNat) * r.sz), ?_, rfl, by rw [e]; rfl⟩;rw [e];simp only [execOp, ax, Instr.indexAt, hv, ae, asIntOf, Sem.run_bind, Sem.run_pure, Result.andThen_ok, run_underlying hu, hj e1, if_pos (And.intro aG h1), hs, jg, x1, jY]
theorem ad2 (w : World) (s7 Am ty elem : TypeId) (g o qg yn z : Nat) (a : Addr) (qV Al : Nat) (cur : Array Value) (t : TypeId) (cs : List Value)
  (hu : P.underlying s7 = some (.slice elem)) (hs : (P.info? elem).map (·.size) = some z)
  (aw : w.heap[g]? = some (.cells cur t (0, 0))) (aF : cs.length = Nat.min qV qg * z)
  (Hf : ∀ j v, cs[j]? = some v → w.cell? (a.add j) = some v) (wO : o + cs.length ≤ cur.size) (h1 : ∀ v ∈ cs, v.oneCell' = true) :
  (Builtin.copy_ #[s7, Am] ty #[.slice (some ⟨g, o, none⟩) qg yn, .slice (some a) qV Al]).run P w =
   .ok (goInt (Nat.min qV qg)) (w.setRow g (cur.toList.take o ++ cs ++ cur.toList.drop (o + cs.length)).toArray) := by
 have an := run_loadCells_list (P := P) w a cs Hf;have jx := run_storeCells_at P g o t cs 0 cur w aw (by simpa using wO) h1;cases al : P.info? elem with
 | none => simp [al] at hs
 | some i =>
  have hi : i.size = z := by simpa [al] using hs
  simp [Builtin.copy_, run_underlying hu, Builtin.lenOf, Builtin.firstCells, sizeOf, typeInfo, al, hi, ← aF, an, jx]
theorem ad1 (w : World) (s7 Am ty elem : TypeId) (d a : Option Addr) (qg yn qV Al z : Nat) (hu : P.underlying s7 = some (.slice elem)) (hs : (P.info? elem).map (·.size) = some z) (aF : Nat.min qV qg = 0) :
  (Builtin.copy_ #[s7, Am] ty #[.slice d qg yn, .slice a qV Al]).run P w = .ok (goInt 0) w := by
 cases al : P.info? elem with
 | none => simp [al] at hs
 | some i =>
  have an : ∀ (x : Addr), (loadCells x 0).run P w = .ok #[] w := fun x => by simpa using run_loadCells_list (P := P) w x [] (by simp)
  cases d <;> cases a <;> simp [Builtin.copy_, run_underlying hu, Builtin.lenOf, Builtin.firstCells, sizeOf, typeInfo, al, aF, storeCells, an]
theorem ae2 {cur us : List Value} {off N : Nat} (h : off + us.length ≤ N) (kj : N ≤ cur.length) : (cur.take off ++ us ++ cur.drop (off + us.length)).take N = (cur.take N).take off ++ us ++ (cur.take N).drop (off + us.length) := by
 apply List.ext_getElem?;intro j;have t1 : (cur.take off).length = off := by rw [eg]; omega
 have t2 : ((cur.take N).take off).length = off := by rw [eg, eg]; omega
 by_cases ae : j < N
 ·rw [fK ae]
  by_cases qy : j < off
  ·rw [ig, fV (by rw [t1]; exact qy), fK qy, ig, fV (by rw [t2]; exact qy), fK qy, fK ae]
  ·by_cases C2 : j < off + us.length
   ·rw [ig, gr (by omega), fV (by omega), ig, gr (by omega), fV (by omega), t1, t2]
   ·rw [gr (by simp only [cR, t1]; omega), gr (by simp only [cR, t2]; omega), gj, gj];simp only [cR, t1, t2];rw [fK (by omega)]
 ·rw [qL (by rw [eg]; omega), qL];simp only [cR, eg, hT];omega
abbrev Bb : Value → Prop := fun v => v.oneCell' = true
def ix (v : Value) (z lo hi : Nat) (u : Value) : Prop := (∃ eR c, u = .slice eR (hi - lo) c) ∧ (lo < hi → ∃ g n c, v = .slice (some ⟨g, 0, none⟩) n c ∧ hi ≤ c ∧ u = .slice (some ⟨g, lo * z, none⟩) (hi - lo) (c - lo))
theorem Bo (g o k : Nat) : (⟨g, o, none⟩ : Addr).add k = ⟨g, o + k, none⟩ := by unfold Addr.add; split <;> simp_all
theorem ix.all {A : Option Addr} {n c : Nat} (z : Nat) (h1 : n ≤ c) (h2 : 0 < n → ∃ g, A = some ⟨g, 0, none⟩) : ix (.slice A n c) z 0 n (.slice A n c) :=
 ⟨⟨A, c, rfl⟩, fun h => by obtain ⟨g, rfl⟩ := h2 h; exact ⟨g, n, c, rfl, h1, by simp⟩⟩
theorem ix.sl {v u : Value} {z lo hi k m : Nat} (h : ix v z lo hi u) (hm : hi - lo = m) (af : k ≤ m) (an : lo ≤ hi) : ix v z (lo + k) hi (gJ u z k m) := by
 subst hm;obtain ⟨⟨eR, c, e⟩, h2⟩ := h;refine ⟨⟨_, _, by rw [e]; unfold gJ sliced; rw [Nat.sub_sub]⟩, fun bi => ?_⟩;obtain ⟨g, n, c', aI, ap, aN⟩ := h2 (by omega);refine ⟨g, n, c', aI, ap, ?_⟩;rw [aN];unfold gJ sliced;simp only;rw [if_neg (by omega), gH, Bo, Nat.sub_sub, Nat.sub_sub, jY]
theorem ix.aeB {v u : Value} {z lo hi k : Nat} (h : ix v z lo hi u) (af : lo + k ≤ hi) : ix v z lo (lo + k) (gJ u z 0 k) := by
 obtain ⟨⟨eR, c, e⟩, h2⟩ := h;refine ⟨⟨_, _, by rw [e]; unfold gJ sliced; rw [show lo + k - lo = k - 0 by omega]⟩, fun bi => ?_⟩;obtain ⟨g, n, c', aI, ap, aN⟩ := h2 (by omega);refine ⟨g, n, c', aI, by omega, ?_⟩;rw [aN];unfold gJ sliced;simp only;rw [if_neg (by omega), gH, Bo];simp
def AV (R : aJ) (look : Operand → Option ai) (y : Operand) (z m : Nat) (news : List AC) : Prop :=
 look y = some (cI z m news) ∨ ∃ j q lo u, R j = some q ∧ q.sz = z ∧ look y = some (aQ u) ∧ ix q.v z lo (lo + m) u ∧ lo + m ≤ q.n ∧ news = (q.aV.drop (lo * z)).take (m * z)
inductive kC (P : Program) (R : aJ) (look : Operand → Option ai) (o : Oper) : (Value → aJ) → (Value → Prop) → Prop
 | uA (i : Nat) (r : bL) (tt bytes m : Nat) (jh jI : Operand) (news : List AC) (hi : R i = some r) (ax : o.op = .call ⟨.builtin .append, #[jh, jI], #[tt, tt]⟩) (aE : vt P tt r.e r.sz bytes = true) (aa : look jh = some (aQ r.v)) (ag : look jI = some (cI r.sz m news)) (h1 : r.n + m ≤ maxLen) (h2 : (r.n + m) * bytes ≤ 140737488355328) (ak : ∀ y ∈ news, y.bc = true) :
   kC P R look o (fun aZ => bM R i ⟨r.e, r.sz, aZ, r.n + m, r.aV ++ news⟩) Bb
 | new (i t n e sz bytes : Nat) (parts : List (Nat × Operand)) (vs : List Value) (zs : List (Nat × bG)) (r : List AC) (hi : R i = none) (ax : o.op = .buildSlice t n parts.toArray) (aE : vt P t e sz bytes = true) (dE : xy P t = some vs) (a6 : mI look parts = some zs) (ab : qf (xl n sz) (hD n sz vs) zs = some r)
   (h1 : (vs.all fun v => v.oneCell') = true) (hs : vs.length = sz) (h2 : n * sz ≤ 16777216) (ap : n ≤ maxLen) (aq : r.length = n * sz) (cO : ∀ y ∈ r, y.bc = true) : kC P R look o (fun aZ => bM R i ⟨e, sz, aZ, n, r⟩) Bb
 | make (i t l c e sz bytes : Nat) (x y : Operand) (ou pC : IntKind) (vs : List Value) (hi : R i = none) (ax : o.op = .makeSlice t x y) (aE : vt P t e sz bytes = true) (dE : xy P t = some vs) (aa : look x = some (aQ (.int ou l))) (ag : look y = some (aQ (.int pC c))) (an : l ≤ c) (h1 : (vs.all fun v => v.oneCell') = true) (hs : vs.length = sz) (h2 : bytes * c ≤ 281474976710656) (ap : c ≤ maxLen) : kC P R look o (fun aZ => bM R i ⟨e, sz, aZ, l, hD l sz vs⟩) Bb
 | copy (i : Nat) (r : bL) (tt t2 m lo hi : Nat) (x y : Operand) (news : List AC) (de : R i = some r) (bQ : 0 < r.sz) (ax : o.op = .call ⟨.builtin .copy, #[x, y], #[tt, t2]⟩) (aE : sG P tt = some r.sz) (aa : (look x = some (aQ r.v) ∧ lo = 0 ∧ hi = r.n) ∨ look x = some (aQ (gJ r.v r.sz lo hi)) ∨ ∃ u, look x = some (aQ u) ∧ ix r.v r.sz lo hi u) (ag : AV R look y r.sz m news) (h1 : lo ≤ hi) (h2 : hi ≤ r.n) (ak : ∀ y ∈ news, y.bc = true) :
   kC P R look o (fun _ => bM R i ⟨r.e, r.sz, r.v, r.n, ey r.aV (lo * r.sz) (news.take (Nat.min m (hi - lo) * r.sz))⟩) (fun aZ => aZ = .int .i64 ((Nat.min m (hi - lo) : Nat) : Int))
theorem NQ {look gi : Operand → Option ai} : ∀ (parts : List (Nat × Operand)), (∀ p ∈ parts, gi p.2 = look p.2) → mI gi parts = mI look parts
 | [], _ => rfl
 | (i, x) :: parts, h => by
  simp only [mI];rw [h (i, x) (by simp), NQ parts fun p hp => h p (by simp [hp])]
theorem kC.congr {look gi : Operand → Option ai} {f : Value → aJ} {ia : Value → Prop} (h : kC P R look o f ia) (e : ∀ x ∈ o.op.operands, gi x = look x) : kC P R gi o f ia := by
 cases h with
 | uA i r tt bytes m jh jI news hi ax aE aa ag h1 h2 ak =>
  exact .uA i r tt bytes m jh jI news hi ax aE (by rw [e jh (by simp [ax, Op.operands, Call.operands])]; exact aa) (by rw [e jI (by simp [ax, Op.operands, Call.operands])]; exact ag) h1 h2 ak
 | new i t n el sz bytes parts vs zs r hi ax aE dE a6 ab h1 hs h2 ap aq cO =>
  refine .new i t n el sz bytes parts vs zs r hi ax aE dE ?_ ab h1 hs h2 ap aq cO;rw [NQ parts fun p hp => e p.2 ?_]
  ·exact a6
  ·simp only [ax, Op.operands, List.mem_toArray, hU];exact ⟨p, hp, rfl⟩
 | make i t l c el sz bytes x y ou pC vs hi ax aE dE aa ag an h1 hs h2 ap =>
  exact .make i t l c el sz bytes x y ou pC vs hi ax aE dE (by rw [e x (by simp [ax, Op.operands])]; exact aa) (by rw [e y (by simp [ax, Op.operands])]; exact ag) an h1 hs h2 ap
 | copy i r tt t2 m lo hi x y news de bQ ax aE aa ag h1 h2 ak =>
  exact .copy i r tt t2 m lo hi x y news de bQ ax aE (by rw [e x (by simp [ax, Op.operands, Call.operands])]; exact aa) (by unfold AV; rw [e y (by simp [ax, Op.operands, Call.operands])]; exact ag) h1 h2 ak
theorem bP.append {U : Nat → Prop} {xs aV : List AC} {vs us : List Value} (h : bP U ad w xs vs) (k : bP U ad w aV us) : bP U ad w (xs ++ aV) (vs ++ us) := by
 refine ⟨by rw [cR, cR, h.1, k.1], fun i x v aa hv => ?_⟩;rcases iL i xs.length with an | an
 ·rw [fV an] at aa;rw [fV (by rw [← h.1]; exact an)] at hv;exact h.2 i x v aa hv
 ·rw [gr an] at aa;rw [gr (by rw [← h.1]; exact an), ← h.1] at hv;exact k.2 _ x v aa hv
theorem ep.Gd {i : Nat} {r : bL} {w2 : World} {xs : List Value} (h : ep br bY R s a w A ad) (ib : Option Nat) (hold : ∀ g, ib = some g → ∃ q, R i = some q ∧ q.own g) (bQ : 0 < r.sz) (iC : w.grownBy w2 ib)
  (aq : w2.ownsRow 0 r.e r.sz r.v r.n xs) (oa : ∀ g, r.v.ownBlock = some g → ib = some g ∨ w.heap.size ≤ g) (an : bP (s.free A ad) ad w r.aV xs) (ak : ∀ y ∈ r.aV, y.bc = true) :
  ∃ ei, ep br bY (bM R i r) s a w2 ei ad := by
 have pw : ∀ b, s.free A ad b → b < w.heap.size → w2.heap[b]? = w.heap[b]? := fun b ab hq => iC.block b hq fun e => by
  obtain ⟨q, al, aw⟩ := hold b e.symm;exact ((h.rows i q al).own b aw).1 ab.1
 have pv : ∀ k cs, s.mem k = some cs → w2.heap[ad k]? = w.heap[ad k]? := fun k cs af => iC.block _ (h.rel.lt af) fun e => by
  obtain ⟨q, al, aw⟩ := hold _ e.symm;exact ((h.rows i q al).own _ aw).2 k cs af rfl
 have WG : Rel (nh br s ad w2) (fun b => (A b ∧ b < w.heap.size) ∨ (w2.heap.size ≤ b)) s ad a w2 :=
  h.rel.x9 (fun b c5 hq => ⟨.inl ⟨c5, hq⟩, iC.block b hq fun e => by
   obtain ⟨q, al, aw⟩ := hold b e.symm;exact ((h.rows i q al).own b aw).1 c5⟩) (fun k cs af => ⟨pv k cs af, fun au => au.2 k cs af rfl⟩) (jK.refl _) (fun b ab => .inr ab) (wJ _ _ _)
 have jr : ∀ b, s.free A ad b → b < w.heap.size → s.free (fun b => (A b ∧ b < w.heap.size) ∨ w2.heap.size ≤ b) ad b ∧ w2.heap[b]? = w.heap[b]? := fun b ab hq => ⟨⟨.inl ⟨ab.1, hq⟩, ab.2⟩, pw b ab hq⟩
 have main : ep br bY (bM R i r) s a w2 (fun b => (A b ∧ b < w.heap.size) ∨ w2.heap.size ≤ b) ad := by
  refine ⟨h.up, ?_, WG, h.ov, ⟨iC.os.trans h.below.os, iC.tape.trans h.below.tape, iC.output.trans h.below.output, ln h.below.size iC.size, fun b au => ?_⟩, fun j q ae => ?_, fun j k q cy ae af kM g aw => ?_, fun j q g ae aw => ?_, h.jQ⟩
  ·rintro b (ab | ab)
   ·exact h.sub b ab.1
   ·exact h.up b (by have := h.below.size; have := iC.size; omega)
  ·refine (iC.block b (tY (br.lt b au) h.below.size) fun e => ?_).trans (h.below.block b au);obtain ⟨q, al, aw⟩ := hold b e.symm;exact (h.hot i q b al aw).1 au
  ·by_cases e : j = i
   ·subst e;rw [cr] at ae;cases ae;refine ⟨.inl ⟨bQ, xs, aq, an.wo ak jr⟩, ak, fun g aw => ?_⟩
    replace aw := bL.oD aw bQ
    refine ⟨?_, fun k cs af => ?_⟩
    ·rintro (ab | ab)
     ·rcases oa g aw with q | q
      ·obtain ⟨p, hp, px⟩ := hold g q;exact ((h.rows j p hp).own g px).1 ab.1
      ·omega
     ·have := (aq.lt g aw).2; omega
    ·rcases oa g aw with q | q
     ·obtain ⟨p, hp, px⟩ := hold g q;exact ((h.rows j p hp).own g px).2 k cs af
     ·have := h.rel.lt af; omega
   ·rw [cj _ _ e] at ae;obtain ⟨lg, MU, MV⟩ := h.rows j q ae;refine ⟨lg.kept MU (fun g aw => iC.block g (lg.lt aw) fun bu => ?_) iC.size jr, MU, fun g aw => ⟨?_, (MV g aw).2⟩⟩
    ·obtain ⟨p, hp, px⟩ := hold g bu.symm;exact h.apart j i q p ae hp e g aw px
    ·rintro (ab | ab)
     ·exact (MV g aw).1 ab.1
     ·have := lg.lt aw; have := iC.size; omega
  ·have OV : ∀ j q, R j = some q → ∀ g, q.own g → g < w.heap.size := fun j q ae g aw => (h.rows j q ae).ok.lt aw
   by_cases e : j = i
   ·subst e;rw [cr] at ae;cases ae;rw [cj _ _ (Ne.symm kM)] at af;intro eu;rcases oa g (bL.oD aw bQ) with p | p
    ·obtain ⟨fF, hp, px⟩ := hold g p;exact h.apart j k fF cy hp af kM g px eu
    ·have := OV k cy af g eu; omega
   ·rw [cj _ _ e] at ae
    by_cases aN : k = i
    ·subst aN;rw [cr] at af;cases af;intro eu;rcases oa g (bL.oD eu bQ) with p | p
     ·obtain ⟨fF, hp, px⟩ := hold g p;exact h.apart j k q fF ae hp kM g aw px
     ·have := OV j q ae g aw; omega
    ·rw [cj _ _ aN] at af;exact h.apart j k q cy ae af kM g aw
  ·by_cases e : j = i
   ·subst e;rw [cr] at ae;cases ae;rcases oa g (bL.oD aw bQ) with p | p
    ·obtain ⟨fF, hp, px⟩ := hold g p;exact h.hot j fF g hp px
    ·exact ⟨fun au => by have := br.lt g au; have := h.below.size; omega, h.up g (by have := h.below.size; omega)⟩
   ·rw [cj _ _ e] at ae;exact h.hot j q g ae aw
 exact ⟨_, main⟩
theorem ep.grown {i : Nat} {r : bL} {w2 : World} {xs : List Value} (h : ep br bY R s a w A ad) (ib : Option Nat) (hold : ∀ g, ib = some g → ∃ q, R i = some q ∧ q.own g) (bQ : 0 < r.sz) (iC : w.grownBy w2 ib) (mb : r.v.oneCell' = true)
  (aq : w2.ownsRow 0 r.e r.sz r.v r.n xs) (oa : ∀ g, r.v.ownBlock = some g → ib = some g ∨ w.heap.size ≤ g) (an : bP (s.free A ad) ad w r.aV xs) (ak : ∀ y ∈ r.aV, y.bc = true) {d : Nat} (hd : d < s.n) :
  ∃ ei, ep br bY (bM R i r) (s.put (some d) (aQ r.v)) (a.put (some d) r.v) w2 ei ad := by
 obtain ⟨ei, main⟩ := h.Gd ib hold bQ iC aq oa an ak;exact ⟨ei, main.put (d := some d) (fun d' e => by cases e; exact hd) ⟨rfl, mb⟩⟩
theorem cz.FB {U : Nat → Prop} {z n : Nat} {xs : List AC} {v : Value} (h : dc U ad w (cI z n xs) v) (aF : 0 < n) : ∃ b c vs, v = .slice (some b) n c ∧ n ≤ c ∧ xs.length = n * z ∧ (∀ (j : Nat) u, vs[j]? = some u → w.cell? (b.add j) = some u) ∧ bP U ad w xs vs := by
 obtain ⟨⟨eR, c, e, ak, an, dS⟩, dy⟩ := h;obtain ⟨b, vs, rfl, et⟩ := dS aF;exact ⟨b, c, vs, e, ak, an, et.at_, et.IB fun bK c5 => dy bK ⟨c, b, e, aF, c5⟩⟩
theorem AV.spec {y : Operand} {z m : Nat} {news : List AC} (h : AV R s.look y z m news) (a6 : 0 < z) (ay : ep br bY R s a w A ad) : (∃ ue ym, a.eval y = .slice ue m ym) ∧ news.length = m * z ∧
  (0 < m → ∃ b c vs, a.eval y = .slice (some b) m c ∧ (∀ (j : Nat) u, vs[j]? = some u → w.cell? (b.add j) = some u) ∧ bP (s.free A ad) ad w news vs) := by
 rcases h with ag | ⟨j, q, lo, u, ae, rfl, ag, ⟨⟨eR, c, rL⟩, hu⟩, aF, rfl⟩
 ·have zl := ay.rel.look ag;obtain ⟨⟨ue, ym, ex, Cu, kN, WJ⟩, W1⟩ := id zl;refine ⟨⟨ue, ym, ex⟩, kN, fun hm => ?_⟩;obtain ⟨b, c, vs, td, _, _, gn, py⟩ := cz.FB zl hm;exact ⟨b, c, vs, td, gn, py⟩
 ·have td : a.eval y = u := (ay.rel.look ag).1;obtain ⟨xs, ax, an⟩ := (ay.rows j q ae).cells a6;have ahl : q.aV.length = q.n * q.sz := by rw [an.1]; exact ax.1
  have wO : lo * q.sz + m * q.sz ≤ q.n * q.sz := by rw [← jY]; exact jZ _ aF
  refine ⟨⟨eR, c, by rw [td, rL, Nat.add_sub_cancel_left]⟩, by rw [eg, hT]; omega, fun hm => ?_⟩;obtain ⟨g, n', c', aI, ap, aN⟩ := hu (by omega);refine ⟨⟨g, lo * q.sz, none⟩, _, (xs.drop (lo * q.sz)).take (m * q.sz), by rw [td, aN, Nat.add_sub_cancel_left], fun i x aa => ?_, an.sub _ _⟩
  have hi : i < m * q.sz := by
   have := (bS.1 aa).1;rw [eg] at this;omega
  rw [fK hi, gj] at aa;have := ax.cells (g := g) (by rw [aI]; rfl) _ x aa;rw [Bo] at this ⊢;simpa using this
theorem kC.out {f : Value → aJ} {ia : Value → Prop} (h : kC P R s.look o f ia) : ∃ aZ, ia aZ := by
 cases h with
 | copy => exact ⟨_, rfl⟩
 | _ => exact ⟨.bool false, rfl⟩
theorem kC.sound {f : Value → aJ} {ia : Value → Prop} {d : Nat} (h : kC P R s.look o f ia) (ay : ep br bY R s a w A ad) (hd : d < s.n) : ∃ aZ w2 ei, (execOp a.eval o).run P w = .ok (.value aZ) w2 ∧ ia aZ ∧ ep br bY (f aZ) (s.put (some d) (aQ aZ)) (a.put (some d) aZ) w2 ei ad := by
 cases h with
 | uA i r tt bytes m jh jI news hi ax aE aa ag h1 h2 ak =>
  obtain ⟨ez, z, hu, e1, a6, gY, kL, om, bQ⟩ := qU aE;obtain ⟨od, nm, wZ⟩ := ay.rows i r hi;obtain ⟨xs, iE, jv⟩ := od.row bQ;have iF : a.eval jh = r.v := (ay.rel.look aa).1;have MX : r.v.oneCell' = true := (ay.rel.look aa).2;have zl := ay.rel.look ag;rcases vp m with rfl | CL
  ·obtain ⟨⟨ue, ym, ex, Cu, kN, WJ⟩, W1⟩ := zl;have kO : news = [] := by simpa using kN
   subst kO;refine ⟨r.v, w, A, ?_, MX, ?_⟩
   ·rw [show (execOp a.eval o) = (do pure (.value (← Builtin.append_ #[tt, tt] o.type #[a.eval jh, a.eval jI])) : Sem Next) by
     simp only [execOp, ax, resolve, invoke, builtin, List.map_toArray, kv, List.map_nil];rfl]
    simp only [Sem.run_bind];rw [iF, ex]
    obtain ⟨eR, cap, hv, eK⟩ : ∃ eR cap, r.v = .slice eR r.n cap ∧ r.n ≤ cap := by
     rcases iE.2 with ⟨e, dp⟩ | ⟨g, cap, cur, hv, qp, tw, eK, _⟩
     ·exact ⟨none, 0, by rw [e, dp], by omega⟩
     ·exact ⟨_, cap, hv, eK⟩
    rw [hv];cases eR with
    | none =>
     cases ue with
     | none => simp [Builtin.append_, run_underlying hu, sizeOf, typeInfo, e1, Builtin.lenOf, Builtin.firstCells, eK, storeCells]
     | some TH => simp [Builtin.append_, run_underlying hu, sizeOf, typeInfo, e1, Builtin.lenOf, Builtin.firstCells, eK, storeCells, loadCells, loadCellsFrom]
    | some afK =>
     cases ue with
     | none => simp [Builtin.append_, run_underlying hu, sizeOf, typeInfo, e1, Builtin.lenOf, Builtin.firstCells, eK, storeCells]
     | some TH => simp [Builtin.append_, run_underlying hu, sizeOf, typeInfo, e1, Builtin.lenOf, Builtin.firstCells, eK, storeCells, loadCells, loadCellsFrom]
   ·have e : bM R i ⟨r.e, r.sz, r.v, r.n + 0, r.aV ++ []⟩ = R := by
     funext j
     by_cases e : j = i
     ·subst e; rw [cr, hi]; simp
     ·rw [cj _ _ e]
    show ep br bY (bM R i ⟨r.e, r.sz, r.v, r.n + 0, r.aV ++ []⟩) _ _ _ _ _;rw [e];exact ay.put (d := some d) (fun d' e => by cases e; exact hd) ⟨rfl, MX⟩
  ·obtain ⟨b, c, vs, td, Cu, kN, gn, py⟩ := cz.FB zl CL
   have mb : ∀ u ∈ vs, u.oneCell' = true := fun u e2 => by
    obtain ⟨j, ae⟩ := jX e2;have bi : j < news.length := by rw [py.1]; exact (bS.1 ae).1
    exact (py.2 j _ u (cm bi) ae).cell
   obtain ⟨aZ, w2, gp, wW, iC, oa, MB⟩ := Qf (P := P) w 0 tt o.type r.e ez z r.sz bytes hu e1 a6 gY kL om bQ r.v r.n xs iE b m c vs (by rw [← py.1]; exact kN) gn mb h1 h2 (eC _) CL
   obtain ⟨ei, cw⟩ := ay.grown (i := i) (r := ⟨r.e, r.sz, aZ, r.n + m, r.aV ++ news⟩) r.v.ownBlock (fun g aw => ⟨r, hi, .inl aw⟩) bQ iC MB wW oa (jv.append py) (fun y ag => by
    rcases kt.1 ag with h | h
    ·exact nm y h
    ·exact ak y h) hd
   refine ⟨aZ, w2, ei, ?_, MB, cw⟩;have Yn : (Builtin.append_ #[tt, tt] o.type #[a.eval jh, a.eval jI]).run P w = .ok aZ w2 := by rw [iF, td]; exact gp
   simp only [execOp, ax, resolve, invoke, builtin, Sem.run_bind, Sem.run_pure, Result.andThen_ok, List.map_toArray, kv, List.map_nil, Yn]
 | new i t n e sz bytes parts vs zs r hi ax aE dE a6 ab h1 hs h2 ap aq cO =>
  obtain ⟨ez, z, hu, e1, ha, gY, kL, om, bQ⟩ := qU aE;unfold xy at dE;rw [hu] at dE;simp only at dE;unfold zeroOf at dE;rw [e1] at dE;simp only [j0] at dE;rw [ha] at dE;cases dE;have hlen : z.cells.toList.length = sz := hs;have r4 : (zeroValue e).run P w = .ok z w := by simp [zeroValue, typeInfo, program, Sem.run_bind, Sem.run, e1, Result.andThen, ha]
  have jv : bP (s.free A ad) ad w (hD n sz z.cells.toList) ((List.range (n * sz)).map fun j => z.cells[j % z.cells.size]!) := by
   refine ⟨by simp [hD], fun j x v aa hv => ?_⟩;have ae : j < n * sz := by have := (bS.1 hv).1; simpa using this
   simp only [hD, eD, List.getElem?_range ae, gH, hR] at aa hv;subst aa; subst hv;have bi : j % z.cells.size < z.cells.size := Nat.mod_lt _ (by omega);have aN : z.cells.toList.toArray[j % z.cells.toList.length]! = z.cells[j % z.cells.size]! := by simp
   refine ⟨aN.symm, ?_⟩;rw [aN, getElem!_pos z.cells _ bi];exact cu.1 h1 _ (by simp)
  obtain ⟨us, g1, g2⟩ := yC (U := s.free A ad) (ad := ad) (W := w) (ps := xl n sz) (place := fun i => some (i * sz, sz)) (fun i q al => by
    simp only [xl, eD] at al;cases aq : (List.range n)[i]? with
    | none => rw [aq] at al; cases al
    | some m =>
     rw [aq] at al;cases al;have := bS.1 aq;obtain ⟨ap, aL⟩ := this;simp at aL;rw [aL]) (look := s.look) (env := a.eval) parts _ _ zs r jv a6 (fun p hp av aK => ay.rel.look aK) ab
  have w0 : us.length = n * sz := by rw [← g2.1]; exact aq
  have gp : (execOp a.eval o).run P w = .ok (.value (.slice (some ⟨w.heap.size, 0, none⟩) n n)) (w.alloc (.cells us.toArray e)) := by
   have tC : (parts.toArray.map fun (i, x) => (i, a.eval x)).toList = parts.map fun p => (p.1, a.eval p.2) := by simp
   have cC : (Array.range (n * sz)).map (fun j => z.cells[j % z.cells.size]!) = ((List.range (n * sz)).map fun j => z.cells[j % z.cells.size]!).toArray := by simp [← List.toArray_range]
   simp only [execOp, ax, Instr.buildSlice, Sem.run_bind, run_underlying hu, Result.andThen_ok, hj e1, gY];rw [if_neg (by omega)]
   by_cases aG : n * sz = 0
   ·rw [if_pos aG];have eH : (Array.range (n * sz)).map (fun j => (#[] : Array Value)[j % (#[] : Array Value).size]!) = ((List.range (n * sz)).map fun j => z.cells[j % z.cells.size]!).toArray := by rw [aG]; simp
    simp only [Sem.run_bind, Sem.run_pure, Result.andThen_ok, eH, tC, g1, newRow, newObj, Sem.run];rfl
   ·rw [if_neg aG];simp only [Sem.run_bind, Sem.run_pure, r4, Result.andThen_ok, cC, tC, g1, newRow, newObj, Sem.run];rfl
  have G1 : (w.alloc (.cells us.toArray e)).heap[w.heap.size]? = some (.cells us.toArray e (0, 0)) := by show (w.heap.push _)[w.heap.size]? = _; simp
  obtain ⟨ei, cw⟩ := ay.grown (i := i) (r := ⟨e, sz, .slice (some ⟨w.heap.size, 0, none⟩) n n, n, r⟩) (xs := us) none (fun g aw => by cases aw) bQ (World.grownBy_alloc w _ none) rfl ⟨w0, .inr ⟨w.heap.size, n, us.toArray, rfl, eC _, G1, dL _, ap, by simpa using w0, by simp [← w0]⟩⟩ (fun g aw => by simp [Value.ownBlock] at aw; exact .inr (by omega)) g2 cO hd;exact ⟨_, _, ei, gp, rfl, cw⟩
 | make i t l c e sz bytes x y ou pC vs hi ax aE dE aa ag GS h1 hs h2 ap =>
  obtain ⟨ez, z, hu, e1, ha, gY, kL, om, bQ⟩ := qU aE;unfold xy at dE;rw [hu] at dE;simp only at dE;unfold zeroOf at dE;rw [e1] at dE;simp only [j0] at dE;rw [ha] at dE;cases dE;have hlen : z.cells.toList.length = sz := hs;have XX : z.cells.size = sz := by simpa using hlen
  have CS : a.eval x = .int ou l := (ay.rel.look aa).1;have YD : a.eval y = .int pC c := (ay.rel.look ag).1;have WE : (c : Int) ≤ 9223372036854775807 := by have h := ap; simp only [maxLen] at h; omega
  have c5 : (ez.bytes : Int) * (c : Int) ≤ 281474976710656 := by
   have h : ((ez.bytes * c : Nat) : Int) ≤ 281474976710656 := by rw [kL]; omega
   rwa [Int.natCast_mul] at h
  have aq := run_make (P := P) w t e ez z hu e1 ha ou pC l c (by omega) (by omega) c5 WE;simp only [kw, gY] at aq
  have gp : (execOp a.eval o).run P w = .ok (.value (.slice (some ⟨w.heap.size, 0, none⟩) l c)) (w.alloc (.cells (madeCells z.cells (c * sz)) e)) := by
   simp only [execOp, ax, CS, YD, Sem.run_bind, aq, Result.andThen_ok, Sem.run_pure]
  have G1 : (w.alloc (.cells (madeCells z.cells (c * sz)) e)).heap[w.heap.size]? = some (.cells (madeCells z.cells (c * sz)) e (0, 0)) := by show (w.heap.push _)[w.heap.size]? = _; simp
  have hmul : l * sz ≤ c * sz := jZ _ GS;have MS : (madeCells z.cells (c * sz)).size = c * sz := size_madeCells _ _
  have Hh : ((madeCells z.cells (c * sz)).toList.take (l * sz)).length = l * sz := by
   rw [eg, Array.length_toList, MS]; exact pJ hmul
  have jv : bP (s.free A ad) ad w (hD l sz z.cells.toList) ((madeCells z.cells (c * sz)).toList.take (l * sz)) := by
   refine ⟨by rw [Hh]; simp [hD], fun j x v aa hv => ?_⟩;have ae : j < l * sz := by have := (bS.1 hv).1; rw [Hh] at this; exact this
   rw [fK ae] at hv;simp only [hD, eD, List.getElem?_range ae, gH, hR] at aa;subst aa;have bi : j % z.cells.size < z.cells.size := Nat.mod_lt _ (by omega);have aN : z.cells.toList.toArray[j % z.cells.toList.length]! = z.cells[j % z.cells.size]! := by simp
   have mG : v = z.cells[j % z.cells.size]! := by
    have : (madeCells z.cells (c * sz)).toList[j]? = some z.cells[j % z.cells.size]! := by
     simp only [madeCells, Array.toList_map, eD];rw [show (Array.range (c * sz)).toList[j]? = some j by rw [Array.toList_range, List.getElem?_range (tY ae hmul)]];rfl
    rw [this] at hv;exact (mo hv).symm
   refine ⟨by rw [aN]; exact mG, ?_⟩;rw [aN, getElem!_pos z.cells _ bi];exact cu.1 h1 _ (by simp)
  obtain ⟨ei, cw⟩ := ay.grown (i := i) (r := ⟨e, sz, .slice (some ⟨w.heap.size, 0, none⟩) l c, l, hD l sz z.cells.toList⟩) none (fun g aw => by cases aw) bQ (World.grownBy_alloc w _ none) rfl ⟨Hh, .inr ⟨w.heap.size, c, _, rfl, eC _, G1, GS, ap, MS, rfl⟩⟩ (fun g aw => by simp [Value.ownBlock] at aw; exact .inr (by omega)) jv (fun y ag => by simp only [hD, hU] at ag; obtain ⟨j, _, rfl⟩ := ag; rfl) hd;exact ⟨_, _, ei, gp, rfl, cw⟩
 | copy i r tt t2 m lo hi x y news de bQ ax aE aa ag h1 h2 ak =>
  obtain ⟨el, ez, hu, e1, hs⟩ := ms aE;have CO : (P.info? el).map (·.size) = some r.sz := by rw [e1]; simp [hs]
  obtain ⟨od, nm, wZ⟩ := ay.rows i r de;obtain ⟨xs, iE, jv⟩ := od.row bQ
  have hex : ∀ D S v2 w2, a.eval x = D → a.eval y = S → (Builtin.copy_ #[tt, t2] o.type #[D, S]).run P w = .ok v2 w2 → (execOp a.eval o).run P w = .ok (.value v2) w2 := fun D S v2 w2 aI aN cC => by
   subst aI aN;simp only [execOp, ax, resolve, invoke, builtin, Sem.run_bind, Sem.run_pure, Result.andThen_ok, List.map_toArray, kv, List.map_nil, cC]
  obtain ⟨⟨ue, ym, ex⟩, Mu, lL⟩ := ag.spec bQ ay;have oj : r.aV.length = r.n * r.sz := by rw [jv.1]; exact iE.1
  rcases vp (Nat.min m (hi - lo)) with af | af
  ·obtain ⟨eR, FL, iT, kh, Cw⟩ : ∃ eR FL iT, a.eval x = .slice eR FL iT ∧ FL = hi - lo := by
    obtain ⟨eR, c, e, _, _⟩ := (ay.rows i r de).Eh bQ;rcases aa with ⟨aa, rfl, rfl⟩ | aa | ⟨u, aa, ⟨⟨Rd, Uw, rL⟩, _⟩⟩
    ·exact ⟨eR, r.n, c, by rw [(ay.rel.look aa).1, e], by omega⟩
    ·have al : a.eval x = gJ r.v r.sz lo hi := (ay.rel.look aa).1;rw [e] at al;unfold gJ sliced at al;exact ⟨_, _, _, al, rfl⟩
    ·exact ⟨Rd, _, Uw, by rw [(ay.rel.look aa).1, rL], rfl⟩
   subst Cw;refine ⟨goInt 0, w, A, hex _ _ _ _ kh ex (ad1 w tt t2 o.type el _ _ _ _ _ _ r.sz hu CO af), by rw [af]; rfl, ?_⟩
   have e : bM R i ⟨r.e, r.sz, r.v, r.n, ey r.aV (lo * r.sz) (news.take (Nat.min m (hi - lo) * r.sz))⟩ = R := by
    rw [af];funext j
    by_cases e : j = i
    ·subst e; rw [cr, de]; simp [ey]
    ·rw [cj _ _ e]
   rw [e];exact ay.put (d := some d) (fun d' e => by cases e; exact hd) ⟨rfl, rfl⟩
  ·have XS : Nat.min m (hi - lo) ≤ m := Nat.min_le_left _ _;have ahc : Nat.min m (hi - lo) ≤ hi - lo := Nat.min_le_right _ _;obtain ⟨b, c, vs, td, gn, py⟩ := lL (by omega)
   obtain ⟨g, cap, cur, hv, qp, tw, eK, jq, et, nt⟩ : ∃ g cap cur, r.v = .slice (some ⟨g, 0, none⟩) r.n cap ∧ 0 ≤ g ∧ w.heap[g]? = some (.cells cur r.e (0, 0)) ∧ r.n ≤ cap ∧ cap ≤ maxLen ∧ cur.size = cap * r.sz ∧ cur.toList.take (r.n * r.sz) = xs := by
    rcases iE.2 with ⟨_, aG⟩ | h
    ·omega
    ·exact h
   obtain ⟨iT, kh⟩ : ∃ iT, a.eval x = .slice (some ⟨g, lo * r.sz, none⟩) (hi - lo) iT := by
    rcases aa with ⟨aa, rfl, rfl⟩ | aa | ⟨u, aa, ⟨_, hu⟩⟩
    ·exact ⟨cap, by rw [(ay.rel.look aa).1, hv]; simp⟩
    ·refine ⟨cap - lo, ?_⟩;rw [(ay.rel.look aa).1, hv, P6 (by omega) (by omega)];have kk : (⟨g, 0, none⟩ : Addr).add (lo * r.sz) = ⟨g, lo * r.sz, none⟩ := by unfold Addr.add; split <;> simp_all
     rw [kk]
    ·obtain ⟨iU, n', c', aI, _, aN⟩ := hu (by omega);rw [hv] at aI;cases aI;exact ⟨_, by rw [(ay.rel.look aa).1, aN]⟩
   generalize oc : Nat.min m (hi - lo) = k at *;have ahd : k * r.sz ≤ m * r.sz := jZ _ XS;have me : (vs.take (k * r.sz)).length = k * r.sz := by rw [eg, ← py.1, Mu]; omega
   have gA : (news.take (k * r.sz)).length = k * r.sz := by rw [eg, Mu]; omega
   have Mk : lo * r.sz + k * r.sz ≤ r.n * r.sz := by rw [← jY]; exact jZ _ (by omega)
   have hmul : r.n * r.sz ≤ cap * r.sz := jZ _ eK
   have MG : bP (s.free A ad) ad w (news.take (k * r.sz)) (vs.take (k * r.sz)) := by
    have := py.sub 0 (k * r.sz);simpa using this
   have mb : ∀ u ∈ vs.take (k * r.sz), u.oneCell' = true := fun u e2 => by
    obtain ⟨j, ae⟩ := jX e2;have bi : j < (news.take (k * r.sz)).length := by rw [gA, ← me]; exact (bS.1 ae).1
    exact (MG.2 j _ u (cm bi) ae).cell
   have gp := ad2 (P := P) w tt t2 o.type el g (lo * r.sz) (hi - lo) iT r.sz b m c cur r.e (vs.take (k * r.sz)) hu CO tw (by rw [me, oc]) (fun j v ae => gn j v (by
    have an : j < k * r.sz := by rw [← me]; exact (bS.1 ae).1
    rwa [fK an] at ae)) (by rw [me]; omega) mb
   rw [oc] at gp
   have uY : ∀ (u : Array Value), w.grownBy (w.setRow g u) (some g) := fun u => ⟨rfl, rfl, rfl, by simp [World.setRow], fun k _ af => by
    simp only [World.setRow, tW];rw [if_neg (fun e => af (by rw [e]))]⟩
   have mF := setRow_heap w g cur (cur.toList.take (lo * r.sz) ++ vs.take (k * r.sz) ++ cur.toList.drop (lo * r.sz + (vs.take (k * r.sz)).length)).toArray r.e (0, 0) tw;have cO : cur.toList.length = cap * r.sz := by rw [Array.length_toList]; exact et
   have hlen : (cur.toList.take (lo * r.sz) ++ vs.take (k * r.sz) ++ cur.toList.drop (lo * r.sz + (vs.take (k * r.sz)).length)).length = cap * r.sz := by
    rw [cR, cR, me, eg, hT, cO]; omega
   have gZ := ae2 (cur := cur.toList) (us := vs.take (k * r.sz)) (off := lo * r.sz) (N := r.n * r.sz) (by rw [me]; exact Mk) (by rw [cO]; exact hmul);rw [nt] at gZ
   obtain ⟨ei, cw⟩ := ay.Gd (i := i) (r := ⟨r.e, r.sz, r.v, r.n, ey r.aV (lo * r.sz) (news.take (k * r.sz))⟩) (w2 := w.setRow g (cur.toList.take (lo * r.sz) ++ vs.take (k * r.sz) ++ cur.toList.drop (lo * r.sz + (vs.take (k * r.sz)).length)).toArray) (xs := xs.take (lo * r.sz) ++ vs.take (k * r.sz) ++ xs.drop (lo * r.sz + (vs.take (k * r.sz)).length)) (some g) (fun iU eu => by cases eu; exact ⟨r, de, .inl (by rw [hv]; rfl)⟩) bQ (uY _)
    ⟨by rw [← gZ, eg, hlen]; exact pJ hmul, .inr ⟨g, cap, _, hv, qp, mF, eK, jq, by simpa using hlen, by simpa using gZ⟩⟩ (fun iU eu => by rw [hv] at eu; simp [Value.ownBlock] at eu; exact .inl (by rw [eu])) (jv.ey MG (lo * r.sz) (by rw [gA, oj]; exact Mk)) (fun q al => by
     unfold ey at al;simp only [kt] at al;rcases al with (h1 | h1) | h1
     ·exact nm q (oM h1)
     ·exact ak q (oM h1)
     ·exact nm q (mO h1))
   exact ⟨goInt (k : Int), _, ei, hex _ _ _ _ kh td gp, rfl, cw.put (d := some d) (fun d' e => by cases e; exact hd) ⟨rfl, rfl⟩⟩
inductive sQ (P : Program) (R : aJ) (look : Operand → Option ai) (o : Oper) : aJ → Prop
 | store (i : Nat) (r : bL) (off ty : Nat) (x y : Operand) (z : bG) (ez : TypeInfo) (hi : R i = some r) (aF : 0 < r.n) (ax : o.op = .store ty x y) (aa : look x = some (aQ (jg r.v off))) (ag : look y = some (.w z)) (aE : P.info? ty = some ez) (hs : ez.size = z.cells.length) (ab : off + z.cells.length ≤ r.aV.length) (ak : ∀ q ∈ z.cells, q.bc = true) : sQ P R look o (bM R i ⟨r.e, r.sz, r.v, r.n, ey r.aV off z.cells⟩)
theorem sQ.sound {az : aJ} (h : sQ P R s.look o az) (ay : ep br bY R s a w A ad) : ∃ w2 ei, (execOp a.eval o).run P w = .ok .skip w2 ∧ ep br bY az s a w2 ei ad := by
 cases h with
 | store i r off ty x y z ez hi aF ax aa ag aE hs ab ak =>
  obtain ⟨od, nm, wZ⟩ := ay.rows i r hi;have bQ := od.pos aF;obtain ⟨xs, iE, jv⟩ := od.row bQ
  obtain ⟨g, cap, cur, hv, qp, tw, eK, jq, et, nt⟩ : ∃ g cap cur, r.v = .slice (some ⟨g, 0, none⟩) r.n cap ∧ 0 ≤ g ∧ w.heap[g]? = some (.cells cur r.e (0, 0)) ∧ r.n ≤ cap ∧ cap ≤ maxLen ∧ cur.size = cap * r.sz ∧ cur.toList.take (r.n * r.sz) = xs := by
   rcases iE.2 with ⟨_, aG⟩ | h
   ·omega
   ·exact h
  have hp : a.eval x = .pointer (some ⟨g, off, none⟩) := by
   have := (ay.rel.look aa).1;rw [hv] at this;have kk : (⟨g, 0, none⟩ : Addr).add off = ⟨g, off, none⟩ := by unfold Addr.add; split <;> simp_all
   rw [this]; simp only [jg, kk]
  have a6 : gx (s.free A ad) ad w z (a.eval y) := ay.rel.look ag;have ol := a6.cells;have u2 : (a.eval y).cells.size = z.cells.length := by have := ol.1; simp at this; exact this.symm
  have oj : r.aV.length = r.n * r.sz := by rw [jv.1]; exact iE.1
  have hmul : r.n * r.sz ≤ cap * r.sz := jZ _ eK
  have jx : (storeVar ty ⟨g, off, none⟩ (a.eval y)).run P w = .ok () (w.setRow g (cur.toList.take off ++ (a.eval y).cells.toList ++ cur.toList.drop (off + (a.eval y).cells.toList.length)).toArray) := by
   unfold storeVar;have cn : ¬ ((a.eval y).cells.size ≠ ez.size) := by rw [u2, hs]; simp
   simp only [Sem.run_bind, hj aE, Result.andThen_ok, if_neg cn]
   have cX : ∀ v ∈ (a.eval y).cells.toList, v.oneCell' = true := fun v b4 => by
    obtain ⟨j, ae⟩ := jX b4;have bi : j < z.cells.length := by rw [ol.1]; exact (bS.1 ae).1
    exact (ol.2 j _ v (cm bi) ae).cell
   have := run_storeCells_at (P := P) g off r.e (a.eval y).cells.toList 0 cur w tw (by simp; omega) cX;simpa using this
  have uY : ∀ (u : Array Value), w.grownBy (w.setRow g u) (some g) := fun u => ⟨rfl, rfl, rfl, by simp [World.setRow], fun k _ af => by
   simp only [World.setRow, tW];rw [if_neg (fun e => af (by rw [e]))]⟩
  have mF := setRow_heap w g cur (cur.toList.take off ++ (a.eval y).cells.toList ++ cur.toList.drop (off + (a.eval y).cells.toList.length)).toArray r.e (0, 0) tw
  have hlen : (cur.toList.take off ++ (a.eval y).cells.toList ++ cur.toList.drop (off + (a.eval y).cells.toList.length)).length = cap * r.sz := by
   simp [u2]; omega
  have gZ : (cur.toList.take off ++ (a.eval y).cells.toList ++ cur.toList.drop (off + (a.eval y).cells.toList.length)).take (r.n * r.sz) = xs.take off ++ (a.eval y).cells.toList ++ xs.drop (off + (a.eval y).cells.toList.length) := by
   have M0 : (a.eval y).cells.toList.length = z.cells.length := by simpa using u2
   rw [← nt];apply List.ext_getElem?;intro j
   by_cases ae : j < r.n * r.sz
   ·rw [fK ae]
    by_cases qy : j < off
    ·rw [ig, fV (by simp; omega), fK qy, ig, fV (by simp; omega), fK qy, fK ae]
    ·have t1 : (cur.toList.take off).length = off := by simp; omega
     have t2 : ((cur.toList.take (r.n * r.sz)).take off).length = off := by simp; omega
     by_cases C2 : j < off + z.cells.length
     ·rw [ig, gr (by omega), fV (by omega), ig, gr (by omega), fV (by omega), t1, t2]
     ·rw [gr (by simp only [cR, t1]; omega), gr (by simp only [cR, t2]; omega), gj, gj];simp only [cR, t1, t2, M0];rw [fK (by omega)]
   ·rw [qL (by simp; omega), qL];simp only [cR, eg, hT, M0];have : cur.toList.length = cap * r.sz := by simpa using et
    omega
  obtain ⟨ei, cw⟩ := ay.Gd (i := i) (r := ⟨r.e, r.sz, r.v, r.n, ey r.aV off z.cells⟩) (w2 := w.setRow g (cur.toList.take off ++ (a.eval y).cells.toList ++ cur.toList.drop (off + (a.eval y).cells.toList.length)).toArray) (xs := xs.take off ++ (a.eval y).cells.toList ++ xs.drop (off + (a.eval y).cells.toList.length)) (some g) (fun iU eu => by cases eu; exact ⟨r, hi, .inl (by rw [hv]; rfl)⟩) bQ (uY _)
   ⟨by simp [u2]; have := iE.1; omega, .inr ⟨g, cap, _, hv, qp, mF, eK, jq, by simpa using hlen, by simpa using gZ⟩⟩ (fun iU eu => by rw [hv] at eu; simp [Value.ownBlock] at eu; exact .inl (by rw [eu])) (jv.ey ol off ab) (fun q al => by
    unfold ey at al;simp only [kt] at al;rcases al with (h1 | h1) | h1
    ·exact nm q (oM h1)
    ·exact ak q h1
    ·exact nm q (mO h1))
  refine ⟨_, ei, ?_, cw⟩;simp only [execOp, ax, Instr.storeAt, hp, Instr.sureAddr, Sem.run_bind, Sem.run_pure, Result.andThen_ok, jx]
end
end Go.Proofs.YtpochbhajmbfdaaGreat
