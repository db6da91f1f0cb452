/-
  My own texts, without what this claim does not need. My own text.
-/
import Derived.Laws.AppendOwn
import Derived.Laws.MakeOwn
import Derived.Laws.Slices
import Derived.Test.YtpochbhajmbfdaaGreatSEndsK3
set_option maxRecDepth 100000
set_option maxHeartbeats 64000000
set_option linter.unusedVariables false
set_option linter.unusedSimpArgs false
set_option linter.unusedSectionVars false
open Go.Proofs.Tryz renaming prog → ai
namespace Go.Proofs.YtpochbhajmbfdaaGreat
open Go.RowKit
def tb (n : Int) : Bool := decide (-536870912 ≤ n) && decide (n ≤ 536870912)
theorem LC {n : Int} : tb n = true ↔ -536870912 ≤ n ∧ n ≤ 536870912 := by unfold tb; rw [dS, cE, cE]
def eb (x y : Int) : Bool := tb x && tb y
theorem P1 {x y : Int} : eb x y = true ↔ (-536870912 ≤ x ∧ x ≤ 536870912) ∧ -536870912 ≤ y ∧ y ≤ 536870912 := by unfold eb; rw [dS, LC, LC]
theorem Pj {n : Int} {b : Bool} (ab : tb n = b) : aR ai 273 [aT n] (bE b) := by
 have cs : (-536870912 ≤ n ∧ n ≤ 536870912 ∧ b = true) ∨ (-536870912 ≤ n ∧ ¬ n ≤ 536870912 ∧ b = false) ∨ (¬ -536870912 ≤ n ∧ b = false) := by
  rw [← ab]; unfold tb
  by_cases h1 : -536870912 ≤ n <;> by_cases h2 : n ≤ 536870912 <;> simp [h1, h2]
 clear ab;rcases cs with ⟨h1, h2, rfl⟩ | ⟨h1, h2, rfl⟩ | ⟨h1, rfl⟩
 all_goals
  refine cc (f := 273) Tryz.func273 rfl rfl rfl rfl ?_;(repeat first | (with_reducible apply aA); exact rfl | (with_reducible apply dv (c := true)); exact rfl; exact rfl; (exact bG (by omega)) | (with_reducible apply dv (c := false)); exact rfl; exact rfl; (exact b3 (by omega)) | (with_reducible first | apply bN | apply bH | apply bL | apply aB | apply b6))
  ((refine bR rfl (bC rfl bf) ?_))
  first | exact aj.bp.refl _ | exact aj.bp.of_eq (by rw [bG h2]; rfl) | exact aj.bp.of_eq (by rw [b3 h2]; rfl)
theorem sf {x y : Int} {b : Bool} (ab : eb x y = b) : aR ai 243 [bh x y] (bE b) := by
 have aM := Pj (n := x) rfl;have bU := Pj (n := y) rfl;unfold eb at ab;cases q1 : tb x <;> cases q2 : tb y <;> rw [q1] at aM <;> rw [q2] at bU <;> rw [q1, q2] at ab <;> subst ab <;> clear q1 q2
 all_goals
  refine cc (f := 243) Tryz.func243 rfl rfl rfl rfl ?_;(repeat first | (with_reducible apply aA); exact rfl | refine eO rfl rfl rfl (by (first | exact aM | exact bU)) rfl ?_ | (with_reducible first | apply bN | apply bH | apply bL | apply aB | apply b6))
  ((refine bR rfl (bC rfl bf) ?_))
  exact aj.bp.refl _
def cj (o1 o2 a1 a2 b1 b2 : Int) : Int := (a1 - o1) * (b2 - o2) - (a2 - o2) * (b1 - o1)
theorem H4 {x y A B : Int} (h1 : -A ≤ x) (h2 : x ≤ A) (ap : -B ≤ y) (aL : y ≤ B) : -(A * B) ≤ x * y ∧ x * y ≤ A * B := by
 have aa : x.natAbs ≤ A.natAbs := by omega
 have ah : y.natAbs ≤ B.natAbs := by omega
 have h := Nat.mul_le_mul aa ah;rw [← Int.natAbs_mul, ← Int.natAbs_mul] at h;have dU : 0 ≤ A * B := hL (by omega) (by omega);omega
theorem Ol {x y : Int} (h1 : -1073741824 ≤ x) (h2 : x ≤ 1073741824) (ap : -1073741824 ≤ y) (aL : y ≤ 1073741824) : -1152921504606846976 ≤ x * y ∧ x * y ≤ 1152921504606846976 := by
 have := H4 h1 h2 ap aL;omega
theorem Pf {o1 o2 a1 a2 b1 b2 : Int} (ay : eb o1 o2 = true) (aK : eb a1 a2 = true) (ab : eb b1 b2 = true) : aR ai 218 [bh o1 o2, bh a1 a2, bh b1 b2] (aT (cj o1 o2 a1 a2 b1 b2)) := by
 have bl := sf ay;have eV := sf aK;have jO := sf ab;rw [P1] at ay aK ab;have m1 := Ol (x := a1 - o1) (y := b2 - o2) (by omega) (by omega) (by omega) (by omega);have m2 := Ol (x := a2 - o2) (y := b1 - o1) (by omega) (by omega) (by omega) (by omega);refine cc (f := 218) Tryz.func218 rfl rfl rfl rfl ?_;(repeat first | (with_reducible apply aA); exact rfl | (with_reducible apply n2); (iterate 3 exact rfl); (exact cX (by omega)); exact rfl | (with_reducible apply rq); (iterate 3 exact rfl); (exact cX (by omega)); exact rfl | refine eO rfl rfl rfl (by (first | exact bl | exact eV | exact jO)) rfl ?_ | (with_reducible first | apply bN | apply bH | apply bL | apply aB | apply b6 | apply eR) | (with_reducible apply hA); exact rfl)
 ((refine bR rfl (bC rfl bf) ?_))
 exact aj.bp.refl _
theorem abX {o1 o2 a1 a2 b1 b2 : Int} (h : (eb o1 o2 && eb a1 a2 && eb b1 b2) = false) : aR ai 218 [bh o1 o2, bh a1 a2, bh b1 b2] (aT 0) := by
 have bl := sf (x := o1) (y := o2) rfl;have eV := sf (x := a1) (y := a2) rfl;have jO := sf (x := b1) (y := b2) rfl
 have cs : eb o1 o2 = false ∨ (eb o1 o2 = true ∧ eb a1 a2 = false) ∨ (eb o1 o2 = true ∧ eb a1 a2 = true ∧ eb b1 b2 = false) := by
  generalize eb o1 o2 = p at *;generalize eb a1 a2 = q at *;generalize eb b1 b2 = r at *;cases p <;> cases q <;> cases r <;> simp_all
 clear h;rcases cs with h1 | ⟨h1, h2⟩ | ⟨h1, h2, ap⟩ <;> simp only [*] at bl eV jO
 all_goals
  refine cc (f := 218) Tryz.func218 rfl rfl rfl rfl ?_;(repeat first | (with_reducible apply aA); exact rfl | refine eO rfl rfl rfl (by (first | exact bl | exact eV | exact jO)) rfl ?_ | (with_reducible first | apply bN | apply bH | apply bL | apply aB | apply b6 | apply fC) | (with_reducible apply h8); exact rfl)
  ((refine bR rfl (bC rfl bf) ?_))
  exact aj.bp.refl _
def rC (o1 o2 a1 a2 b1 b2 : Int) : Int := if (eb o1 o2 && eb a1 a2 && eb b1 b2) = true then cj o1 o2 a1 a2 b1 b2 else 0
theorem abW {o1 o2 a1 a2 b1 b2 : Int} : aR ai 218 [bh o1 o2, bh a1 a2, bh b1 b2] (aT (rC o1 o2 a1 a2 b1 b2)) := by
 unfold rC
 by_cases h : (eb o1 o2 && eb a1 a2 && eb b1 b2) = true
 ·rw [if_pos h];simp only [dS] at h;exact Pf h.1.1 h.1.2 h.2
 ·rw [if_neg h];exact abX (by simpa using h)
def qU (n : Int) : Int := if n < 0 then -1 else if 0 < n then 1 else 0
theorem ack {o1 o2 a1 a2 b1 b2 : Int} : aR ai 276 [bh o1 o2, bh a1 a2, bh b1 b2] (aT (qU (rC o1 o2 a1 a2 b1 b2))) := by
 have aM := abW (o1 := o1) (o2 := o2) (a1 := a1) (a2 := a2) (b1 := b1) (b2 := b2);generalize rC o1 o2 a1 a2 b1 b2 = c at *;have cs : (c < 0 ∧ qU c = -1) ∨ (¬ c < 0 ∧ 0 < c ∧ qU c = 1) ∨ (¬ c < 0 ∧ ¬ 0 < c ∧ qU c = 0) := by unfold qU; repeat' split <;> omega
 rcases cs with ⟨h1, h⟩ | ⟨h1, h2, h⟩ | ⟨h1, h2, h⟩ <;> rw [h] <;> clear h
 all_goals
  refine cc (f := 276) Tryz.func276 rfl rfl rfl rfl ?_;(repeat first | (with_reducible apply aA); exact rfl | refine jS rfl rfl rfl rfl rfl (by (exact aM)) rfl ?_ | (with_reducible first | apply bN | apply bH | apply bL | apply aB | apply b6 | apply eR | apply fC | apply gp | apply mG | apply l6) | (with_reducible apply gf); exact rfl; (exact bG (by omega)) | (with_reducible apply hz); exact rfl; (exact b3 (by omega)))
  ((refine bR rfl (bC rfl bf) ?_))
  exact aj.bp.refl _
abbrev gI (a b : Int) : Int := if b < a then b else a
abbrev gH (a b : Int) : Int := if b > a then b else a
theorem abT {a1 a2 b1 b2 : Int} : aR ai 275 [bh a1 a2, bh b1 b2] (iS (gI a1 b1) (gI a2 b2) (gH a1 b1) (gH a2 b2)) := by
 refine cc (f := 275) Tryz.func275 rfl rfl rfl rfl ?_;(repeat first | (with_reducible apply aA); exact rfl | (with_reducible apply v8); (iterate 4 exact rfl) | (with_reducible apply sR); (iterate 4 exact rfl) | (with_reducible first | apply bN | apply bH | apply bL | apply aB | apply b6))
 ((refine bR rfl (e0 rfl rfl rfl bf) ?_))
 exact aj.bp.refl _
def fj (l1 l2 h1 h2 p1 p2 : Int) : Bool := decide (l1 ≤ p1) && decide (p1 ≤ h1) && decide (l2 ≤ p2) && decide (p2 ≤ h2)
theorem WQ {l1 l2 h1 h2 p1 p2 : Int} : fj l1 l2 h1 h2 p1 p2 = true ↔ l1 ≤ p1 ∧ p1 ≤ h1 ∧ l2 ≤ p2 ∧ p2 ≤ h2 := by unfold fj; simp only [dS, cE, and_assoc]
theorem ab3 {l1 l2 h1 h2 p1 p2 : Int} {b : Bool} (ab : fj l1 l2 h1 h2 p1 p2 = b) : aR ai 274 [iS l1 l2 h1 h2, bh p1 p2] (bE b) := by
 have cs : (l1 ≤ p1 ∧ p1 ≤ h1 ∧ l2 ≤ p2 ∧ p2 ≤ h2 ∧ b = true) ∨ (l1 ≤ p1 ∧ p1 ≤ h1 ∧ l2 ≤ p2 ∧ ¬ p2 ≤ h2 ∧ b = false) ∨ (l1 ≤ p1 ∧ p1 ≤ h1 ∧ ¬ l2 ≤ p2 ∧ b = false) ∨ (l1 ≤ p1 ∧ ¬ p1 ≤ h1 ∧ b = false) ∨ (¬ l1 ≤ p1 ∧ b = false) := by
  rw [← ab]; unfold fj
  by_cases q1 : l1 ≤ p1 <;> by_cases q2 : p1 ≤ h1 <;> by_cases cg : l2 ≤ p2 <;> by_cases ep : p2 ≤ h2 <;> simp [q1, q2, cg, ep]
 clear ab;rcases cs with ⟨q1, q2, cg, ep, rfl⟩ | ⟨q1, q2, cg, ep, rfl⟩ | ⟨q1, q2, cg, rfl⟩ | ⟨q1, q2, rfl⟩ | ⟨q1, rfl⟩
 all_goals
  refine cc (f := 274) Tryz.func274 rfl rfl rfl rfl ?_;(repeat first | (with_reducible apply aA); exact rfl | (with_reducible apply dv (c := true)); exact rfl; exact rfl; (exact bG (by omega)) | (with_reducible apply dv (c := false)); exact rfl; exact rfl; (exact b3 (by omega)) | (with_reducible first | apply bN | apply bH | apply bL | apply aB | apply b6))
  ((refine bR rfl (bC rfl bf) ?_))
  first | exact aj.bp.refl _ | exact aj.bp.of_eq (by rw [bG ep]; rfl) | exact aj.bp.of_eq (by rw [b3 ep]; rfl)
def DI (p1 p2 a1 a2 b1 b2 : Int) : Bool := eb p1 p2 && eb a1 a2 && eb b1 b2 && fj (gI a1 b1) (gI a2 b2) (gH a1 b1) (gH a2 b2) p1 p2 && decide (cj a1 a2 b1 b2 p1 p2 = 0)
theorem aer {n : Int} : qU n = 0 ↔ n = 0 := by unfold qU; repeat' split <;> omega
theorem acd {p1 p2 a1 a2 b1 b2 : Int} {b : Bool} (ab : DI p1 p2 a1 a2 b1 b2 = b) : aR ai 244 [bh p1 p2, bh a1 a2, bh b1 b2] (bE b) := by
 have bl := sf (x := p1) (y := p2) rfl;have eV := sf (x := a1) (y := a2) rfl;have jO := sf (x := b1) (y := b2) rfl;have H1 := abT (a1 := a1) (a2 := a2) (b1 := b1) (b2 := b2);have cd := ab3 (l1 := gI a1 b1) (l2 := gI a2 b2) (h1 := gH a1 b1) (h2 := gH a2 b2) (p1 := p1) (p2 := p2) rfl;have qb := ack (o1 := a1) (o2 := a2) (a1 := b1) (a2 := b2) (b1 := p1) (b2 := p2);unfold DI at ab
 have cs : (eb p1 p2 = false ∧ b = false) ∨ (eb p1 p2 = true ∧ eb a1 a2 = false ∧ b = false) ∨ (eb p1 p2 = true ∧ eb a1 a2 = true ∧ eb b1 b2 = false ∧ b = false)
   ∨ (eb p1 p2 = true ∧ eb a1 a2 = true ∧ eb b1 b2 = true ∧ fj (gI a1 b1) (gI a2 b2) (gH a1 b1) (gH a2 b2) p1 p2 = false ∧ b = false)
   ∨ (eb p1 p2 = true ∧ eb a1 a2 = true ∧ eb b1 b2 = true ∧ fj (gI a1 b1) (gI a2 b2) (gH a1 b1) (gH a2 b2) p1 p2 = true ∧ b = decide (qU (rC a1 a2 b1 b2 p1 p2) = 0)) := by
  have e : decide (qU (rC a1 a2 b1 b2 p1 p2) = 0) = decide (rC a1 a2 b1 b2 p1 p2 = 0) := by rw [oL, cE, cE, aer]
  rw [e];unfold rC;generalize cj a1 a2 b1 b2 p1 p2 = c at *;generalize eb p1 p2 = c5 at *;generalize eb a1 a2 = dt at *;generalize eb b1 b2 = kw at *;generalize fj _ _ _ _ p1 p2 = mY at *;cases c5 <;> cases dt <;> cases kw <;> cases mY <;> simp_all
 clear ab;generalize fj _ _ _ _ p1 p2 = mY at *;generalize gI a1 b1 = i1 at *;generalize gI a2 b2 = i2 at *;generalize gH a1 b1 = i3 at *;generalize gH a2 b2 = i4 at *;generalize qU (rC a1 a2 b1 b2 p1 p2) = t at *;rcases cs with ⟨h1, rfl⟩ | ⟨h1, h2, rfl⟩ | ⟨h1, h2, ap, rfl⟩ | ⟨h1, h2, ap, rfl, rfl⟩ | ⟨h1, h2, ap, rfl, rfl⟩ <;> simp only [*] at bl eV jO
 all_goals
  refine cc (f := 244) Tryz.func244 rfl rfl rfl rfl ?_;(repeat first | (with_reducible apply aA); exact rfl | refine eO rfl rfl rfl (by (first | exact bl | exact eV | exact jO)) rfl ?_ | refine dI rfl rfl rfl rfl (by (first | exact H1 | exact cd)) rfl ?_ | refine jS rfl rfl rfl rfl rfl (by (exact qb)) rfl ?_ | (with_reducible apply h6); kernel_rfl | (with_reducible apply h9); kernel_rfl; kernel_rfl; exact rfl | (with_reducible first | apply bN | apply bH | apply bL | apply aB | apply b6))
  ((refine bR rfl (bC rfl bf) ?_))
  exact aj.bp.refl _
end Go.Proofs.YtpochbhajmbfdaaGreat
namespace Go.Proofs.YtpochbhajmbfdaaGreat
def cy (x y : Int) : Bool := decide (x ≤ 134217728) && decide (y ≤ 134217728) && decide (-134217728 ≤ x) && decide (-134217728 ≤ y)
theorem ss {x y : Int} : cy x y = true ↔ (-134217728 ≤ x ∧ x ≤ 134217728) ∧ -134217728 ≤ y ∧ y ≤ 134217728 := by
  unfold cy;simp only [dS, cE];omega
def dl (a1 a2 b1 b2 : Int) : Prop := a1 < b1 ∨ (a1 = b1 ∧ a2 ≤ b2)
instance (a1 a2 b1 b2 : Int) : Decidable (dl a1 a2 b1 b2) := by unfold dl; exact inferInstance
theorem dl.ID {a1 a2 : Int} : dl a1 a2 a1 a2 := .inr ⟨rfl, oM _⟩
theorem dl.trans {a1 a2 b1 b2 c1 c2 : Int} (h : dl a1 a2 b1 b2) (k : dl b1 b2 c1 c2) : dl a1 a2 c1 c2 := by unfold dl at *; omega
theorem dl.total (a1 a2 b1 b2 : Int) : dl a1 a2 b1 b2 ∨ dl b1 b2 a1 a2 := by unfold dl; omega
theorem dl.Bv {a1 a2 b1 b2 : Int} (h : dl a1 a2 b1 b2) (k : dl b1 b2 a1 a2) : a1 = b1 ∧ a2 = b2 := by unfold dl at *; omega
def r1 (p1 p2 a1 a2 b1 b2 : Int) : Prop := gI a1 b1 ≤ p1 ∧ p1 ≤ gH a1 b1 ∧ gI a2 b2 ≤ p2 ∧ p2 ≤ gH a2 b2
theorem KB {s1 s2 t1 t2 p1 p2 : Int} (jz : dl s1 s2 t1 t2) (ak : cj s1 s2 t1 t2 p1 p2 = 0) : r1 p1 p2 s1 s2 t1 t2 ↔ dl s1 s2 p1 p2 ∧ dl p1 p2 t1 t2 := by
  unfold cj at ak;have tn : (t1 - s1) * (p2 - s2) = (t2 - s2) * (p1 - s1) := by omega
  unfold r1 gI gH dl at *
  by_cases h1 : s1 = t1
  · subst h1
    have e : (t2 - s2) * (p1 - s1) = 0 := by rw [← tn]; simp
    rcases sk.1 e with e | e
    · constructor
      · intro h; split at h <;> (try split at h) <;> (try split at h) <;> (try split at h) <;> omega
      · intro h; split <;> (try split) <;> (try split) <;> (try split) <;> omega
    · constructor
      · intro h; split at h <;> (try split at h) <;> (try split at h) <;> (try split at h) <;> omega
      · intro h; split <;> (try split) <;> (try split) <;> (try split) <;> omega
  · have h2 : s1 < t1 := by omega
    have hd : 0 < t1 - s1 := by omega
    rw [if_neg (show ¬ t1 < s1 by omega), if_pos (show t1 > s1 by omega)]
   
    have key : s1 ≤ p1 → p1 ≤ t1 → (if t2 < s2 then t2 else s2) ≤ p2 ∧ p2 ≤ (if t2 > s2 then t2 else s2) := by
      intro bB cf
      by_cases g : t2 < s2
      · rw [if_pos g, if_neg (by omega)]
        have a1 : (t2 - s2) * (t1 - s1) ≤ (t2 - s2) * (p1 - s1) := Int.mul_le_mul_of_nonpos_left (by omega) (by omega);have a2 : (t2 - s2) * (p1 - s1) ≤ 0 := Int.mul_nonpos_of_nonpos_of_nonneg (by omega) (by omega);rw [← tn] at a1 a2;rw [jG (t2 - s2)] at a1;have b1 := Int.le_of_mul_le_mul_left a1 hd
        have b2 : p2 - s2 ≤ 0 := by
          have : (t1 - s1) * (p2 - s2) ≤ (t1 - s1) * 0 := by omega
          exact Int.le_of_mul_le_mul_left this hd
        omega
      · rw [if_neg g]
        have a1 : (t2 - s2) * (p1 - s1) ≤ (t2 - s2) * (t1 - s1) := pK (by omega) (by omega);have a2 : 0 ≤ (t2 - s2) * (p1 - s1) := hL (by omega) (by omega);rw [← tn] at a1 a2;rw [jG (t2 - s2)] at a1;have b1 := Int.le_of_mul_le_mul_left a1 hd
        have b2 : 0 ≤ p2 - s2 := by
          have : (t1 - s1) * 0 ≤ (t1 - s1) * (p2 - s2) := by omega
          exact Int.le_of_mul_le_mul_left this hd
        split <;> omega
    constructor
    · rintro ⟨bB, cf, hE, jb⟩
      constructor
      · by_cases g : s1 < p1
        · exact .inl g
        · right
          have : p1 = s1 := by omega
          subst this;have : (t1 - p1) * (p2 - s2) = 0 := by rw [tn]; simp
          rcases sk.1 this with e | e <;> omega
      · by_cases g : p1 < t1
        · exact .inl g
        · right
          have : p1 = t1 := by omega
          subst this;rw [jG (t2 - s2)] at tn;have := Int.eq_of_mul_eq_mul_left (show p1 - s1 ≠ 0 by omega) tn;omega
    · rintro ⟨bB, cf⟩
      have Hv : s1 ≤ p1 := by omega
      have Hw : p1 ≤ t1 := by omega
      exact ⟨Hv, Hw, (key Hv Hw).1, (key Hv Hw).2⟩
def dj (p1 p2 s1 s2 t1 t2 : Int) : Prop := cj s1 s2 t1 t2 p1 p2 = 0 ∧ r1 p1 p2 s1 s2 t1 t2
theorem vt {s1 s2 t1 t2 p1 p2 : Int} (jz : dl s1 s2 t1 t2) : dj p1 p2 s1 s2 t1 t2 ↔ cj s1 s2 t1 t2 p1 p2 = 0 ∧ dl s1 s2 p1 p2 ∧ dl p1 p2 t1 t2 := by
  unfold dj
  constructor
  · rintro ⟨h, k⟩; exact ⟨h, (KB jz h).1 k⟩
  · rintro ⟨h, k⟩; exact ⟨h, (KB jz h).2 k⟩
theorem FG (a1 a2 b1 b2 : Int) : cj a1 a2 b1 b2 a1 a2 = 0 := by unfold cj; grind
theorem KX (a1 a2 b1 b2 : Int) : cj a1 a2 b1 b2 b1 b2 = 0 := by unfold cj; grind
theorem tP {s1 s2 t1 t2 : Int} (jz : dl s1 s2 t1 t2) : dj s1 s2 s1 s2 t1 t2 := (vt jz).2 ⟨FG .., .ID, jz⟩
theorem tO {s1 s2 t1 t2 : Int} (jz : dl s1 s2 t1 t2) : dj t1 t2 s1 s2 t1 t2 := (vt jz).2 ⟨KX .., jz, .ID⟩
theorem zR {p1 p2 s1 s2 : Int} (h : dj p1 p2 s1 s2 s1 s2) : p1 = s1 ∧ p2 = s2 := by
  obtain ⟨_, h1, h2⟩ := (vt dl.ID).1 h;have := dl.Bv h1 h2; omega
def oH (s1 s2 bT bY t1 t2 t3 t4 : Int) : Int := (bT - s1) * (t4 - t2) - (bY - s2) * (t3 - t1)
theorem tR {s1 s2 bT bY t1 t2 t3 t4 p1 p2 cQ dN : Int} (hs : dl s1 s2 bT bY) (aD : dl t1 t2 t3 t4) (hw : oH s1 s2 bT bY t1 t2 t3 t4 = 0)
    (ps : dj p1 p2 s1 s2 bT bY) (oJ : dj p1 p2 t1 t2 t3 t4) (sx : dj cQ dN s1 s2 bT bY) (h3 : dl t1 t2 cQ dN) (adx : dl cQ dN t3 t4) : dj cQ dN t1 t2 t3 t4 := by
  by_cases hd : s1 = bT ∧ s2 = bY
  · obtain ⟨rfl, rfl⟩ := hd
    obtain ⟨rfl, rfl⟩ := zR ps;obtain ⟨rfl, rfl⟩ := zR sx;exact oJ
  · refine (vt aD).2 ⟨?_, h3, adx⟩
    have a := ps.1;have b := oJ.1;have c := sx.1;unfold cj oH at *;have d1 : (bT - s1) * ((t3 - t1) * (dN - t2) - (t4 - t2) * (cQ - t1)) = 0 := by grind
    have d2 : (bY - s2) * ((t3 - t1) * (dN - t2) - (t4 - t2) * (cQ - t1)) = 0 := by grind
    rcases sk.1 d1 with e | e
    · rcases sk.1 d2 with f | f
      · omega
      · exact f
    · exact e
theorem KC {x y A B D : Int} (kf : 0 < D) (e : D = A - B) : (gI x y * D ≤ y * A - x * B ∧ y * A - x * B ≤ gH x y * D) ↔ (x = y ∨ (B ≤ 0 ∧ 0 ≤ A)) := by
  subst e;unfold gI gH
  by_cases h : x = y
  · subst h
    have : x * (A - B) = x * A - x * B := Int.mul_sub ..;simp [this]
  · have pos : ∀ {u v : Int}, 0 < u → (0 ≤ u * v ↔ 0 ≤ v) := by
      intro u v hu
      constructor
      · intro k
        have k' : u * 0 ≤ u * v := by omega
        exact Int.le_of_mul_le_mul_left k' hu
      · intro k; exact hL (by omega) k
    by_cases g : x < y
    · rw [if_neg (by omega), if_pos (show y > x from g)]
      have hu : 0 < y - x := by omega
      have aI : y * A - x * B - x * (A - B) = (y - x) * A := by grind
      have aO : y * (A - B) - (y * A - x * B) = (y - x) * (-B) := by grind
      have p1 := pos (v := A) hu;have p2 := pos (v := -B) hu;omega
    · rw [if_pos (by omega), if_neg (by omega)]
      have hu : 0 < x - y := by omega
      have aI : x * (A - B) - (y * A - x * B) = (x - y) * A := by grind
      have aO : y * A - x * B - y * (A - B) = (x - y) * (-B) := by grind
      have p1 := pos (v := A) hu;have p2 := pos (v := -B) hu;omega
def kC (n d a b : Int) : Prop := gI a b * d ≤ n ∧ n ≤ gH a b * d
theorem BE {x y u v A B D : Int} (kf : 0 < D) (e : D = A - B) (cq : ¬ (x = y ∧ u = v)) : (kC (y * A - x * B) D x y ∧ kC (v * A - u * B) D u v) ↔ (B ≤ 0 ∧ 0 ≤ A) := by
  unfold kC;rw [KC kf e, KC kf e];omega
theorem rz {n d a b : Int} : kC n d a b ↔ kC n d b a := by
  unfold kC gI gH
  by_cases h : a = b
  · subst h; rfl
  · by_cases g : a < b
    · rw [if_neg (by omega), if_pos (show b > a from g), if_pos g, if_neg (by omega)]
    · rw [if_pos (show b < a by omega), if_neg (by omega), if_neg g, if_pos (by omega)]
structure fA where
  k : Int
  n : Int
  d : Int
  m : Int
  e : Int
  p1 : Int
  p2 : Int
  q1 : Int
  q2 : Int
def hG : fA := ⟨0, 0, 0, 0, 0, 0, 0, 0, 0⟩
def iP (n d m e : Int) : fA := ⟨1, n, d, m, e, 0, 0, 0, 0⟩
def sN (p1 p2 q1 q2 : Int) : fA := ⟨2, 0, 0, 0, 0, p1, p2, q1, q2⟩
def jc (n d : Int) : Int := if d < 0 then -n else n
def ih (d : Int) : Int := if d < 0 then -d else d
theorem qF {d : Int} (h : d ≠ 0) (n : Int) : jc (-n) (-d) = jc n d := by unfold jc; split <;> split <;> omega
theorem zP (d : Int) : ih (-d) = ih d := by unfold ih; split <;> split <;> omega
theorem OM {d : Int} (h : d ≠ 0) : 0 < ih d := by unfold ih; split <;> omega
def jB (a1 a2 b1 b2 c1 c2 d1 d2 : Int) : Int := ((b2 - a2) * a1 + (a1 - b1) * a2) * (c1 - d1) - (a1 - b1) * ((d2 - c2) * c1 + (c1 - d1) * c2)
def jC (a1 a2 b1 b2 c1 c2 d1 d2 : Int) : Int := (b2 - a2) * ((d2 - c2) * c1 + (c1 - d1) * c2) - ((b2 - a2) * a1 + (a1 - b1) * a2) * (d2 - c2)
def cW (a1 a2 b1 b2 c1 c2 d1 d2 : Int) : Int := (b2 - a2) * (c1 - d1) - (a1 - b1) * (d2 - c2)
theorem Q4 (a1 a2 b1 b2 c1 c2 d1 d2 : Int) : cW a1 a2 b1 b2 c1 c2 d1 d2 = oH a1 a2 b1 b2 c1 c2 d1 d2 := by unfold cW oH; grind
section
variable (a1 a2 b1 b2 c1 c2 d1 d2 : Int)
theorem ED : cW b1 b2 a1 a2 c1 c2 d1 d2 = - cW a1 a2 b1 b2 c1 c2 d1 d2 := by unfold cW; grind
theorem Ay : cW a1 a2 b1 b2 d1 d2 c1 c2 = - cW a1 a2 b1 b2 c1 c2 d1 d2 := by unfold cW; grind
theorem EE : cW c1 c2 d1 d2 a1 a2 b1 b2 = - cW a1 a2 b1 b2 c1 c2 d1 d2 := by unfold cW; grind
theorem aaU : jB b1 b2 a1 a2 c1 c2 d1 d2 = - jB a1 a2 b1 b2 c1 c2 d1 d2 := by unfold jB; grind
theorem aaV : jB a1 a2 b1 b2 d1 d2 c1 c2 = - jB a1 a2 b1 b2 c1 c2 d1 d2 := by unfold jB; grind
theorem Oo : jB c1 c2 d1 d2 a1 a2 b1 b2 = - jB a1 a2 b1 b2 c1 c2 d1 d2 := by unfold jB; grind
theorem aaW : jC b1 b2 a1 a2 c1 c2 d1 d2 = - jC a1 a2 b1 b2 c1 c2 d1 d2 := by unfold jC; grind
theorem aaX : jC a1 a2 b1 b2 d1 d2 c1 c2 = - jC a1 a2 b1 b2 c1 c2 d1 d2 := by unfold jC; grind
theorem Oq : jC c1 c2 d1 d2 a1 a2 b1 b2 = - jC a1 a2 b1 b2 c1 c2 d1 d2 := by unfold jC; grind
theorem H8 : c1 * cj a1 a2 b1 b2 d1 d2 - d1 * cj a1 a2 b1 b2 c1 c2 = jB a1 a2 b1 b2 c1 c2 d1 d2 := by unfold jB cj; grind
theorem H9 : c2 * cj a1 a2 b1 b2 d1 d2 - d2 * cj a1 a2 b1 b2 c1 c2 = jC a1 a2 b1 b2 c1 c2 d1 d2 := by unfold jC cj; grind
theorem Jc : cj a1 a2 b1 b2 d1 d2 - cj a1 a2 b1 b2 c1 c2 = cW a1 a2 b1 b2 c1 c2 d1 d2 := by unfold cW cj; grind
end
def four (a1 a2 b1 b2 c1 c2 d1 d2 x y d : Int) : Prop := kC x d a1 b1 ∧ kC y d a2 b2 ∧ kC x d c1 d1 ∧ kC y d c2 d2
instance (n d a b : Int) : Decidable (kC n d a b) := by unfold kC; exact inferInstance
instance (a1 a2 b1 b2 c1 c2 d1 d2 x y d : Int) : Decidable (four a1 a2 b1 b2 c1 c2 d1 d2 x y d) := by unfold four; exact inferInstance
theorem zt {α : Type} {p q : Prop} [Decidable p] [Decidable q] {a b : α} (h : p ↔ q) : (if p then a else b) = if q then a else b := by
  by_cases k : p
  · rw [if_pos k, if_pos (h.1 k)]
  · rw [if_neg k, if_neg fun g => k (h.2 g)]
def tH (a1 a2 b1 b2 c1 c2 d1 d2 x y d : Int) : fA := if four a1 a2 b1 b2 c1 c2 d1 d2 x y d then iP x d y d else hG
def ml (a1 a2 b1 b2 c1 c2 d1 d2 : Int) : fA :=
  tH a1 a2 b1 b2 c1 c2 d1 d2 (jc (jB a1 a2 b1 b2 c1 c2 d1 d2) (cW a1 a2 b1 b2 c1 c2 d1 d2)) (jc (jC a1 a2 b1 b2 c1 c2 d1 d2) (cW a1 a2 b1 b2 c1 c2 d1 d2)) (ih (cW a1 a2 b1 b2 c1 c2 d1 d2))
theorem aaA {a1 a2 b1 b2 c1 c2 d1 d2 : Int} (h : cW a1 a2 b1 b2 c1 c2 d1 d2 ≠ 0) : ml b1 b2 a1 a2 c1 c2 d1 d2 = ml a1 a2 b1 b2 c1 c2 d1 d2 := by
  unfold ml;rw [ED, aaU, aaW, qF h, qF h, zP];unfold tH four;exact zt (by rw [rz (a := b1), rz (a := b2)])
theorem aaB {a1 a2 b1 b2 c1 c2 d1 d2 : Int} (h : cW a1 a2 b1 b2 c1 c2 d1 d2 ≠ 0) : ml a1 a2 b1 b2 d1 d2 c1 c2 = ml a1 a2 b1 b2 c1 c2 d1 d2 := by
  unfold ml;rw [Ay, aaV, aaX, qF h, qF h, zP];unfold tH four;exact zt (by rw [rz (a := d1), rz (a := d2)])
theorem aaC {a1 a2 b1 b2 c1 c2 d1 d2 : Int} (h : cW a1 a2 b1 b2 c1 c2 d1 d2 ≠ 0) : ml c1 c2 d1 d2 a1 a2 b1 b2 = ml a1 a2 b1 b2 c1 c2 d1 d2 := by
  unfold ml;rw [EE, Oo, Oq, qF h, qF h, zP];unfold tH four;refine zt ?_
  constructor
  · rintro ⟨h1, h2, ap, aL⟩; exact ⟨ap, aL, h1, h2⟩
  · rintro ⟨h1, h2, ap, aL⟩; exact ⟨ap, aL, h1, h2⟩
def same (m n : Int) : Prop := (0 < m ∧ 0 < n) ∨ (m < 0 ∧ n < 0)
instance (m n : Int) : Decidable (same m n) := by unfold same; exact inferInstance
theorem Q3 {a1 a2 b1 b2 c1 c2 d1 d2 : Int} (h : cW a1 a2 b1 b2 c1 c2 d1 d2 ≠ 0) : ¬ (a1 = b1 ∧ a2 = b2) ∧ ¬ (c1 = d1 ∧ c2 = d2) := by
  refine ⟨?_, ?_⟩
  · rintro ⟨rfl, rfl⟩; apply h; unfold cW; simp
  · rintro ⟨rfl, rfl⟩; apply h; unfold cW; simp
theorem QB {a1 a2 b1 b2 c1 c2 d1 d2 : Int} (h : cW a1 a2 b1 b2 c1 c2 d1 d2 ≠ 0) :
    (kC (jc (jB a1 a2 b1 b2 c1 c2 d1 d2) (cW a1 a2 b1 b2 c1 c2 d1 d2)) (ih (cW a1 a2 b1 b2 c1 c2 d1 d2)) c1 d1 ∧ kC (jc (jC a1 a2 b1 b2 c1 c2 d1 d2) (cW a1 a2 b1 b2 c1 c2 d1 d2)) (ih (cW a1 a2 b1 b2 c1 c2 d1 d2)) c2 d2) ↔ ¬ same (cj a1 a2 b1 b2 c1 c2) (cj a1 a2 b1 b2 d1 d2) := by
  have cq := (Q3 h).2;have aI := H8 a1 a2 b1 b2 c1 c2 d1 d2;have aO := H9 a1 a2 b1 b2 c1 c2 d1 d2;have cD := Jc a1 a2 b1 b2 c1 c2 d1 d2;generalize jB a1 a2 b1 b2 c1 c2 d1 d2 = X at *;generalize jC a1 a2 b1 b2 c1 c2 d1 d2 = Y at *;generalize cW a1 a2 b1 b2 c1 c2 d1 d2 = w at *;generalize cj a1 a2 b1 b2 c1 c2 = C at *;generalize cj a1 a2 b1 b2 d1 d2 = D at *;unfold jc ih same
  by_cases g : w < 0
  · rw [if_pos g, if_pos g, if_pos g, rz (a := c1), rz (a := c2)]
    have a6 := BE (x := d1) (y := c1) (u := d2) (v := c2) (A := -D) (B := -C) (D := -w) (by omega) (by omega) (by omega);have f1 : c1 * -D - d1 * -C = -X := by rw [← aI]; simp only [Int.mul_neg]; omega
    have f2 : c2 * -D - d2 * -C = -Y := by rw [← aO]; simp only [Int.mul_neg]; omega
    rw [f1, f2] at a6;rw [a6]; omega
  · rw [if_neg g, if_neg g, if_neg g, rz (a := c1), rz (a := c2)]
    have a6 := BE (x := d1) (y := c1) (u := d2) (v := c2) (A := D) (B := C) (D := w) (by omega) (by omega) (by omega);rw [aI, aO] at a6;rw [a6]; omega
theorem aez {a1 a2 b1 b2 c1 c2 d1 d2 : Int} (h : cW a1 a2 b1 b2 c1 c2 d1 d2 ≠ 0) :
    (kC (jc (jB a1 a2 b1 b2 c1 c2 d1 d2) (cW a1 a2 b1 b2 c1 c2 d1 d2)) (ih (cW a1 a2 b1 b2 c1 c2 d1 d2)) a1 b1 ∧ kC (jc (jC a1 a2 b1 b2 c1 c2 d1 d2) (cW a1 a2 b1 b2 c1 c2 d1 d2)) (ih (cW a1 a2 b1 b2 c1 c2 d1 d2)) a2 b2) ↔ ¬ same (cj c1 c2 d1 d2 a1 a2) (cj c1 c2 d1 d2 b1 b2) := by
  have aF : cW c1 c2 d1 d2 a1 a2 b1 b2 ≠ 0 := by rw [EE]; omega
  have := QB aF;rw [Oo, Oq, EE, qF h, qF h, zP] at this;exact this
theorem V5 {a1 a2 b1 b2 c1 c2 d1 d2 : Int} (h : cW a1 a2 b1 b2 c1 c2 d1 d2 ≠ 0) :
    four a1 a2 b1 b2 c1 c2 d1 d2 (jc (jB a1 a2 b1 b2 c1 c2 d1 d2) (cW a1 a2 b1 b2 c1 c2 d1 d2)) (jc (jC a1 a2 b1 b2 c1 c2 d1 d2) (cW a1 a2 b1 b2 c1 c2 d1 d2)) (ih (cW a1 a2 b1 b2 c1 c2 d1 d2)) ↔ ¬ (same (cj a1 a2 b1 b2 c1 c2) (cj a1 a2 b1 b2 d1 d2) ∨ same (cj c1 c2 d1 d2 a1 a2) (cj c1 c2 d1 d2 b1 b2)) := by
  unfold four;have p := QB h;have q := aez h
  constructor
  · rintro ⟨h1, h2, ap, aL⟩ (g | g)
    · exact p.1 ⟨ap, aL⟩ g
    · exact q.1 ⟨h1, h2⟩ g
  · intro g
    obtain ⟨ap, aL⟩ := p.2 fun k => g (.inl k);obtain ⟨h1, h2⟩ := q.2 fun k => g (.inr k);exact ⟨h1, h2, ap, aL⟩
def eE (a1 a2 b1 b2 : Int) : Int := if dl a1 a2 b1 b2 then a1 else b1
def eg (a1 a2 b1 b2 : Int) : Int := if dl a1 a2 b1 b2 then a2 else b2
def ek (a1 a2 b1 b2 : Int) : Int := if dl a1 a2 b1 b2 then b1 else a1
def dQ (a1 a2 b1 b2 : Int) : Int := if dl a1 a2 b1 b2 then b2 else a2
theorem mP (a1 a2 b1 b2 : Int) : (eE a1 a2 b1 b2 = a1 ∧ eg a1 a2 b1 b2 = a2 ∧ ek a1 a2 b1 b2 = b1 ∧ dQ a1 a2 b1 b2 = b2 ∧ dl a1 a2 b1 b2) ∨ (eE a1 a2 b1 b2 = b1 ∧ eg a1 a2 b1 b2 = b2 ∧ ek a1 a2 b1 b2 = a1 ∧ dQ a1 a2 b1 b2 = a2 ∧ dl b1 b2 a1 a2) := by
  unfold eE eg ek dQ
  by_cases h : dl a1 a2 b1 b2
  · simp [h]
  · simp [h, (dl.total a1 a2 b1 b2).resolve_left h]
theorem w8 (a1 a2 b1 b2 : Int) : dl (eE a1 a2 b1 b2) (eg a1 a2 b1 b2) (ek a1 a2 b1 b2) (dQ a1 a2 b1 b2) := by
  rcases mP a1 a2 b1 b2 with ⟨h1, h2, ap, aL, h⟩ | ⟨h1, h2, ap, aL, h⟩ <;> rw [h1, h2, ap, aL] <;> exact h
theorem NN (a1 a2 b1 b2 : Int) : eE b1 b2 a1 a2 = eE a1 a2 b1 b2 ∧ eg b1 b2 a1 a2 = eg a1 a2 b1 b2 ∧ ek b1 b2 a1 a2 = ek a1 a2 b1 b2 ∧ dQ b1 b2 a1 a2 = dQ a1 a2 b1 b2 := by
  rcases mP a1 a2 b1 b2 with ⟨h1, h2, ap, aL, h⟩ | ⟨h1, h2, ap, aL, h⟩ <;> rcases mP b1 b2 a1 a2 with ⟨bB, cf, hE, jb, k⟩ | ⟨bB, cf, hE, jb, k⟩ <;> rw [h1, h2, ap, aL, bB, cf, hE, jb] <;> (try have := dl.Bv h k) <;> simp_all
theorem zQ {p1 p2 a1 a2 b1 b2 : Int} : dj p1 p2 b1 b2 a1 a2 ↔ dj p1 p2 a1 a2 b1 b2 := by
  unfold dj r1;have e : cj b1 b2 a1 a2 p1 p2 = - cj a1 a2 b1 b2 p1 p2 := by unfold cj; grind
  have m : ∀ x y : Int, gI x y = gI y x := fun x y => by unfold gI; split <;> split <;> omega
  have n : ∀ x y : Int, gH x y = gH y x := fun x y => by unfold gH; split <;> split <;> omega
  rw [e, m a1, m a2, n a1, n a2]
  constructor <;> rintro ⟨h, k⟩ <;> exact ⟨by omega, k⟩
instance (p1 p2 a1 a2 b1 b2 : Int) : Decidable (r1 p1 p2 a1 a2 b1 b2) := by unfold r1; exact inferInstance
instance (p1 p2 a1 a2 b1 b2 : Int) : Decidable (dj p1 p2 a1 a2 b1 b2) := by unfold dj; exact inferInstance
theorem zS {p1 p2 a1 a2 b1 b2 : Int} : dj p1 p2 (eE a1 a2 b1 b2) (eg a1 a2 b1 b2) (ek a1 a2 b1 b2) (dQ a1 a2 b1 b2) ↔ dj p1 p2 a1 a2 b1 b2 := by
  rcases mP a1 a2 b1 b2 with ⟨h1, h2, ap, aL, h⟩ | ⟨h1, h2, ap, aL, h⟩ <;> rw [h1, h2, ap, aL];exact zQ
theorem acZ {s1 s2 bT bY t1 t2 t3 t4 : Int} : oH t1 t2 t3 t4 s1 s2 bT bY = - oH s1 s2 bT bY t1 t2 t3 t4 := by unfold oH; grind
theorem NO {s1 s2 bT bY t1 t2 t3 t4 p1 p2 : Int} (hs : dl s1 s2 bT bY) (aD : dl t1 t2 t3 t4) (hw : oH s1 s2 bT bY t1 t2 t3 t4 = 0) (ps : dj p1 p2 s1 s2 bT bY) (oJ : dj p1 p2 t1 t2 t3 t4) :
    dj (ek s1 s2 t1 t2) (dQ s1 s2 t1 t2) s1 s2 bT bY ∧ dj (ek s1 s2 t1 t2) (dQ s1 s2 t1 t2) t1 t2 t3 t4 ∧ dj (eE bT bY t3 t4) (eg bT bY t3 t4) s1 s2 bT bY ∧ dj (eE bT bY t3 t4) (eg bT bY t3 t4) t1 t2 t3 t4
    ∧ dl (ek s1 s2 t1 t2) (dQ s1 s2 t1 t2) p1 p2 ∧ dl p1 p2 (eE bT bY t3 t4) (eg bT bY t3 t4) := by
  obtain ⟨_, en, xz⟩ := (vt hs).1 ps;obtain ⟨_, t0, t9⟩ := (vt aD).1 oJ;have om : oH t1 t2 t3 t4 s1 s2 bT bY = 0 := by rw [acZ]; omega
  rcases mP s1 s2 t1 t2 with ⟨_, _, ap, aL, h⟩ | ⟨_, _, ap, aL, h⟩ <;> rcases mP bT bY t3 t4 with ⟨bB, cf, _, _, k⟩ | ⟨bB, cf, _, _, k⟩ <;> rw [ap, aL, bB, cf]
  · exact ⟨tR aD hs om oJ ps (tP aD) h (t0.trans xz), tP aD, tO hs, tR hs aD hw ps oJ (tO hs) (t0.trans xz) k, t0, xz⟩
  · exact ⟨tR aD hs om oJ ps (tP aD) h (t0.trans xz), tP aD, tR aD hs om oJ ps (tO aD) (en.trans t9) k, tO aD, t0, t9⟩
  · exact ⟨tP hs, tR hs aD hw ps oJ (tP hs) h (en.trans t9), tO hs, tR hs aD hw ps oJ (tO hs) (t0.trans xz) k, en, xz⟩
  · exact ⟨tP hs, tR hs aD hw ps oJ (tP hs) h (en.trans t9), tR aD hs om oJ ps (tO aD) (en.trans t9) k, tO aD, en, t9⟩
def vc (f1 f2 g1 g2 : Int) : fA := if f1 = g1 ∧ f2 = g2 then iP f1 1 f2 1 else sN f1 f2 g1 g2
def inl (s1 s2 bT bY t1 t2 t3 t4 : Int) : fA :=
  if dj (ek s1 s2 t1 t2) (dQ s1 s2 t1 t2) s1 s2 bT bY ∧ dj (ek s1 s2 t1 t2) (dQ s1 s2 t1 t2) t1 t2 t3 t4 then vc (ek s1 s2 t1 t2) (dQ s1 s2 t1 t2) (eE bT bY t3 t4) (eg bT bY t3 t4) else hG
def vd (a1 a2 b1 b2 c1 c2 d1 d2 : Int) : fA := inl (eE a1 a2 b1 b2) (eg a1 a2 b1 b2) (ek a1 a2 b1 b2) (dQ a1 a2 b1 b2) (eE c1 c2 d1 d2) (eg c1 c2 d1 d2) (ek c1 c2 d1 d2) (dQ c1 c2 d1 d2)
def hX (a1 a2 b1 b2 c1 c2 d1 d2 : Int) : fA := if cW a1 a2 b1 b2 c1 c2 d1 d2 = 0 then vd a1 a2 b1 b2 c1 c2 d1 d2 else ml a1 a2 b1 b2 c1 c2 d1 d2
theorem N4 (a1 a2 b1 b2 c1 c2 d1 d2 : Int) : hX b1 b2 a1 a2 c1 c2 d1 d2 = hX a1 a2 b1 b2 c1 c2 d1 d2 := by
  unfold hX;obtain ⟨h1, h2, ap, aL⟩ := NN a1 a2 b1 b2
  by_cases h : cW a1 a2 b1 b2 c1 c2 d1 d2 = 0
  · rw [if_pos (by rw [ED]; omega), if_pos h]; unfold vd; rw [h1, h2, ap, aL]
  · rw [if_neg (by rw [ED]; omega), if_neg h, aaA h]
theorem N5 (a1 a2 b1 b2 c1 c2 d1 d2 : Int) : hX a1 a2 b1 b2 d1 d2 c1 c2 = hX a1 a2 b1 b2 c1 c2 d1 d2 := by
  unfold hX;obtain ⟨h1, h2, ap, aL⟩ := NN c1 c2 d1 d2
  by_cases h : cW a1 a2 b1 b2 c1 c2 d1 d2 = 0
  · rw [if_pos (by rw [Ay]; omega), if_pos h]; unfold vd; rw [h1, h2, ap, aL]
  · rw [if_neg (by rw [Ay]; omega), if_neg h, aaB h]
theorem aaE (a1 a2 b1 b2 c1 c2 d1 d2 : Int) : hX (eE a1 a2 b1 b2) (eg a1 a2 b1 b2) (ek a1 a2 b1 b2) (dQ a1 a2 b1 b2) (eE c1 c2 d1 d2) (eg c1 c2 d1 d2) (ek c1 c2 d1 d2) (dQ c1 c2 d1 d2) = hX a1 a2 b1 b2 c1 c2 d1 d2 := by
  rcases mP a1 a2 b1 b2 with ⟨h1, h2, ap, aL, _⟩ | ⟨h1, h2, ap, aL, _⟩ <;> rcases mP c1 c2 d1 d2 with ⟨bB, cf, hE, jb, _⟩ | ⟨bB, cf, hE, jb, _⟩ <;> rw [h1, h2, ap, aL, bB, cf, hE, jb]
  · rw [N5]
  · rw [N4]
  · rw [N4, N5]
def HS (s1 s2 bT bY t1 t2 t3 t4 A B C D : Int) : fA :=
  if A = B then inl s1 s2 bT bY t1 t2 t3 t4
  else if same A B ∨ same C D then hG
  else iP (jc (t3 * A - t1 * B) (A - B)) (ih (A - B)) (jc (t4 * A - t2 * B) (A - B)) (ih (A - B))
theorem NY {s1 s2 bT bY : Int} (h : dl s1 s2 bT bY) : eE s1 s2 bT bY = s1 ∧ eg s1 s2 bT bY = s2 ∧ ek s1 s2 bT bY = bT ∧ dQ s1 s2 bT bY = bY := by
  unfold eE eg ek dQ; simp [h]
theorem aaD {s1 s2 bT bY t1 t2 t3 t4 : Int} (hs : dl s1 s2 bT bY) (aD : dl t1 t2 t3 t4) :
    HS s1 s2 bT bY t1 t2 t3 t4 (cj s1 s2 bT bY t1 t2) (cj s1 s2 bT bY t3 t4) (cj t1 t2 t3 t4 s1 s2) (cj t1 t2 t3 t4 bT bY) = hX s1 s2 bT bY t1 t2 t3 t4 := by
  have aI := H8 s1 s2 bT bY t1 t2 t3 t4;have aO := H9 s1 s2 bT bY t1 t2 t3 t4;have cD := Jc s1 s2 bT bY t1 t2 t3 t4;unfold HS hX
  by_cases h : cW s1 s2 bT bY t1 t2 t3 t4 = 0
  · rw [if_pos (by omega), if_pos h]
    unfold vd;obtain ⟨h1, h2, ap, aL⟩ := NY hs;obtain ⟨bB, cf, hE, jb⟩ := NY aD;rw [h1, h2, ap, aL, bB, cf, hE, jb]
  · rw [if_neg (by omega), if_neg h]
    have f := V5 h;have g1 : t3 * cj s1 s2 bT bY t1 t2 - t1 * cj s1 s2 bT bY t3 t4 = - jB s1 s2 bT bY t1 t2 t3 t4 := by omega
    have g2 : t4 * cj s1 s2 bT bY t1 t2 - t2 * cj s1 s2 bT bY t3 t4 = - jC s1 s2 bT bY t1 t2 t3 t4 := by omega
    have g3 : cj s1 s2 bT bY t1 t2 - cj s1 s2 bT bY t3 t4 = - cW s1 s2 bT bY t1 t2 t3 t4 := by omega
    rw [g1, g2, g3, qF h, qF h, zP];unfold ml tH
    by_cases q : same (cj s1 s2 bT bY t1 t2) (cj s1 s2 bT bY t3 t4) ∨ same (cj t1 t2 t3 t4 s1 s2) (cj t1 t2 t3 t4 bT bY)
    · rw [if_pos q, if_neg fun k => f.1 k q]
    · rw [if_neg q, if_pos (f.2 q)]
structure ht where
 n : Int
 d : Int
 own : Bool
structure Pa where
 f : ht
 t : ht
def hb (x y : ht) : Int := fM (x.n * y.d) (y.n * x.d)
def qA (x y : ht) : ht := if 0 < hb x y ∨ (hb x y = 0 ∧ y.own = true) then x else y
def qj (x y : ht) : ht := if hb x y < 0 ∨ (hb x y = 0 ∧ y.own = true) then x else y
def nH (p : Pa) (u v : Int) (own : Bool) : Pa :=
 if 0 < v - u then ⟨qA p.f ⟨-u, v - u, own⟩, p.t⟩
 else if v - u < 0 then ⟨p.f, qj p.t ⟨u, -(v - u), own⟩⟩
 else if u < 0 ∨ (u = 0 ∧ own = false) then ⟨⟨1, 1, false⟩, ⟨0, 1, false⟩⟩ else p
def wb (p : Pa) : Bool := decide (hb p.f p.t < 0) || (decide (hb p.f p.t = 0) && p.f.own && p.t.own)
def uD : Pa := ⟨⟨0, 1, true⟩, ⟨1, 1, true⟩⟩
theorem YT (x y : Int) : fM x y < 0 ↔ x < y := by unfold fM; split <;> (try split) <;> omega
theorem YS (x y : Int) : 0 < fM x y ↔ y < x := by unfold fM; split <;> (try split) <;> omega
theorem YR (x y : Int) : fM x y = 0 ↔ x = y := by unfold fM; split <;> (try split) <;> omega
def p0 (x : ht) (n d : Int) : Prop := x.n * d < n * x.d ∨ (x.own = true ∧ x.n * d = n * x.d)
def p6 (y : ht) (n d : Int) : Prop := n * y.d < y.n * d ∨ (y.own = true ∧ n * y.d = y.n * d)
def oZ (p : Pa) (n d : Int) : Prop := p0 p.f n d ∧ p6 p.t n d
theorem oA {a b c : Int} (h : a < b) (ak : 0 < c) : a * c < b * c := Int.mul_lt_mul_of_pos_right h ak
theorem lt_mul {a b c : Int} (h : a * c < b * c) (ak : 0 < c) : a < b := Int.lt_of_mul_lt_mul_right h (by omega)
theorem eq_mul {a b c : Int} (h : a * c = b * c) (ak : 0 < c) : a = b := Int.eq_of_mul_eq_mul_right (by omega) h
theorem uR {a b c d e f : Int} (ab : 0 < b) (hd : 0 < d) (ar : 0 < f) (h : a * d < c * b) (k : c * f < e * d) : a * f < e * b := by
 have h1 := oA h ar;have h2 := oA k ab;refine lt_mul (c := d) ?_ hd;have aI : a * d * f = a * f * d := by grind
 have aO : c * b * f = c * f * b := by grind
 have cD : e * d * b = e * b * d := by grind
 omega
theorem wE {a b c d e f : Int} (ab : 0 < b) (hd : 0 < d) (ar : 0 < f) (h : a * d = c * b) (k : c * f < e * d) : a * f < e * b := by
 have h2 := oA k ab;refine lt_mul (c := d) ?_ hd;have aI : a * d * f = a * f * d := by grind
 have aO : c * b * f = c * f * b := by grind
 have cD : e * d * b = e * b * d := by grind
 have h1 : a * d * f = c * b * f := by rw [h]
 omega
theorem wF {a b c d e f : Int} (ab : 0 < b) (hd : 0 < d) (ar : 0 < f) (h : a * d < c * b) (k : c * f = e * d) : a * f < e * b := by
 have h1 := oA h ar;refine lt_mul (c := d) ?_ hd;have aI : a * d * f = a * f * d := by grind
 have aO : c * b * f = c * f * b := by grind
 have cD : e * d * b = e * b * d := by grind
 have h2 : c * f * b = e * d * b := by rw [k]
 omega
theorem F5 {a b c d e f : Int} (ab : 0 < b) (hd : 0 < d) (ar : 0 < f) (h : a * d = c * b) (k : c * f = e * d) : a * f = e * b := by
 refine eq_mul (c := d) ?_ hd;have aI : a * d * f = a * f * d := by grind
 have aO : c * b * f = c * f * b := by grind
 have cD : e * d * b = e * b * d := by grind
 have h1 : a * d * f = c * b * f := by rw [h]
 have h2 : c * f * b = e * d * b := by rw [k]
 omega
theorem BO (x y : ht) : (x.n * y.d < y.n * x.d ∧ hb x y < 0) ∨ (x.n * y.d = y.n * x.d ∧ hb x y = 0) ∨ (y.n * x.d < x.n * y.d ∧ 0 < hb x y) := by
 have h1 := YT (x.n * y.d) (y.n * x.d);have h2 := YS (x.n * y.d) (y.n * x.d);have ap := YR (x.n * y.d) (y.n * x.d);unfold hb;omega
theorem NI (x y : ht) : (qA x y = x ∧ (0 < hb x y ∨ (hb x y = 0 ∧ y.own = true))) ∨ (qA x y = y ∧ ¬ (0 < hb x y ∨ (hb x y = 0 ∧ y.own = true))) := by
 unfold qA
 split
 ·rename_i h; exact .inl ⟨rfl, h⟩
 ·rename_i h; exact .inr ⟨rfl, h⟩
theorem Li (x y : ht) : (qj x y = x ∧ (hb x y < 0 ∨ (hb x y = 0 ∧ y.own = true))) ∨ (qj x y = y ∧ ¬ (hb x y < 0 ∨ (hb x y = 0 ∧ y.own = true))) := by
 unfold qj
 split
 ·rename_i h; exact .inl ⟨rfl, h⟩
 ·rename_i h; exact .inr ⟨rfl, h⟩
theorem SS {x y : ht} {n d : Int} (aa : 0 < x.d) (ah : 0 < y.d) (hd : 0 < d) : p0 (qA x y) n d ↔ p0 x n d ∧ p0 y n d := by
 unfold p0;rcases NI x y with ⟨e, h⟩ | ⟨e, h⟩ <;> rw [e] <;> rcases BO x y with ⟨t, c⟩ | ⟨t, c⟩ | ⟨t, c⟩
 ·omega
 ·have ay : y.own = true := by rcases h with h | ⟨_, h⟩ <;> first | exact h | (exfalso; omega)
  refine ⟨fun k => ⟨k, ?_⟩, fun k => k.1⟩;rcases k with k | ⟨_, k⟩
  ·exact .inl (wE ah aa hd t.symm k)
  ·exact .inr ⟨ay, F5 ah aa hd t.symm k⟩
 ·refine ⟨fun k => ⟨k, ?_⟩, fun k => k.1⟩;rcases k with k | ⟨_, k⟩
  ·exact .inl (uR ah aa hd t k)
  ·exact .inl (wF ah aa hd t k)
 ·refine ⟨fun k => ⟨?_, k⟩, fun k => k.2⟩;rcases k with k | ⟨_, k⟩
  ·exact .inl (uR aa ah hd t k)
  ·exact .inl (wF aa ah hd t k)
 ·refine ⟨fun k => ⟨?_, k⟩, fun k => k.2⟩;have ay : ¬ y.own = true := fun q => h (.inr ⟨c, q⟩);rcases k with k | ⟨q, k⟩
  ·exact .inl (wE aa ah hd t k)
  ·exact absurd q ay
 ·omega
theorem TQ {x y : ht} {n d : Int} (aa : 0 < x.d) (ah : 0 < y.d) (hd : 0 < d) : p6 (qj x y) n d ↔ p6 x n d ∧ p6 y n d := by
 unfold p6;rcases Li x y with ⟨e, h⟩ | ⟨e, h⟩ <;> rw [e] <;> rcases BO x y with ⟨t, c⟩ | ⟨t, c⟩ | ⟨t, c⟩
 ·refine ⟨fun k => ⟨k, ?_⟩, fun k => k.1⟩;rcases k with k | ⟨_, k⟩
  ·exact .inl (uR hd aa ah k t)
  ·exact .inl (wE hd aa ah k t)
 ·have ay : y.own = true := by rcases h with h | ⟨_, h⟩ <;> first | exact h | (exfalso; omega)
  refine ⟨fun k => ⟨k, ?_⟩, fun k => k.1⟩;rcases k with k | ⟨_, k⟩
  ·exact .inl (wF hd aa ah k t)
  ·exact .inr ⟨ay, F5 hd aa ah k t⟩
 ·omega
 ·omega
 ·refine ⟨fun k => ⟨?_, k⟩, fun k => k.2⟩;have ay : ¬ y.own = true := fun q => h (.inr ⟨c, q⟩);rcases k with k | ⟨q, k⟩
  ·exact .inl (wF hd ah aa k t.symm)
  ·exact absurd q ay
 ·refine ⟨fun k => ⟨?_, k⟩, fun k => k.2⟩;rcases k with k | ⟨_, k⟩
  ·exact .inl (uR hd ah aa k t)
  ·exact .inl (wE hd ah aa k t)
def jm (u v : Int) (own : Bool) (n d : Int) : Prop := 0 < u * (d - n) + v * n ∨ (own = true ∧ u * (d - n) + v * n = 0)
theorem Db {p : Pa} {u v n d : Int} {own : Bool} (ar : 0 < p.f.d) (aD : 0 < p.t.d) (hd : 0 < d) : oZ (nH p u v own) n d ↔ oZ p n d ∧ jm u v own n d := by
 have dp : u * (d - n) + v * n = (v - u) * n + u * d := by grind
 unfold nH
 by_cases h1 : 0 < v - u
 ·rw [if_pos h1];unfold oZ;rw [SS ar h1 hd]
  have : p0 ⟨-u, v - u, own⟩ n d ↔ jm u v own n d := by
   unfold p0 jm;simp only;have aI : -u * d = -(u * d) := by grind
   have aO : n * (v - u) = (v - u) * n := by grind
   rw [dp, aI, aO]
   constructor
   ·rintro (k | ⟨k, l⟩)
    ·exact .inl (by omega)
    ·exact .inr ⟨k, by omega⟩
   ·rintro (k | ⟨k, l⟩)
    ·exact .inl (by omega)
    ·exact .inr ⟨k, by omega⟩
  rw [this]
  constructor
  ·rintro ⟨⟨a, b⟩, c⟩; exact ⟨⟨a, c⟩, b⟩
  ·rintro ⟨⟨a, c⟩, b⟩; exact ⟨⟨a, b⟩, c⟩
 ·rw [if_neg h1]
  by_cases h2 : v - u < 0
  ·rw [if_pos h2];unfold oZ;have al : (0 : Int) < -(v - u) := by omega
   rw [TQ aD al hd]
   have : p6 ⟨u, -(v - u), own⟩ n d ↔ jm u v own n d := by
    unfold p6 jm;simp only;have aO : n * -(v - u) = -((v - u) * n) := by grind
    rw [dp, aO]
    constructor
    ·rintro (k | ⟨k, l⟩)
     ·exact .inl (by omega)
     ·exact .inr ⟨k, by omega⟩
    ·rintro (k | ⟨k, l⟩)
     ·exact .inl (by omega)
     ·exact .inr ⟨k, by omega⟩
   rw [this]
   constructor
   ·rintro ⟨a, b, c⟩; exact ⟨⟨a, b⟩, c⟩
   ·rintro ⟨⟨a, b⟩, c⟩; exact ⟨a, b, c⟩
  ·rw [if_neg h2];have cD : v - u = 0 := by omega
   have eD : u * (d - n) + v * n = u * d := by rw [dp, cD]; omega
   by_cases ap : u < 0 ∨ (u = 0 ∧ own = false)
   ·rw [if_pos ap]
    have ju : ¬ jm u v own n d := by
     unfold jm;rw [eD];rcases ap with ap | ⟨rfl, rfl⟩
     ·have := oA ap hd;omega
     ·simp
    refine ⟨fun k => absurd k ?_, fun k => absurd k.2 ju⟩;unfold oZ p0 p6;simp;omega
   ·rw [if_neg ap]
    have YN : jm u v own n d := by
     unfold jm;rw [eD]
     by_cases aL : u = 0
     ·subst aL;right;refine ⟨?_, by simp⟩;cases own with
      | true => rfl
      | false => exact absurd (.inr ⟨rfl, rfl⟩) ap
     ·left;have : 0 < u := by omega
      have := oA this hd;omega
    exact ⟨fun k => ⟨k, YN⟩, fun k => k.1⟩
theorem ZX {x y : ht} (aa : 0 < x.d) (ah : 0 < y.d) : 0 < (qA x y).d := by unfold qA; split <;> assumption
theorem Vk {x y : ht} (aa : 0 < x.d) (ah : 0 < y.d) : 0 < (qj x y).d := by unfold qj; split <;> assumption
theorem vh {p : Pa} {u v : Int} {own : Bool} (ar : 0 < p.f.d) (aD : 0 < p.t.d) : 0 < (nH p u v own).f.d ∧ 0 < (nH p u v own).t.d := by
 unfold nH
 by_cases h1 : 0 < v - u
 ·rw [if_pos h1]; exact ⟨ZX ar h1, aD⟩
 ·rw [if_neg h1]
  by_cases h2 : v - u < 0
  ·rw [if_pos h2]; exact ⟨ar, Vk aD (by simp only; omega)⟩
  ·rw [if_neg h2]
   split
   ·exact ⟨by decide, by decide⟩
   ·exact ⟨ar, aD⟩
def Oc (x y : ht) : Int := x.n * y.d + y.n * x.d
def HT (x y : ht) : Int := x.d * y.d + x.d * y.d
theorem aaJ {p : Pa} (ar : 0 < p.f.d) (aD : 0 < p.t.d) (h : p.f.n * p.t.d < p.t.n * p.f.d) : 0 < HT p.f p.t ∧ oZ p (Oc p.f p.t) (HT p.f p.t) := by
 unfold Oc HT oZ p0 p6;have hm : 0 < p.f.d * p.t.d := Int.mul_pos ar aD;refine ⟨by omega, .inl ?_, .inl ?_⟩
 ·have := oA h ar;grind
 ·have := oA h aD;grind
theorem TE {p : Pa} (ar : 0 < p.f.d) (aD : 0 < p.t.d) : wb p = true ↔ ∃ n d, 0 < d ∧ oZ p n d := by
 unfold wb;simp only [qN, dS, cE]
 constructor
 ·intro h;rcases BO p.f p.t with ⟨t, c⟩ | ⟨t, c⟩ | ⟨t, c⟩
  ·obtain ⟨h1, h2⟩ := aaJ ar aD t;exact ⟨_, _, h1, h2⟩
  ·rcases h with h | ⟨⟨_, h1⟩, h2⟩
   ·omega
   ·exact ⟨p.f.n, p.f.d, ar, .inr ⟨h1, rfl⟩, .inr ⟨h2, t⟩⟩
  ·rcases h with h | ⟨⟨h, _⟩, _⟩ <;> omega
 ·rintro ⟨n, d, hd, h1, h2⟩;rcases BO p.f p.t with ⟨t, c⟩ | ⟨t, c⟩ | ⟨t, c⟩
  ·exact .inl c
  ·right;refine ⟨⟨c, ?_⟩, ?_⟩
   ·rcases h1 with h1 | ⟨h1, _⟩
    ·exfalso;rcases h2 with h2 | ⟨_, h2⟩
     ·have := uR ar hd aD h1 h2; omega
     ·have := wF ar hd aD h1 h2; omega
    ·exact h1
   ·rcases h2 with h2 | ⟨h2, _⟩
    ·exfalso;rcases h1 with h1 | ⟨_, h1⟩
     ·have := uR ar hd aD h1 h2; omega
     ·have := wE ar hd aD h1 h2; omega
    ·exact h2
  ·exfalso;rcases h1 with h1 | ⟨_, h1⟩ <;> rcases h2 with h2 | ⟨_, h2⟩
   ·have := uR ar hd aD h1 h2; omega
   ·have := wF ar hd aD h1 h2; omega
   ·have := wE ar hd aD h1 h2; omega
   ·have := F5 ar hd aD h1 h2; omega
def s0 (cG v1 cH v2 jj v3 k2 v4 : Int) (o p : Bool) : Pa := nH (nH (nH (nH uD cG v1 o) cH v2 o) jj v3 p) k2 v4 p
theorem UB (cG v1 cH v2 jj v3 k2 v4 : Int) (o p : Bool) : 0 < (s0 cG v1 cH v2 jj v3 k2 v4 o p).f.d ∧ 0 < (s0 cG v1 cH v2 jj v3 k2 v4 o p).t.d := by
 unfold s0;have h1 := vh (p := uD) (u := cG) (v := v1) (own := o) (by decide) (by decide);have h2 := vh (u := cH) (v := v2) (own := o) h1.1 h1.2;have ap := vh (u := jj) (v := v3) (own := p) h2.1 h2.2;exact vh (u := k2) (v := v4) (own := p) ap.1 ap.2
theorem Tj {n d : Int} (hd : 0 < d) : oZ uD n d ↔ 0 ≤ n ∧ n ≤ d := by
 unfold oZ p0 p6 uD;simp;omega
theorem K0 {cG v1 cH v2 jj v3 k2 v4 n d : Int} {o p : Bool} (hd : 0 < d) : oZ (s0 cG v1 cH v2 jj v3 k2 v4 o p) n d ↔ (0 ≤ n ∧ n ≤ d) ∧ jm cG v1 o n d ∧ jm cH v2 o n d ∧ jm jj v3 p n d ∧ jm k2 v4 p n d := by
 unfold s0;have h1 := vh (p := uD) (u := cG) (v := v1) (own := o) (by decide) (by decide);have h2 := vh (u := cH) (v := v2) (own := o) h1.1 h1.2;have ap := vh (u := jj) (v := v3) (own := p) h2.1 h2.2;rw [Db ap.1 ap.2 hd, Db h2.1 h2.2 hd, Db h1.1 h1.2 hd, Db (by decide) (by decide) hd, Tj hd];simp only [and_assoc]
def Met (cG v1 cH v2 jj v3 k2 v4 : Int) (o p : Bool) : Prop := ∃ n d, 0 < d ∧ (0 ≤ n ∧ n ≤ d) ∧ jm cG v1 o n d ∧ jm cH v2 o n d ∧ jm jj v3 p n d ∧ jm k2 v4 p n d
theorem UA (cG v1 cH v2 jj v3 k2 v4 : Int) (o p : Bool) : wb (s0 cG v1 cH v2 jj v3 k2 v4 o p) = true ↔ Met cG v1 cH v2 jj v3 k2 v4 o p := by
 obtain ⟨h1, h2⟩ := UB cG v1 cH v2 jj v3 k2 v4 o p;rw [TE h1 h2]
 constructor
 ·rintro ⟨n, d, hd, h⟩; exact ⟨n, d, hd, (K0 hd).1 h⟩
 ·rintro ⟨n, d, hd, h⟩; exact ⟨n, d, hd, (K0 hd).2 h⟩
def vR (X Y W a1 a2 b1 b2 : Int) : Prop := ∃ n d, 0 < d ∧ (0 ≤ n ∧ n ≤ d) ∧ X * d = W * (a1 * (d - n) + b1 * n) ∧ Y * d = W * (a2 * (d - n) + b2 * n)
theorem O7 {p1 p2 a1 a2 b1 b2 : Int} (h : dj p1 p2 a1 a2 b1 b2) : vR p1 p2 1 a1 a2 b1 b2 := by
 obtain ⟨aH, h1, h2, ap, aL⟩ := h;unfold cj at aH;unfold gI at h1 ap;unfold gH at h2 aL;rcases Int.lt_trichotomy a1 b1 with g | g | g
 ·rw [if_neg (by omega)] at h1; rw [if_pos (show b1 > a1 from g)] at h2;exact ⟨p1 - a1, b1 - a1, by omega, by omega, by grind, by grind⟩
 ·subst g;rcases Int.lt_trichotomy a2 b2 with g | g | g
  ·rw [if_neg (by omega)] at ap; rw [if_pos (show b2 > a2 from g)] at aL;have : p1 = a1 := by split at h1 <;> split at h2 <;> omega
   exact ⟨p2 - a2, b2 - a2, by omega, by omega, by grind, by grind⟩
  ·subst g;have aI : p1 = a1 := by split at h1 <;> split at h2 <;> omega
   have aO : p2 = a2 := by split at ap <;> split at aL <;> omega
   exact ⟨0, 1, by omega, by omega, by grind, by grind⟩
  ·rw [if_pos g] at ap; rw [if_neg (by omega)] at aL;have : p1 = a1 := by split at h1 <;> split at h2 <;> omega
   exact ⟨a2 - p2, a2 - b2, by omega, by omega, by grind, by grind⟩
 ·rw [if_pos g] at h1; rw [if_neg (by omega)] at h2;exact ⟨a1 - p1, a1 - b1, by omega, by omega, by grind, by grind⟩
theorem IW {v W : Int} (eY : 0 < W) (h : 0 ≤ v * W) : 0 ≤ v := by
 refine Int.not_lt.1 fun bj => ?_;have := Int.mul_lt_mul_of_pos_right bj eY;omega
theorem aeq {v W : Int} (eY : 0 < W) (h : 0 < v * W) : 0 < v := by
 refine Int.not_le.1 fun hle => ?_;have := pL hle (show 0 ≤ W by omega);omega
theorem PP {X Y W a1 a2 b1 b2 l1 l2 h1 h2 : Int} (eY : 0 < W) (h : vR X Y W a1 a2 b1 b2) (g1 : l1 * W ≤ 2 * X) (g2 : l2 * W ≤ 2 * Y) (g3 : 2 * X < h1 * W) (g4 : 2 * Y < h2 * W) :
  Met (2 * a1 - l1) (2 * b1 - l1) (2 * a2 - l2) (2 * b2 - l2) (h1 - 2 * a1) (h1 - 2 * b1) (h2 - 2 * a2) (h2 - 2 * b2) true false := by
 obtain ⟨n, d, hd, aE, aI, aO⟩ := h
 have low : ∀ {X a b l : Int}, X * d = W * (a * (d - n) + b * n) → l * W ≤ 2 * X → jm (2 * a - l) (2 * b - l) true n d := fun {X a b l} e g => by
  have k := hL (show 0 ≤ d by omega) (show 0 ≤ 2 * X - l * W by omega);have bw : ((2 * a - l) * (d - n) + (2 * b - l) * n) * W = d * (2 * X - l * W) := by grind
  rw [← bw] at k;rcases Int.lt_or_eq_of_le (IW eY k) with h | h
  ·exact .inl h
  ·exact .inr ⟨rfl, h.symm⟩
 have high : ∀ {X a b l : Int}, X * d = W * (a * (d - n) + b * n) → 2 * X < l * W → jm (l - 2 * a) (l - 2 * b) false n d := fun {X a b l} e g => by
  have k := Int.mul_pos hd (show 0 < l * W - 2 * X by omega);have bw : ((l - 2 * a) * (d - n) + (l - 2 * b) * n) * W = d * (l * W - 2 * X) := by grind
  rw [← bw] at k;exact .inl (aeq eY k)
 exact ⟨n, d, hd, aE, low aI g1, low aO g2, high aI g3, high aO g4⟩
theorem PO {X Y W a1 a2 b1 b2 : Int} (h : vR X Y W a1 a2 b1 b2) : (b1 - a1) * (Y - a2 * W) = (b2 - a2) * (X - a1 * W) := by
 obtain ⟨n, d, hd, aE, aI, aO⟩ := h;have : d * ((b1 - a1) * (Y - a2 * W) - (b2 - a2) * (X - a1 * W)) = 0 := by grind
 rcases sk.1 this with h | h
 ·omega
 ·omega
theorem N3 {a1 a2 b1 b2 c1 c2 d1 d2 X Y W bo : Int} (h : cW a1 a2 b1 b2 c1 c2 d1 d2 ≠ 0) (e : ml a1 a2 b1 b2 c1 c2 d1 d2 = iP X W Y bo) : bo = W ∧ 0 < W ∧ vR X Y W c1 c2 d1 d2 := by
 obtain ⟨_, cq⟩ := Q3 h;unfold ml tH at e
 split at e
 ·rename_i aL;obtain ⟨_, _, bB, cf⟩ := aL;have aI := congrArg fA.n e;have aO := congrArg fA.d e;have cD := congrArg fA.m e;have eD := congrArg fA.e e;simp only [iP] at aI aO cD eD;have Gw := H8 a1 a2 b1 b2 c1 c2 d1 d2;have Me := H9 a1 a2 b1 b2 c1 c2 d1 d2;have hw := Jc a1 a2 b1 b2 c1 c2 d1 d2;rw [← aO, ← eD];refine ⟨rfl, OM h, ?_⟩;rw [rz] at bB cf;unfold jc at aI cD bB cf;unfold ih at bB cf ⊢
  by_cases hs : cW a1 a2 b1 b2 c1 c2 d1 d2 < 0
  ·rw [if_pos hs] at aI cD bB cf ⊢;rw [if_pos hs] at bB cf
   have := (BE (x := d1) (y := c1) (u := d2) (v := c2) (A := -cj a1 a2 b1 b2 d1 d2) (B := -cj a1 a2 b1 b2 c1 c2) (D := -cW a1 a2 b1 b2 c1 c2 d1 d2) (by omega) (by omega) (by omega)).1 ⟨by
    rw [show c1 * -cj a1 a2 b1 b2 d1 d2 - d1 * -cj a1 a2 b1 b2 c1 c2 = -jB a1 a2 b1 b2 c1 c2 d1 d2 by grind]; exact bB, by
    rw [show c2 * -cj a1 a2 b1 b2 d1 d2 - d2 * -cj a1 a2 b1 b2 c1 c2 = -jC a1 a2 b1 b2 c1 c2 d1 d2 by grind]; exact cf⟩
   exact ⟨cj a1 a2 b1 b2 c1 c2, -cW a1 a2 b1 b2 c1 c2 d1 d2, by omega, by omega, by rw [← aI]; grind, by rw [← cD]; grind⟩
  ·rw [if_neg hs] at aI cD bB cf ⊢;rw [if_neg hs] at bB cf
   have := (BE (x := d1) (y := c1) (u := d2) (v := c2) (A := cj a1 a2 b1 b2 d1 d2) (B := cj a1 a2 b1 b2 c1 c2) (D := cW a1 a2 b1 b2 c1 c2 d1 d2) (by omega) (by omega) (by omega)).1 ⟨by
    rw [Gw]; exact bB, by
    rw [Me]; exact cf⟩
   exact ⟨-cj a1 a2 b1 b2 c1 c2, cW a1 a2 b1 b2 c1 c2 d1 d2, by omega, by omega, by rw [← aI]; grind, by rw [← cD]; grind⟩
 ·have := congrArg fA.k e;simp [hG, iP] at this
theorem Dm {a1 a2 b1 b2 c1 c2 d1 d2 X Y W bo : Int} (e : hX a1 a2 b1 b2 c1 c2 d1 d2 = iP X W Y bo) : bo = W ∧ 0 < W ∧ vR X Y W a1 a2 b1 b2 ∧ vR X Y W c1 c2 d1 d2 ∧ (∀ p1 p2, dj p1 p2 a1 a2 b1 b2 → dj p1 p2 c1 c2 d1 d2 → X = p1 * W ∧ Y = p2 * W) := by
 unfold hX at e
 split at e
 ·rename_i hw;unfold vd inl at e
  split at e
  ·rename_i me;obtain ⟨o1, o2⟩ := me;unfold vc at e
   split at e
   ·rename_i wQ;have aI := congrArg fA.n e;have aO := congrArg fA.d e;have cD := congrArg fA.m e;have eD := congrArg fA.e e;simp only [iP] at aI aO cD eD;subst aO; subst eD;rw [zS] at o1 o2;rw [aI, cD] at o1 o2;refine ⟨rfl, by decide, O7 o1, O7 o2, fun p1 p2 hp al => ?_⟩
    have Yf : oH (eE a1 a2 b1 b2) (eg a1 a2 b1 b2) (ek a1 a2 b1 b2) (dQ a1 a2 b1 b2) (eE c1 c2 d1 d2) (eg c1 c2 d1 d2) (ek c1 c2 d1 d2) (dQ c1 c2 d1 d2) = 0 := by
     rw [Q4] at hw;rcases mP a1 a2 b1 b2 with ⟨h1, h2, ap, aL, _⟩ | ⟨h1, h2, ap, aL, _⟩ <;> rcases mP c1 c2 d1 d2 with ⟨bB, cf, hE, jb, _⟩ | ⟨bB, cf, hE, jb, _⟩ <;> rw [h1, h2, ap, aL, bB, cf, hE, jb] <;> unfold oH at hw ⊢ <;> grind
    obtain ⟨_, _, _, _, l1, l2⟩ := NO (w8 a1 a2 b1 b2) (w8 c1 c2 d1 d2) Yf (zS.2 hp) (zS.2 al);rw [← wQ.1, ← wQ.2] at l2;have := dl.Bv l1 l2;omega
   ·have := congrArg fA.k e;simp [sN, iP] at this
  ·have := congrArg fA.k e;simp [hG, iP] at this
 ·rename_i hw;obtain ⟨g1, g2, g3⟩ := N3 hw e;have om : cW c1 c2 d1 d2 a1 a2 b1 b2 ≠ 0 := by rw [EE]; omega
  obtain ⟨_, _, g4⟩ := N3 om (by rw [aaC hw]; exact e);refine ⟨g1, g2, g4, g3, fun p1 p2 hp al => ?_⟩;have l1 := PO g4;have l2 := PO g3;have q1 := hp.1;have q2 := al.1;unfold cj at q1 q2
  have line : ∀ {a1 a2 b1 b2 : Int}, (b1 - a1) * (Y - a2 * W) = (b2 - a2) * (X - a1 * W) → (b1 - a1) * (p2 - a2) - (b2 - a2) * (p1 - a1) = 0 → (b1 - a1) * (Y - p2 * W) = (b2 - a2) * (X - p1 * W) := fun {a1 a2 b1 b2} l q => by
   have z : (b1 - a1) * (Y - p2 * W) - (b2 - a2) * (X - p1 * W) = ((b1 - a1) * (Y - a2 * W) - (b2 - a2) * (X - a1 * W)) - ((b1 - a1) * (p2 - a2) - (b2 - a2) * (p1 - a1)) * W := by grind
   rw [q, l, Int.zero_mul] at z;omega
  have m1 := line l1 q1;have m2 := line l2 q2
  have jk : cW a1 a2 b1 b2 c1 c2 d1 d2 * (X - p1 * W) = 0 := by
   have z : cW a1 a2 b1 b2 c1 c2 d1 d2 * (X - p1 * W) = (b1 - a1) * ((d2 - c2) * (X - p1 * W)) - (d1 - c1) * ((b2 - a2) * (X - p1 * W)) := by unfold cW; grind
   rw [z, ← m1, ← m2, Int.mul_left_comm];omega
  have z2 : cW a1 a2 b1 b2 c1 c2 d1 d2 * (Y - p2 * W) = 0 := by
   have z : cW a1 a2 b1 b2 c1 c2 d1 d2 * (Y - p2 * W) = (d2 - c2) * ((b1 - a1) * (Y - p2 * W)) - (b2 - a2) * ((d1 - c1) * (Y - p2 * W)) := by unfold cW; grind
   rw [z, m1, m2, Int.mul_left_comm];omega
  have lz := (sk.1 jk).resolve_left hw;have q0 := (sk.1 z2).resolve_left hw;omega
def xR (S : Int) (p q x : Int × Int) : Prop := Met (2 * (S * p.1) - (2 * (S * x.1) - S)) (2 * (S * q.1) - (2 * (S * x.1) - S)) (2 * (S * p.2) - (2 * (S * x.2) - S)) (2 * (S * q.2) - (2 * (S * x.2) - S)) (2 * (S * x.1) + S - 2 * (S * p.1)) (2 * (S * x.1) + S - 2 * (S * q.1)) (2 * (S * x.2) + S - 2 * (S * p.2)) (2 * (S * x.2) + S - 2 * (S * q.2)) true false
def A6 (S X Y W : Int) (x : Int × Int) : Prop := ((2 * (S * x.1) - S) * W ≤ 2 * X ∧ 2 * X < (2 * (S * x.1) + S) * W) ∧ (2 * (S * x.2) - S) * W ≤ 2 * Y ∧ 2 * Y < (2 * (S * x.2) + S) * W
abbrev JE (S : Int) (x p q : Int × Int) : Prop := dj (S * x.1) (S * x.2) (S * p.1) (S * p.2) (S * q.1) (S * q.2)
theorem O4 (S : Int) (p q : Int × Int) : JE S p p q := by
 refine ⟨FG .., ?_⟩;unfold r1 gI gH
 split <;> split <;> split <;> split <;> omega
theorem O5 (S : Int) (p q : Int × Int) : JE S q p q := by
 refine ⟨KX .., ?_⟩;unfold r1 gI gH
 split <;> split <;> split <;> split <;> omega
theorem aaG {S : Int} (hS : 0 < S) {p q fH cA x : Int × Int} {X Y W bo : Int} (e : hX (S * p.1) (S * p.2) (S * q.1) (S * q.2) (S * fH.1) (S * fH.2) (S * cA.1) (S * cA.2) = iP X W Y bo) (aa : A6 S X Y W x) (h1 : xR S p q x → x = p ∨ x = q) (h2 : xR S fH cA x → x = fH ∨ x = cA) :
  (x = p ∨ x = q) ∧ (x = fH ∨ x = cA) ∧ X = S * x.1 * W ∧ Y = S * x.2 * W := by
 obtain ⟨_, eY, g1, g2, g3⟩ := Dm e;obtain ⟨⟨b1, b2⟩, ed, dD⟩ := aa;have bB := h1 (PP eY g1 b1 ed b2 dD);have cf := h2 (PP eY g2 b1 ed b2 dD);refine ⟨bB, cf, g3 _ _ ?_ ?_⟩
 ·rcases bB with rfl | rfl
  ·exact O4 ..
  ·exact O5 ..
 ·rcases cf with rfl | rfl
  ·exact O4 ..
  ·exact O5 ..
end Go.Proofs.YtpochbhajmbfdaaGreat
namespace Go.Proofs.YtpochbhajmbfdaaGreat.bA
abbrev iB := Int × Int
abbrev N2 (S : Int) (l m : iB × iB) : fA := hX (S * l.1.1) (S * l.1.2) (S * l.2.1) (S * l.2.2) (S * m.1.1) (S * m.1.2) (S * m.2.1) (S * m.2.2)
def xZ (l m : iB × iB) : Prop := l.1 = m.1 ∨ l.1 = m.2 ∨ l.2 = m.1 ∨ l.2 = m.2
structure xX (S : Int) (o : cP iB) : Prop where
 pos : 0 < S
 XT : ∀ p q x, o.CD p q x = true → xR S p q x
 Mw : ∀ p q x, o.gR p → o.gR q → o.gR x → xR S p q x → o.CD p q x = true
 KZ : ∀ l m x, o.cut l m = some x → ¬ xZ l m ∧ ∃ X Y W bo, N2 S l m = iP X W Y bo ∧ A6 S X Y W x
 Uz : ∀ l m, o.gR l.1 → o.gR l.2 → o.gR m.1 → o.gR m.2 → o.cut l m = none → (N2 S l m).k = 1 → xZ l m
theorem xX.own {S : Int} {o : cP iB} (h : xX S o) {hot : List iB} (aw : ∀ y ∈ hot, o.gR y) {p q x : iB} (hp : p ∈ hot) (al : q ∈ hot) (aa : x ∈ hot) (hs : rj o hot p q) (hm : xR S p q x) : x = p ∨ x = q := by
 have h1 := hs x aa;have h2 := h.Mw p q x (aw _ hp) (aw _ al) (aw _ aa) hm;unfold iX at h1;rw [h2, Bool.and_true, Bool.and_eq_false_iff] at h1;rcases h1 with h1 | h1
 ·exact .inl (by simpa using h1)
 ·exact .inr (by simpa using h1)
theorem xX.UD {S : Int} {o : cP iB} (h : xX S o) (hot : List iB) (p q fH cA x : iB) (aw : ∀ y ∈ hot, o.gR y) (hp : p ∈ hot) (al : q ∈ hot) (oi : fH ∈ hot) (qw : cA ∈ hot) (hs : rj o hot p q) (CO : rj o hot fH cA) (ak : o.cut (p, q) (fH, cA) = some x) : x ∉ hot := fun aa => by
 obtain ⟨aE, X, Y, W, bo, e, lg⟩ := h.KZ _ _ _ ak;obtain ⟨g1, g2, _⟩ := aaG h.pos e lg (h.own aw hp al aa hs) (h.own aw oi qw aa CO);refine aE ?_;unfold xZ;rcases g1 with rfl | rfl <;> rcases g2 with g2 | g2
 ·exact .inl g2
 ·exact .inr (.inl g2)
 ·exact .inr (.inr (.inl g2))
 ·exact .inr (.inr (.inr g2))
end Go.Proofs.YtpochbhajmbfdaaGreat.bA
namespace Go.Proofs.YtpochbhajmbfdaaGreat
def fX (S X W : Int) : Int := (2 * X + S * W) / (2 * (S * W))
theorem DU {S W : Int} (hS : 0 < S) (eY : 0 < W) (X : Int) : (2 * (S * fX S X W) - S) * W ≤ 2 * X ∧ 2 * X < (2 * (S * fX S X W) + S) * W := by
 have W0 := Int.mul_pos hS eY;unfold fX;have h1 := sn (2 * X + S * W) (2 * (S * W));have h2 := oQ (2 * X + S * W) (show 2 * (S * W) ≠ 0 by omega);have ap := nN (2 * X + S * W) (show 0 < 2 * (S * W) by omega);generalize (2 * X + S * W) / (2 * (S * W)) = g at *;generalize (2 * X + S * W) % (2 * (S * W)) = m at *;have aI : (2 * (S * g) - S) * W = 2 * (S * W) * g - S * W := by grind
 have aO : (2 * (S * g) + S) * W = 2 * (S * W) * g + S * W := by grind
 omega
theorem YZ {S X Y W : Int} (hS : 0 < S) (eY : 0 < W) : A6 S X Y W (fX S X W, fX S Y W) := ⟨DU hS eY X, DU hS eY Y⟩
theorem PW {S X W n d p q g : Int} (hS : 0 < S) (eY : 0 < W) (hd : 0 < d) (aE : 0 ≤ n ∧ n ≤ d) (e : X * d = W * (S * p * (d - n) + S * q * n)) (h1 : (2 * (S * g) - S) * W ≤ 2 * X) (h2 : 2 * X < (2 * (S * g) + S) * W) : (p ≤ q → p ≤ g ∧ g ≤ q) ∧ (q ≤ p → q ≤ g ∧ g ≤ p) := by
 have W0 := Int.mul_pos hS eY
 have aak : ∀ {b : Int}, b ≤ p → b ≤ q → S * W * b ≤ X := fun {b} bB cf => by
  have m1 := hL (show 0 ≤ S * W by omega) (hL (show 0 ≤ p - b by omega) (show 0 ≤ d - n by omega));have m2 := hL (show 0 ≤ S * W by omega) (hL (show 0 ≤ q - b by omega) aE.1);have bw : (X - S * W * b) * d = S * W * ((p - b) * (d - n)) + S * W * ((q - b) * n) := by grind
  have := IW (v := X - S * W * b) hd (by rw [bw]; omega);omega
 have XS : ∀ {b : Int}, p ≤ b → q ≤ b → X ≤ S * W * b := fun {b} bB cf => by
  have m1 := hL (show 0 ≤ S * W by omega) (hL (show 0 ≤ b - p by omega) (show 0 ≤ d - n by omega));have m2 := hL (show 0 ≤ S * W by omega) (hL (show 0 ≤ b - q by omega) aE.1);have bw : (S * W * b - X) * d = S * W * ((b - p) * (d - n)) + S * W * ((b - q) * n) := by grind
  have := IW (v := S * W * b - X) hd (by rw [bw]; omega);omega
 have low : ∀ {b : Int}, b ≤ p → b ≤ q → b ≤ g := fun {b} bB cf => by
  have Gw := aak bB cf;refine Int.not_lt.1 fun bj => ?_;have m := pK (show g + 1 ≤ b by omega) (show 0 ≤ S * W by omega);have aO : (2 * (S * g) + S) * W = 2 * (S * W * (g + 1)) - S * W := by grind
  omega
 have high : ∀ {b : Int}, p ≤ b → q ≤ b → g ≤ b := fun {b} bB cf => by
  have Gw := XS bB cf;refine Int.not_lt.1 fun bj => ?_;have m := pK (show b + 1 ≤ g by omega) (show 0 ≤ S * W by omega);have aI : (2 * (S * g) - S) * W = 2 * (S * W * g) - S * W := by grind
  have cD : S * W * (b + 1) = S * W * b + S * W := by grind
  omega
 exact ⟨fun h => ⟨low (oM _) h, high h (oM _)⟩, fun h => ⟨low h (oM _), high (oM _) h⟩⟩
def eT (lt : Int × Int → Int × Int → Bool) : List (Int × Int) → List (Int × Int) → List (Int × Int)
 | [], b => b
 | x :: a, [] => x :: a
 | x :: a, y :: b => if lt y x then y :: eT lt (x :: a) b else x :: eT lt a (y :: b)
termination_by a b => a.length + b.length
theorem H2 (lt : Int × Int → Int × Int → Bool) (a : List (Int × Int)) : eT lt a [] = a := by cases a <;> simp [eT]
theorem aaM (lt : Int × Int → Int × Int → Bool) (a : List (Int × Int)) : eT lt [] a = a := by simp [eT]
theorem H0 (lt : Int × Int → Int × Int → Bool) : ∀ a b, (eT lt a b).length = a.length + b.length := by
 intro a b
 induction a, b using eT.induct lt with
 | case1 b => simp [eT]
 | case2 x a => simp [eT]
 | case3 x a y b h cw => rw [eT, if_pos h, lr, cw]; simp; omega
 | case4 x a y b h cw => rw [eT, if_neg h, lr, cw]; simp; omega
def ix (lt : Int × Int → Int × Int → Bool) (l : List (Int × Int)) : List (Int × Int) :=
 if h : l.length < 2 then l else eT lt (ix lt (l.take (l.length / 2))) (ix lt (l.drop (l.length / 2)))
termination_by l.length
decreasing_by all_goals (simp; omega)
theorem Ep (lt : Int × Int → Int × Int → Bool) : ∀ (N : Nat) (l : List (Int × Int)), l.length ≤ N → (ix lt l).length = l.length
 | 0, l, h => by rw [ix, dif_pos (by omega)]
 | N + 1, l, h => by
  rw [ix]
  split
  ·rfl
  ·rw [H0, Ep lt N _ (by simp; omega), Ep lt N _ (by simp; omega)];simp; omega
end Go.Proofs.YtpochbhajmbfdaaGreat
namespace Go.Proofs.YtpochbhajmbfdaaGreat
open Go.RowKit
structure Jv where
 v : Value
 n : Nat
 xs : List Value
section
variable {P : Program} {B p5 : eX} {A ei : Nat → Prop} {s s' : aC} {ad : Nat → Nat} {a : Act} {w w' : World}
theorem Rel.yb (h : Rel B A s ad a w) (dz : ∀ b, A b → b < w.heap.size → ei b ∧ w'.heap[b]? = w.heap[b]?) (ef : ∀ k cs, s.mem k = some cs → w'.heap[ad k]? = w.heap[ad k]? ∧ ¬ p5.F (ad k)) (Xh : jN p5 w') (Hi : ∀ b, p5.W.heap.size ≤ b → ei b) (Gz : ug p5 s ad) (u0 : p5.marks = B.marks := by rfl) : Rel p5 ei s ad a w' := by
 have Mc : ∀ b, s.free A ad b → b < w.heap.size → s.free ei ad b ∧ w'.heap[b]? = w.heap[b]? := fun b ab ao => ⟨⟨(dz b ab.1 ao).1, ab.2⟩, (dz b ab.1 ao).2⟩;refine ⟨h.pH.trans u0.symm, h.size, fun t av aD => ?_, fun k cs af => ?_, h.inj, Xh, Hi, Gz⟩
 ·obtain ⟨v, h1, h2⟩ := h.gO t av aD;exact ⟨v, h1, h2.map Mc fun _ _ => rfl⟩
 ·obtain ⟨vs, ty, h1, h2, ap⟩ := h.dx k cs af;exact ⟨vs, ty, by rw [(ef k cs af).1]; exact h1, h2.map Mc fun _ _ _ _ => rfl, (ef k cs af).2⟩
theorem Rel.P9 {d : Nat} {av bv : aj} (h : Rel B A s ad a w) (hd : s.tmps d = some bv) (hv : ∀ v, a.tmps[d]? = some v → c9 (s.free A ad) ad w bv v → c9 (s.free A ad) ad w av v) : Rel B A (s.put (some d) av) ad a w := by
 refine ⟨h.pH, h.size, fun t cv aD => ?_, h.dx, h.inj, h.below, h.up, h.jT⟩;simp only [aC.put] at aD
 by_cases e : t = d
 ·subst e;rw [cr] at aD;cases aD;obtain ⟨v, h1, h2⟩ := h.gO t bv hd;exact ⟨v, h1, hv v h1 h2⟩
 ·rw [cl _ _ e] at aD;exact h.gO t cv aD
def nt (B : eX) (s : aC) (ad : Nat → Nat) (w : World) : eX := ⟨w, fun b => b < w.heap.size ∧ ∀ k cs, s.mem k = some cs → ad k ≠ b, fun _ h => h.1, fun k => if s.n ≤ k then some (ad k) else none, B.marks⟩
theorem wL {B : eX} (s : aC) (ad : Nat → Nat) (w : World) : ug (nt B s ad w) s ad := fun k b af => by
 simp only [nt] at af
 split at af
 ·rename_i h; exact ⟨h, ms af⟩
 ·cases af
theorem TF {bt : eX} {s s' : aC} {ad bg : Nat → Nat} {w w' : World} {A : Nat → Prop} {a' : Act} (h : ug bt s ad) (cu : Rel (nt bt s ad w) A s' bg a' w') : ug bt s' bg := fun k b af => by
 obtain ⟨h1, h2⟩ := h k b af;obtain ⟨ap, aL⟩ := cu.jT k (ad k) (by simp [nt, h1]);exact ⟨ap, aL.trans h2⟩
theorem Rel.hot (h : Rel B A s ad a w) (Hi : ∀ b, w.heap.size ≤ b → A b) : Rel (nt B s ad w) A s ad a w :=
 h.yb (fun b h _ => ⟨h, rfl⟩) (fun k cs af => ⟨rfl, fun ar => ar.2 k cs af rfl⟩) (jN.refl _) Hi (wL _ _ _)
theorem Pd {base : Nat} {e : TypeId} {sz : Nat} {v : Value} {n : Nat} {xs : List Value} (h : w.ownsRow base e sz v n xs) (aw : ∀ g, v.ownBlock = some g → w'.heap[g]? = w.heap[g]?) : w'.ownsRow base e sz v n xs := by
 refine ⟨h.1, ?_⟩;rcases h.2 with aE | ⟨g, cap, cur, rfl, ab, ts, rest⟩
 ·exact .inl aE
 ·exact .inr ⟨g, cap, cur, rfl, ab, (aw g rfl).trans ts, rest⟩
end
section
variable {P : Program} {e sz : Nat} {t : Jv} {s : aC} {Q : Exit → Jv → aC → Prop} {x y c : Code}
theorem Qn (w : World) (base : Nat) (t ty e : TypeId) (i : TypeInfo) (z : Value) (size bytes : Nat) (aD : P.underlying t = some (.slice e)) (hi : P.info? e = some i) (aZ : i.zero = some z)
  (hh : i.size = size) (kJ : i.bytes = bytes) (ot : z.cells.size = size) (bW : 0 < size)
  (v : Value) (n : Nat) (xs : List Value) (ef : w.ownsRow base e size v n xs)
  (a : Addr) (m c : Nat) (news : List Value) (ao : news.length = m * size) (kM : ∀ j u, news[j]? = some u → w.cell? (a.add j) = some u) (h1 : ∀ u ∈ news, u.oneCell' = true)
  (Gi : n + m ≤ maxLen) (GB : (n + m) * bytes ≤ 140737488355328) (nt : base ≤ w.heap.size) (hm : 0 < m) :
  ∃ aV w', (Builtin.append_ #[t, t] ty #[v, .slice (some a) m c]).run P w = .ok aV w' ∧ w'.ownsRow base e size aV (n + m) (xs ++ news) ∧ w.grownBy w' v.ownBlock ∧ (∀ g, aV.ownBlock = some g → v.ownBlock = some g ∨ w.heap.size ≤ g) ∧ aV.oneCell' = true := by
 obtain ⟨aV, w', aq, h2, ap, aL⟩ := run_append_own (P := P) w base t ty e i z size bytes aD hi aZ hh kJ ot bW v n xs ef a m c news ao kM h1 Gi GB nt;refine ⟨aV, w', aq, h2, ap, ?_, ?_⟩
 ·have ahv : n + m ≤ 9223372036854775807 := by simp only [maxLen] at Gi; omega
  rcases ef.2 with ⟨rfl, rfl⟩ | ⟨g, cap, cur, rfl, qp, aw, eM, js, ev, nC⟩
  ·have aa : xs = [] := mv (by simpa using ef.1);subst aa;have := run_append_nil (P := P) w t ty e i z aD hi aZ a m c news (by rw [hh]; exact ao) kM hm (by omega) (by rw [kJ]; simp only [jH] at GB; omega);rw [this] at aq;cases aq;intro g aw;simp [Value.ownBlock] at aw;exact .inr (by omega)
  ·by_cases lN : n + m ≤ cap
   ·have wR : n * i.size + news.length ≤ cur.size := by rw [hh, ao, ev, ← j0]; exact j1 _ lN
    have := run_append_room (P := P) w t ty e i aD hi g n cap cur aw a m c news (by rw [hh]; exact ao) kM h1 lN wR;rw [this] at aq;cases aq;intro iW ew;exact .inl ew
   ·have holds : ∀ j u, xs[j]? = some u → w.cell? ((⟨g, 0, none⟩ : Addr).add j) = some u := ef.cells (g := g) rfl;have := run_append_grow (P := P) w t ty e i z aD hi aZ ⟨g, 0, none⟩ n cap xs (by rw [hh]; exact ef.1) holds a m c news (by rw [hh]; exact ao) kM (by omega) (by omega) (growslice_fits (by omega) (by rw [kJ]; exact GB));rw [this] at aq;cases aq;intro iW ew;simp [Value.ownBlock] at ew;exact .inr (by omega)
 ·rcases h2.2 with ⟨rfl, _⟩ | ⟨g, cap, cur, rfl, _⟩ <;> rfl
def vy (P : Program) (tt e sz bytes : Nat) : Bool := match P.underlying tt, P.info? e with
 | some (.slice bw), some i => match i.zero with
  | some z => Nat.beq bw e && Nat.beq i.size sz && Nat.beq i.bytes bytes && Nat.beq z.cells.size sz && Nat.blt 0 sz
  | none => false
 | _, _ => false
class n0 (P : Program) (tt : TypeId) (e sz bytes : outParam Nat) : Prop where
 h : vy P tt e sz bytes = true
theorem qS {tt e sz bytes : Nat} (h : vy P tt e sz bytes = true) : ∃ (i : TypeInfo) (z : Value), P.underlying tt = some (.slice e) ∧ P.info? e = some i ∧ i.zero = some z ∧ i.size = sz ∧ i.bytes = bytes ∧ z.cells.size = sz ∧ 0 < sz := by
 unfold vy at h
 split at h
 ·rename_i bw i hu hi
  split at h
  ·rename_i z aZ;simp only [dS] at h;obtain ⟨⟨⟨⟨h1, h2⟩, ap⟩, aL⟩, dk⟩ := h;rw [gZ h1] at hu;exact ⟨i, z, hu, hi, aZ, gZ h2, gZ ap, gZ aL, by simpa [Nat.blt_eq] using dk⟩
  ·cases h
 ·cases h
end
structure bP where
 e : Nat
 sz : Nat
 v : Value
 n : Nat
 aU : List AC
abbrev aJ := Nat → Option bP
def fW : aJ := fun _ => none
def bJ (i : Nat) (r : bP) : aJ := bQ fW i r
def bM (R az : aJ) : Prop := ∀ i r, R i = some r → az i = some r
theorem bM.refl (R : aJ) : bM R R := fun _ _ h => h
theorem nO (f : aJ) (i : Nat) (r : bP) : bM (bJ i r) (bQ f i r) := by
 intro j q h
 by_cases e : j = i
 ·subst e; rw [bJ, cr] at h; rw [cr]; exact h
 ·rw [bJ, cl _ _ e] at h; cases h
def jg (v : Value) (off : Nat) : Value := match v with
 | .slice (some a) _ _ => .pointer (some (a.add off))
 | _ => .pointer none
def gN (v : Value) (z lo hi : Nat) : Value := match v with
 | .slice A _ c => sliced A lo hi c z
 | _ => v
def bP.own (r : bP) (b : Nat) : Prop := r.v.ownBlock = some b ∨ (r.sz = 0 ∧ ∃ S w, r.aU = [.p S] ∧ S.holds w r.v ∧ S.lc w r.v b)
def bP.ok (U : Nat → Prop) (ad : Nat → Nat) (w : World) (r : bP) : Prop :=
 (0 < r.sz ∧ ∃ xs, w.ownsRow 0 r.e r.sz r.v r.n xs ∧ bV U ad w r.aU xs) ∨ (r.sz = 0 ∧ r.n = 0 ∧ r.v.ownBlock = none ∧ (∃ S, r.aU = [.p S] ∧ S.holds w r.v) ∧ ∀ b, r.own b → b < w.heap.size)
theorem bP.oE {r : bP} {b : Nat} (h : r.own b) (hs : 0 < r.sz) : r.v.ownBlock = some b := by
 rcases h with h | ⟨h, _⟩
 ·exact h
 ·omega
theorem bP.ok.row {U : Nat → Prop} {ad : Nat → Nat} {w : World} {r : bP} (h : r.ok U ad w) (hs : 0 < r.sz) : ∃ xs, w.ownsRow 0 r.e r.sz r.v r.n xs ∧ bV U ad w r.aU xs := by
 rcases h with ⟨_, h⟩ | ⟨h, _⟩
 ·exact h
 ·omega
theorem bP.ok.pos {U : Nat → Prop} {ad : Nat → Nat} {w : World} {r : bP} (h : r.ok U ad w) (aE : 0 < r.n) : 0 < r.sz := by
 rcases h with ⟨h, _⟩ | ⟨_, h, _⟩
 ·exact h
 ·omega
theorem bP.ok.lt {U : Nat → Prop} {ad : Nat → Nat} {w : World} {r : bP} (h : r.ok U ad w) {g : Nat} (aw : r.own g) : g < w.heap.size := by
 rcases h with ⟨hs, xs, ay, _⟩ | ⟨_, _, _, _, h⟩
 ·exact (ay.lt g (aw.elim id fun h => by omega)).2
 ·exact h g aw
theorem bP.ok.kept {U cC : Nat → Prop} {ad bg : Nat → Nat} {w w' : World} {r : bP} (h : r.ok U ad w) (ak : ∀ y ∈ r.aU, y.bb = true) (af : ∀ g, r.own g → w'.heap[g]? = w.heap[g]?) (bW : w.heap.size ≤ w'.heap.size) (dz : ∀ b, U b → b < w.heap.size → cC b ∧ w'.heap[b]? = w.heap[b]?) : r.ok cC bg w' := by
 rcases h with ⟨hs, xs, ay, ao⟩ | ⟨hs, aE, hv, ⟨S, hS, a6⟩, bj⟩
 ·exact .inl ⟨hs, xs, Pd ay fun g q => af g (.inl q), ao.map dz fun j x aa ae => absurd ae (AC.dy (ak x aa) j)⟩
 ·exact .inr ⟨hs, aE, hv, ⟨S, hS, (S.frame w w' r.v a6 fun b ab => af b (.inr ⟨hs, S, w, hS, a6, ab⟩)).1⟩, fun b ab => tX (bj b ab) bW⟩
structure ux (bt : eX) (A : Nat → Prop) (s : aC) (ad : Nat → Nat) (w : World) (r : bP) : Prop where
 ok : r.ok (s.free A ad) ad w
 pd : ∀ y ∈ r.aU, y.bb = true
 own : ∀ g, r.own g → ¬ A g ∧ ∀ k cs, s.mem k = some cs → ad k ≠ g
theorem ux.cells {bt : eX} {A : Nat → Prop} {s : aC} {ad : Nat → Nat} {w : World} {r : bP} (h : ux bt A s ad w r) (hs : 0 < r.sz) : ∃ xs, w.ownsRow 0 r.e r.sz r.v r.n xs ∧ bV (s.free A ad) ad w r.aU xs := h.ok.row hs
structure er (bt : eX) (bS : Nat → Prop) (R : aJ) (s : aC) (a : Act) (w : World) (A : Nat → Prop) (ad : Nat → Nat) : Prop where
 up : ∀ b, bt.W.heap.size ≤ b → bS b
 sub : ∀ b, A b → bS b
 rel : Rel (nt bt s ad w) A s ad a w
 oy : ∀ k cs, s.mem k = some cs → ¬ bt.F (ad k)
 below : jN bt w
 rows : ∀ i r, R i = some r → ux bt A s ad w r
 apart : ∀ i j r q, R i = some r → R j = some q → i ≠ j → ∀ g, r.own g → ¬ q.own g
 hot : ∀ i r g, R i = some r → r.own g → ¬ bt.F g ∧ bS g
 jT : ug bt s ad
def o0 (bt : eX) (bS : Nat → Prop) (R : aJ) (s : aC) (a : Act) (w : World) : Prop := ∃ A ad, er bt bS R s a w A ad
section
variable {P : Program} {bt : eX} {bS A : Nat → Prop} {R : aJ} {s s' : aC} {a a' : Act} {w w' : World} {ad bg : Nat → Nat} {o bn bk : Oper} {ops : Array Oper}
theorem bV.wu {U cC : Nat → Prop} {xs : List AC} {vs : List Value} (h : bV U ad w xs vs) (ak : ∀ y ∈ xs, y.bb = true) (dz : ∀ b, U b → b < w.heap.size → cC b ∧ w'.heap[b]? = w.heap[b]?) : bV cC bg w' xs vs :=
 h.map dz fun j x aa ae => absurd ae (AC.dy (ak x aa) j)
theorem er.next (h : er bt bS R s a w A ad) (cu : Rel (nt bt s ad w) A s' bg a' w') : er bt bS R s' a' w' A bg := by
 have GD : ∀ k cs, s'.mem k = some cs → w.heap.size ≤ bg k ∨ ∃ j cs, s.mem j = some cs ∧ ad j = bg k := by
  intro k cs af;obtain ⟨_, _, _, _, hF⟩ := cu.dx k cs af;rcases iQ (bg k) w.heap.size with ao | ao
  ·exact .inr (Classical.byContradiction fun aE => hF ⟨ao, fun j cs ae e => aE ⟨j, cs, ae, e⟩⟩)
  ·exact .inl ao
 have jt : ∀ b, s.free A ad b → b < w.heap.size → s'.free A bg b ∧ w'.heap[b]? = w.heap[b]? := fun b ab ao => by
  refine ⟨⟨ab.1, fun k cs af e => ?_⟩, cu.below.block b ⟨ao, fun k cs af => ab.2 k cs af⟩⟩;rcases GD k cs af with h1 | ⟨j, au, ae, bw⟩
  ·omega
  ·exact ab.2 j au ae (bw.trans e)
 refine ⟨h.up, h.sub, cu.hot fun b ab => cu.up b (kS cu.below.size ab), fun k cs af ar => ?_, ⟨cu.below.os.trans h.below.os, cu.below.tape.trans h.below.tape, cu.below.output.trans h.below.output, kS h.below.size cu.below.size, fun b ar => ?_⟩, fun i r hi => ?_, h.apart, h.hot, TF h.jT cu⟩
 ·rcases GD k cs af with h1 | ⟨j, au, ae, e⟩
  ·have := bt.lt _ ar; have := h.below.size; omega
  ·rw [← e] at ar; exact h.oy j au ae ar
 ·exact (cu.below.block b ⟨tX (bt.lt b ar) h.below.size, fun k cs af e => h.oy k cs af (by rw [e]; exact ar)⟩).trans (h.below.block b ar)
 ·obtain ⟨lh, ak, aw⟩ := h.rows i r hi;refine ⟨lh.kept ak (fun g q => cu.below.block g ⟨lh.lt q, (aw g q).2⟩) cu.below.size jt, ak, fun g q => ⟨(aw g q).1, fun k cs af he => ?_⟩⟩;rcases GD k cs af with h1 | ⟨j, au, ae, e⟩
  ·have := lh.lt q; omega
  ·exact (aw g q).2 j au ae (e.trans he)
theorem er.put {d : Option Nat} {av : aj} {v : Value} (h : er bt bS R s a w A ad) (hd : ∀ d', d = some d' → d' < s.n) (hv : c9 (s.free A ad) ad w av v) : er bt bS R (s.put d av) (a.put d v) w A ad := h.next (h.rel.put hd hv)
theorem er.le {az : aJ} (h : er bt bS R s a w A ad) (l : bM az R) : er bt bS az s a w A ad :=
 ⟨h.up, h.sub, h.rel, h.oy, h.below, fun i r hi => h.rows i r (l i r hi), fun i j r q hi ae => h.apart i j r q (l i r hi) (l j q ae), fun i r g hi => h.hot i r g (l i r hi), h.jT⟩
theorem er.NM (h : er bt bS R s a w A ad) (l : s.bp s') : er bt bS R s' a w A ad := h.next (h.rel.le l)
inductive kz (P : Program) (R : aJ) (look : Operand → Option aj) (o : Oper) : aj → Prop
 | len (i : Nat) (r : bP) (t z : Nat) (x : Operand) (hi : R i = some r) (bW : 0 < r.sz) (ay : o.op = .call ⟨.builtin .len, #[x], #[t]⟩) (aa : look x = some (aQ r.v)) (aD : sB P t = some z) : kz P R look o (aT r.n)
 | idx (i : Nat) (r : bP) (t : Nat) (x y : Operand) (gG : IntKind) (j : Int) (hi : R i = some r) (ay : o.op = .indexAddr t x y) (aa : look x = some (aQ r.v)) (ah : look y = some (aQ (.int gG j))) (aH : 0 ≤ j) (h1 : j < r.n) (aD : sB P t = some r.sz) : kz P R look o (aQ (jg r.v (j.toNat * r.sz)))
 | nr (i : Nat) (r : bP) (off t f hR : Nat) (x : Operand) (hi : R i = some r) (aE : 0 < r.n) (ay : o.op = .fieldAddr t x f) (aa : look x = some (aQ (jg r.v off))) (aD : te P t f = some hR) : kz P R look o (aQ (jg r.v (off + hR)))
 | load (i : Nat) (r : bP) (off lt : Nat) (x : Operand) (av : bI) (hi : R i = some r) (aE : 0 < r.n) (ay : o.op = .load lt x) (aa : look x = some (aQ (jg r.v off))) (hv : pick P lt r.aU off = some av) : kz P R look o (.w av)
 | sl (i : Nat) (r : bP) (t lo hi : Nat) (x : Operand) (ue sH : Option Operand) (dd : R i = some r) (bW : 0 < r.sz) (ay : o.op = .slice t x ue sH none) (aa : look x = some (aQ r.v)) (ao : (ue = none ∧ lo = 0 ∧ sH ≠ none) ∨ ∃ y, ue = some y ∧ look y = some (aQ (.int .i64 lo))) (a6 : (sH = none ∧ hi = r.n) ∨ ∃ y, sH = some y ∧ look y = some (aQ (.int .i64 hi))) (h1 : lo ≤ hi) (h2 : hi ≤ r.n) (aD : sB P t = some r.sz) : kz P R look o (aQ (gN r.v r.sz lo hi))
 | zA (i : Nat) (r : bP) (t z lo hi : Nat) (x : Operand) (dd : R i = some r) (bW : 0 < r.sz) (ay : o.op = .call ⟨.builtin .len, #[x], #[t]⟩) (aa : look x = some (aQ (gN r.v r.sz lo hi))) (aD : sB P t = some z) : kz P R look o (aT ((hi - lo : Nat) : Int))
 | zp (i : Nat) (r : bP) (t lo hi : Nat) (x y : Operand) (gG : IntKind) (j : Int) (dd : R i = some r) (ay : o.op = .indexAddr t x y) (aa : look x = some (aQ (gN r.v r.sz lo hi))) (ah : look y = some (aQ (.int gG j))) (aH : 0 ≤ j) (h1 : j < ((hi - lo : Nat) : Int)) (h2 : hi ≤ r.n) (aD : sB P t = some r.sz) : kz P R look o (aQ (jg r.v ((lo + j.toNat) * r.sz)))
theorem kz.congr {look gj : Operand → Option aj} {av : aj} (h : kz P R look o av) (e : ∀ x ∈ o.op.operands, gj x = look x) : kz P R gj o av := by
 cases h with
 | len i r t z x hi bW ay aa aD => exact .len i r t z x hi bW ay (by rw [e x (by simp [ay, Op.operands, Call.operands])]; exact aa) aD
 | idx i r t x y gG j hi ay aa ah aH h1 aD => exact .idx i r t x y gG j hi ay (by rw [e x (by simp [ay, Op.operands])]; exact aa) (by rw [e y (by simp [ay, Op.operands])]; exact ah) aH h1 aD
 | nr i r off t f hR x hi aE ay aa aD => exact .nr i r off t f hR x hi aE ay (by rw [e x (by simp [ay, Op.operands])]; exact aa) aD
 | load i r off lt x av hi aE ay aa hv => exact .load i r off lt x av hi aE ay (by rw [e x (by simp [ay, Op.operands])]; exact aa) hv
 | sl i r t lo hi x ue sH dd bW ay aa ao a6 h1 h2 aD =>
  refine .sl i r t lo hi x ue sH dd bW ay (by rw [e x (by simp [ay, Op.operands])]; exact aa) ?_ ?_ h1 h2 aD
  ·rcases ao with h | ⟨y, rfl, h⟩
   ·exact .inl h
   ·exact .inr ⟨y, rfl, by rw [e y (by simp [ay, Op.operands])]; exact h⟩
  ·rcases a6 with h | ⟨y, rfl, h⟩
   ·exact .inl h
   ·exact .inr ⟨y, rfl, by rw [e y (by simp [ay, Op.operands])]; exact h⟩
 | zA i r t z lo hi x dd bW ay aa aD => exact .zA i r t z lo hi x dd bW ay (by rw [e x (by simp [ay, Op.operands, Call.operands])]; exact aa) aD
 | zp i r t lo hi x y gG j dd ay aa ah aH h1 h2 aD => exact .zp i r t lo hi x y gG j dd ay (by rw [e x (by simp [ay, Op.operands])]; exact aa) (by rw [e y (by simp [ay, Op.operands])]; exact ah) aH h1 h2 aD
theorem kz.rows {az : aJ} {look : Operand → Option aj} {av : aj} (h : kz P R look o av) (l : bM R az) : kz P az look o av := by
 cases h with
 | len i r t z x hi bW ay aa aD => exact .len i r t z x (l _ _ hi) bW ay aa aD
 | idx i r t x y gG j hi ay aa ah aH h1 aD => exact .idx i r t x y gG j (l _ _ hi) ay aa ah aH h1 aD
 | nr i r off t f hR x hi aE ay aa aD => exact .nr i r off t f hR x (l _ _ hi) aE ay aa aD
 | load i r off lt x av hi aE ay aa hv => exact .load i r off lt x av (l _ _ hi) aE ay aa hv
 | sl i r t lo hi x ue sH dd bW ay aa ao a6 h1 h2 aD => exact .sl i r t lo hi x ue sH (l _ _ dd) bW ay aa ao a6 h1 h2 aD
 | zA i r t z lo hi x dd bW ay aa aD => exact .zA i r t z lo hi x (l _ _ dd) bW ay aa aD
 | zp i r t lo hi x y gG j dd ay aa ah aH h1 h2 aD => exact .zp i r t lo hi x y gG j (l _ _ dd) ay aa ah aH h1 h2 aD
theorem ac8 {U : Nat → Prop} {ty : TypeId} {aU : List AC} {off : Nat} {av : bI} {xs : List Value} {b : Addr} (hv : pick P ty aU off = some av) (ao : bV U ad w aU xs) (ak : ∀ j u, xs[j]? = some u → w.cell? (b.add j) = some u) :
  ∃ v, (loadVar ty (b.add off)).run P w = .ok v w ∧ gC U ad w av v := by
 unfold pick at hv
 have key : ∀ d, P.underlying ty = some d → ((∃ bm, d = .struct bm) ∨ ∃ n e, d = .array n e) → ((P.info? ty).bind fun i => if off + i.size ≤ aU.length then some (bI.agg ((aU.drop off).take i.size)) else none) = some av → ∃ v, (loadVar ty (b.add off)).run P w = .ok v w ∧ gC U ad w av v := by
  intro d hu hd h;cases hi : P.info? ty with
  | none => rw [hi] at h; cases h
  | some i =>
   rw [hi] at h;simp only [j2] at h
   split at h
   ·rename_i hle;cases h;have hs := ao.sub off i.size;have hlen : ((xs.drop off).take i.size).length = i.size := by have := ao.1; simp; omega
    refine ⟨_, IK hu hd hi hlen (fun j v ae => ?_), _, rfl, hs⟩;have jV : j < i.size := by rw [← hlen]; exact (bX.1 ae).1
    rw [fN jV, gl] at ae;rw [x3];exact ak _ v ae
   ·cases h
 have HG : ∀ d, P.underlying ty = some d → (∀ bm, d ≠ .struct bm) → (∀ n e, d ≠ .array n e) → (aU[off]?).map bI.one = some av → ∃ v, (loadVar ty (b.add off)).run P w = .ok v w ∧ gC U ad w av v := by
  intro d hu h1 h2 h;cases aa : aU[off]? with
  | none => rw [aa] at h; cases h
  | some x =>
   rw [aa] at h;cases h;have bj : off < xs.length := by rw [← ao.1]; exact (bX.1 aa).1
   have hv := cp bj;exact ⟨_, IL hu h1 h2 (ak off _ hv), ao.2 off x _ aa hv⟩
 cases hu : P.underlying ty with
 | none => rw [hu] at hv; cases hv
 | some d =>
  rw [hu] at hv;cases d <;> first | exact key _ hu (.inl ⟨_, rfl⟩) hv | exact key _ hu (.inr ⟨_, _, rfl⟩) hv | exact HG _ hu (fun _ h => by cases h) (fun _ _ h => by cases h) hv
theorem ux.slice {r : bP} (h : ux bt A s ad w r) (bW : 0 < r.sz) : ∃ eW c, r.v = .slice eW r.n c ∧ (0 < r.n → ∃ g, eW = some ⟨g, 0, none⟩) := by
 obtain ⟨xs, ay, _⟩ := h.cells bW;rcases ay.2 with ⟨e, dp⟩ | ⟨g, cap, cur, e, _⟩
 ·exact ⟨none, 0, by rw [e, dp], fun h => by omega⟩
 ·exact ⟨_, _, e, fun _ => ⟨g, rfl⟩⟩
theorem ux.Ej {r : bP} (h : ux bt A s ad w r) (bW : 0 < r.sz) : ∃ eW c, r.v = .slice eW r.n c ∧ r.n ≤ c ∧ (0 < r.n → ∃ g, eW = some ⟨g, 0, none⟩) := by
 obtain ⟨xs, ay, _⟩ := h.cells bW;rcases ay.2 with ⟨e, dp⟩ | ⟨g, cap, cur, e, _, _, eM, _⟩
 ·exact ⟨none, 0, by rw [e, dp], by omega, fun h => by omega⟩
 ·exact ⟨_, _, e, eM, fun _ => ⟨g, rfl⟩⟩
theorem Qf {g n c z lo hi : Nat} (h1 : lo < hi) (h2 : hi ≤ c) : gN (.slice (some ⟨g, 0, none⟩) n c) z lo hi = .slice (some ((⟨g, 0, none⟩ : Addr).add (lo * z))) (hi - lo) (c - lo) := by
 unfold gN sliced;simp only;rw [if_neg (by omega)]; rfl
theorem kz.sound {av : aj} (h : kz P R s.look o av) (ax : er bt bS R s a w A ad) : ∃ v, (execOp a.eval o).run P w = .ok (.value v) w ∧ c9 (s.free A ad) ad w av v := by
 cases h with
 | len i r t z x hi bW ay aa aD =>
  obtain ⟨eW, c, e, _⟩ := (ax.rows i r hi).slice bW;have hv : a.eval x = r.v := (ax.rel.look aa).1;obtain ⟨el, eB, hu, _, _⟩ := my aD;have e5 : P.underlying t = some (.slice (P.elem t)) := by rw [kd hu]; exact hu
  refine ⟨.int .i64 r.n, ?_, rfl, rfl⟩;have em : (#[x] : Array Operand).map a.eval = #[.slice eW r.n c] := by simp [hv, e]
  simp only [execOp, ay, resolve, em, Sem.run_bind, Sem.run_pure, Result.andThen_ok, invoke, builtin];rw [run_len_slice w t _ eW r.n c e5];rfl
 | idx i r t x y gG j hi ay aa ah aH h1 aD =>
  obtain ⟨eW, c, e, dU⟩ := (ax.rows i r hi).slice ((ax.rows i r hi).ok.pos (by omega));obtain ⟨g, rfl⟩ := dU (by omega);have hv : a.eval x = r.v := (ax.rel.look aa).1;have ae : a.eval y = .int gG j := (ax.rel.look ah).1;obtain ⟨el, eB, hu, dd, hs⟩ := my aD;refine ⟨jg r.v (j.toNat * r.sz), ?_, rfl, by rw [e]; rfl⟩;rw [e] at hv ⊢;simp only [execOp, ay, Instr.indexAt, hv, ae, asIntOf, Sem.run_bind, Sem.run_pure, Result.andThen_ok, run_underlying hu, hq dd, if_pos (And.intro aH h1), hs, jg]
 | nr i r off t f hR x hi aE ay aa aD =>
  obtain ⟨eW, c, e, dU⟩ := (ax.rows i r hi).slice ((ax.rows i r hi).ok.pos (by omega));obtain ⟨g, rfl⟩ := dU aE;have hv : a.eval x = jg r.v off := (ax.rel.look aa).1;rw [e] at hv ⊢;unfold te at aD
  split at aD
  ·rename_i bm hu;cases ar : bm[f]? with
   | none => rw [ar] at aD; cases aD
   | some fd =>
    rw [ar] at aD;simp only [j2] at aD;cases hi : P.info? fd.type with
    | none => rw [hi] at aD; cases aD
    | some eB =>
     rw [hi] at aD;simp only [j2] at aD
     split at aD
     ·cases aD
     ·rename_i cq;cases aD;refine ⟨_, ?_, rfl, rfl⟩;simp only [execOp, ay, Instr.fieldAt, hv, jg, Instr.sureAddr, Sem.run_bind, Sem.run_pure, Result.andThen_ok, run_underlying hu, ar, fieldPlace, hq hi, if_neg cq, x3]
  ·cases aD
 | load i r off lt x av hi aE ay aa hv =>
  have ee := ax.rows i r hi;obtain ⟨eW, c, e, dU⟩ := ee.slice (ee.ok.pos aE);obtain ⟨g, rfl⟩ := dU aE;have CS : a.eval x = jg r.v off := (ax.rel.look aa).1;obtain ⟨xs, gF, ao⟩ := ee.cells (ee.ok.pos aE);obtain ⟨v, h1, h2⟩ := ac8 hv ao (gF.cells (g := g) (by rw [e]; rfl));rw [e] at CS;refine ⟨v, ?_, h2⟩;simp only [execOp, ay, Instr.loadAt, CS, jg, Instr.sureAddr, Sem.run_bind, Sem.run_pure, Result.andThen_ok, h1]
 | sl i r t lo hi x ue sH dd bW ay aa ao a6 h1 h2 aD =>
  obtain ⟨eW, c, e, eM, _⟩ := (ax.rows i r dd).Ej bW;have hv : a.eval x = r.v := (ax.rel.look aa).1;rw [e] at hv;obtain ⟨el, eB, hu, e4, hs⟩ := my aD;have e5 : P.underlying t = some (.slice (P.elem t)) := by rw [kd hu]; exact hu
  have ny : (gN r.v r.sz lo hi).oneCell' = true := by rw [e]; rfl
  refine ⟨_, ?_, rfl, ny⟩;rw [e];rcases ao with ⟨rfl, rfl, cq⟩ | ⟨y, rfl, ah⟩
  ·rcases a6 with ⟨rfl, _⟩ | ⟨y, rfl, ah⟩
   ·exact absurd rfl cq
   ·have ke : a.eval y = .int .i64 hi := (ax.rel.look ah).1;simp only [execOp, ay, hv, gL, so, ke, Sem.run_bind, run_sliceAt_slice w t _ _ _ _ e5, run_slice_h w t eW r.n c e5 .i64 hi (by omega) (by omega), kd hu, hq e4, Result.andThen_ok, hs, Sem.run_pure, ks, gN]
  ·have ke : a.eval y = .int .i64 lo := (ax.rel.look ah).1;rcases a6 with ⟨rfl, rfl⟩ | ⟨y', rfl, Hn⟩
   ·simp only [execOp, ay, hv, gL, so, ke, Sem.run_bind, run_sliceAt_slice w t _ _ _ _ e5, run_slice_l w t eW r.n c e5 .i64 lo (by omega) (by omega), kd hu, hq e4, Result.andThen_ok, hs, Sem.run_pure, ks, gN]
   ·have VI : a.eval y' = .int .i64 hi := (ax.rel.look Hn).1;simp only [execOp, ay, hv, gL, so, ke, VI, Sem.run_bind, run_sliceAt_slice w t _ _ _ _ e5, run_slice_lh w t eW r.n c e5 .i64 .i64 lo hi (by omega) (by omega) (by omega), kd hu, hq e4, Result.andThen_ok, hs, Sem.run_pure, ks, gN]
 | zA i r t z lo hi x dd bW ay aa aD =>
  obtain ⟨eW, c, e, _, _⟩ := (ax.rows i r dd).Ej bW;have hv : a.eval x = gN r.v r.sz lo hi := (ax.rel.look aa).1;obtain ⟨el, eB, hu, _, _⟩ := my aD;have e5 : P.underlying t = some (.slice (P.elem t)) := by rw [kd hu]; exact hu
  refine ⟨.int .i64 ((hi - lo : Nat) : Int), ?_, rfl, rfl⟩;rw [e] at hv;unfold gN sliced at hv;simp only at hv;have em : (#[x] : Array Operand).map a.eval = #[.slice (if c = lo then eW else eW.map (·.add (lo * r.sz))) (hi - lo) (c - lo)] := by simp only [List.map_toArray, kU, List.map_nil, hv]
  simp only [execOp, ay, resolve, em, Sem.run_bind, Sem.run_pure, Result.andThen_ok, invoke, builtin];rw [run_len_slice w t _ _ _ _ e5];rfl
 | zp i r t lo hi x y gG j dd ay aa ah aH h1 h2 aD =>
  obtain ⟨eW, c, e, eM, dU⟩ := (ax.rows i r dd).Ej ((ax.rows i r dd).ok.pos (by omega));obtain ⟨g, rfl⟩ := dU (by omega);have hv : a.eval x = gN r.v r.sz lo hi := (ax.rel.look aa).1;have ae : a.eval y = .int gG j := (ax.rel.look ah).1;obtain ⟨el, eB, hu, e4, hs⟩ := my aD;rw [e, Qf (by omega) (by omega)] at hv;refine ⟨jg r.v ((lo + j.toNat) * r.sz), ?_, rfl, by rw [e]; rfl⟩;rw [e];simp only [execOp, ay, Instr.indexAt, hv, ae, asIntOf, Sem.run_bind, Sem.run_pure, Result.andThen_ok, run_underlying hu, hq e4, if_pos (And.intro aH h1), hs, jg, x3, j0]
theorem aea (w : World) (s3 Al ty elem : TypeId) (g o qi yo z : Nat) (a : Addr) (qT Ak : Nat) (cur : Array Value) (t : TypeId) (cs : List Value)
  (hu : P.underlying s3 = some (.slice elem)) (hs : (P.info? elem).map (·.size) = some z)
  (aw : w.heap[g]? = some (.cells cur t (0, 0))) (aE : cs.length = Nat.min qT qi * z)
  (Hf : ∀ j v, cs[j]? = some v → w.cell? (a.add j) = some v) (wR : o + cs.length ≤ cur.size) (h1 : ∀ v ∈ cs, v.oneCell' = true) :
  (Builtin.copy_ #[s3, Al] ty #[.slice (some ⟨g, o, none⟩) qi yo, .slice (some a) qT Ak]).run P w =
   .ok (goInt (Nat.min qT qi)) (w.setRow g (cur.toList.take o ++ cs ++ cur.toList.drop (o + cs.length)).toArray) := by
 have ao := run_loadCells_list (P := P) w a cs Hf;have jz := run_storeCells_at P g o t cs 0 cur w aw (by simpa using wR) h1;cases al : P.info? elem with
 | none => simp [al] at hs
 | some i =>
  have hi : i.size = z := by simpa [al] using hs
  simp [Builtin.copy_, run_underlying hu, Builtin.lenOf, Builtin.firstCells, sizeOf, typeInfo, al, hi, ← aE, ao, jz]
theorem ad9 (w : World) (s3 Al ty elem : TypeId) (d a : Option Addr) (qi yo qT Ak z : Nat) (hu : P.underlying s3 = some (.slice elem)) (hs : (P.info? elem).map (·.size) = some z) (aE : Nat.min qT qi = 0) :
  (Builtin.copy_ #[s3, Al] ty #[.slice d qi yo, .slice a qT Ak]).run P w = .ok (goInt 0) w := by
 cases al : P.info? elem with
 | none => simp [al] at hs
 | some i =>
  have ao : ∀ (x : Addr), (loadCells x 0).run P w = .ok #[] w := fun x => by simpa using run_loadCells_list (P := P) w x [] (by simp)
  cases d <;> cases a <;> simp [Builtin.copy_, run_underlying hu, Builtin.lenOf, Builtin.firstCells, sizeOf, typeInfo, al, aE, storeCells, ao]
theorem ae9 {cur us : List Value} {off N : Nat} (h : off + us.length ≤ N) (kh : N ≤ cur.length) : (cur.take off ++ us ++ cur.drop (off + us.length)).take N = (cur.take N).take off ++ us ++ (cur.take N).drop (off + us.length) := by
 apply List.ext_getElem?;intro j;have t1 : (cur.take off).length = off := by rw [eh]; omega
 have t2 : ((cur.take N).take off).length = off := by rw [eh, eh]; omega
 by_cases ae : j < N
 ·rw [fN ae]
  by_cases qy : j < off
  ·rw [iq, fY (by rw [t1]; exact qy), fN qy, iq, fY (by rw [t2]; exact qy), fN qy, fN ae]
  ·by_cases C4 : j < off + us.length
   ·rw [iq, gy (by omega), fY (by omega), iq, gy (by omega), fY (by omega), t1, t2]
   ·rw [gy (by simp only [cS, t1]; omega), gy (by simp only [cS, t2]; omega), gl, gl];simp only [cS, t1, t2];rw [fN (by omega)]
 ·rw [qM (by rw [eh]; omega), qM];simp only [cS, eh, hZ];omega
abbrev Be : Value → Prop := fun v => v.oneCell' = true
def iD (v : Value) (z lo hi : Nat) (u : Value) : Prop := (∃ eW c, u = .slice eW (hi - lo) c) ∧ (lo < hi → ∃ g n c, v = .slice (some ⟨g, 0, none⟩) n c ∧ hi ≤ c ∧ u = .slice (some ⟨g, lo * z, none⟩) (hi - lo) (c - lo))
theorem Br (g o k : Nat) : (⟨g, o, none⟩ : Addr).add k = ⟨g, o + k, none⟩ := by unfold Addr.add; split <;> simp_all
theorem iD.all {A : Option Addr} {n c : Nat} (z : Nat) (h1 : n ≤ c) (h2 : 0 < n → ∃ g, A = some ⟨g, 0, none⟩) : iD (.slice A n c) z 0 n (.slice A n c) :=
 ⟨⟨A, c, rfl⟩, fun h => by obtain ⟨g, rfl⟩ := h2 h; exact ⟨g, n, c, rfl, h1, by simp⟩⟩
theorem iD.sl {v u : Value} {z lo hi k m : Nat} (h : iD v z lo hi u) (hm : hi - lo = m) (af : k ≤ m) (ao : lo ≤ hi) : iD v z (lo + k) hi (gN u z k m) := by
 subst hm;obtain ⟨⟨eW, c, e⟩, h2⟩ := h;refine ⟨⟨_, _, by rw [e]; unfold gN sliced; rw [Nat.sub_sub]⟩, fun bj => ?_⟩;obtain ⟨g, n, c', aI, ap, aO⟩ := h2 (by omega);refine ⟨g, n, c', aI, ap, ?_⟩;rw [aO];unfold gN sliced;simp only;rw [if_neg (by omega), gL, Br, Nat.sub_sub, Nat.sub_sub, j0]
theorem iD.aeJ {v u : Value} {z lo hi k : Nat} (h : iD v z lo hi u) (af : lo + k ≤ hi) : iD v z lo (lo + k) (gN u z 0 k) := by
 obtain ⟨⟨eW, c, e⟩, h2⟩ := h;refine ⟨⟨_, _, by rw [e]; unfold gN sliced; rw [show lo + k - lo = k - 0 by omega]⟩, fun bj => ?_⟩;obtain ⟨g, n, c', aI, ap, aO⟩ := h2 (by omega);refine ⟨g, n, c', aI, by omega, ?_⟩;rw [aO];unfold gN sliced;simp only;rw [if_neg (by omega), gL, Br];simp
def AW (R : aJ) (look : Operand → Option aj) (y : Operand) (z m : Nat) (news : List AC) : Prop :=
 look y = some (cM z m news) ∨ ∃ j q lo u, R j = some q ∧ q.sz = z ∧ look y = some (aQ u) ∧ iD q.v z lo (lo + m) u ∧ lo + m ≤ q.n ∧ news = (q.aU.drop (lo * z)).take (m * z)
inductive kA (P : Program) (R : aJ) (look : Operand → Option aj) (o : Oper) : (Value → aJ) → (Value → Prop) → Prop
 | uE (i : Nat) (r : bP) (tt bytes m : Nat) (jh jL : Operand) (news : List AC) (hi : R i = some r) (ay : o.op = .call ⟨.builtin .append, #[jh, jL], #[tt, tt]⟩) (aD : vy P tt r.e r.sz bytes = true) (aa : look jh = some (aQ r.v)) (ah : look jL = some (cM r.sz m news)) (h1 : r.n + m ≤ maxLen) (h2 : (r.n + m) * bytes ≤ 140737488355328) (ak : ∀ y ∈ news, y.bb = true) :
   kA P R look o (fun aV => bQ R i ⟨r.e, r.sz, aV, r.n + m, r.aU ++ news⟩) Be
 | new (i t n e sz bytes : Nat) (parts : List (Nat × Operand)) (vs : List Value) (zs : List (Nat × bI)) (r : List AC) (hi : R i = none) (ay : o.op = .buildSlice t n parts.toArray) (aD : vy P t e sz bytes = true) (dE : xA P t = some vs) (aZ : mQ look parts = some zs) (ab : qh (xn n sz) (hN n sz vs) zs = some r)
   (h1 : (vs.all fun v => v.oneCell') = true) (hs : vs.length = sz) (h2 : n * sz ≤ 16777216) (ap : n ≤ maxLen) (aq : r.length = n * sz) (cO : ∀ y ∈ r, y.bb = true) : kA P R look o (fun aV => bQ R i ⟨e, sz, aV, n, r⟩) Be
 | make (i t l c e sz bytes : Nat) (x y : Operand) (ox pG : IntKind) (vs : List Value) (hi : R i = none) (ay : o.op = .makeSlice t x y) (aD : vy P t e sz bytes = true) (dE : xA P t = some vs) (aa : look x = some (aQ (.int ox l))) (ah : look y = some (aQ (.int pG c))) (ao : l ≤ c) (h1 : (vs.all fun v => v.oneCell') = true) (hs : vs.length = sz) (h2 : bytes * c ≤ 281474976710656) (ap : c ≤ maxLen) : kA P R look o (fun aV => bQ R i ⟨e, sz, aV, l, hN l sz vs⟩) Be
 | copy (i : Nat) (r : bP) (tt t2 m lo hi : Nat) (x y : Operand) (news : List AC) (dd : R i = some r) (bW : 0 < r.sz) (ay : o.op = .call ⟨.builtin .copy, #[x, y], #[tt, t2]⟩) (aD : sB P tt = some r.sz) (aa : (look x = some (aQ r.v) ∧ lo = 0 ∧ hi = r.n) ∨ look x = some (aQ (gN r.v r.sz lo hi)) ∨ ∃ u, look x = some (aQ u) ∧ iD r.v r.sz lo hi u) (ah : AW R look y r.sz m news) (h1 : lo ≤ hi) (h2 : hi ≤ r.n) (ak : ∀ y ∈ news, y.bb = true) :
   kA P R look o (fun _ => bQ R i ⟨r.e, r.sz, r.v, r.n, eA r.aU (lo * r.sz) (news.take (Nat.min m (hi - lo) * r.sz))⟩) (fun aV => aV = .int .i64 ((Nat.min m (hi - lo) : Nat) : Int))
theorem NS {look gj : Operand → Option aj} : ∀ (parts : List (Nat × Operand)), (∀ p ∈ parts, gj p.2 = look p.2) → mQ gj parts = mQ look parts
 | [], _ => rfl
 | (i, x) :: parts, h => by
  simp only [mQ];rw [h (i, x) (by simp), NS parts fun p hp => h p (by simp [hp])]
theorem kA.congr {look gj : Operand → Option aj} {f : Value → aJ} {ij : Value → Prop} (h : kA P R look o f ij) (e : ∀ x ∈ o.op.operands, gj x = look x) : kA P R gj o f ij := by
 cases h with
 | uE i r tt bytes m jh jL news hi ay aD aa ah h1 h2 ak =>
  exact .uE i r tt bytes m jh jL news hi ay aD (by rw [e jh (by simp [ay, Op.operands, Call.operands])]; exact aa) (by rw [e jL (by simp [ay, Op.operands, Call.operands])]; exact ah) h1 h2 ak
 | new i t n el sz bytes parts vs zs r hi ay aD dE aZ ab h1 hs h2 ap aq cO =>
  refine .new i t n el sz bytes parts vs zs r hi ay aD dE ?_ ab h1 hs h2 ap aq cO;rw [NS parts fun p hp => e p.2 ?_]
  ·exact aZ
  ·simp only [ay, Op.operands, List.mem_toArray, ir];exact ⟨p, hp, rfl⟩
 | make i t l c el sz bytes x y ox pG vs hi ay aD dE aa ah ao h1 hs h2 ap =>
  exact .make i t l c el sz bytes x y ox pG vs hi ay aD dE (by rw [e x (by simp [ay, Op.operands])]; exact aa) (by rw [e y (by simp [ay, Op.operands])]; exact ah) ao h1 hs h2 ap
 | copy i r tt t2 m lo hi x y news dd bW ay aD aa ah h1 h2 ak =>
  exact .copy i r tt t2 m lo hi x y news dd bW ay aD (by rw [e x (by simp [ay, Op.operands, Call.operands])]; exact aa) (by unfold AW; rw [e y (by simp [ay, Op.operands, Call.operands])]; exact ah) h1 h2 ak
theorem bV.append {U : Nat → Prop} {xs aU : List AC} {vs us : List Value} (h : bV U ad w xs vs) (k : bV U ad w aU us) : bV U ad w (xs ++ aU) (vs ++ us) := by
 refine ⟨by rw [cS, cS, h.1, k.1], fun i x v aa hv => ?_⟩;rcases iQ i xs.length with ao | ao
 ·rw [fY ao] at aa;rw [fY (by rw [← h.1]; exact ao)] at hv;exact h.2 i x v aa hv
 ·rw [gy ao] at aa;rw [gy (by rw [← h.1]; exact ao), ← h.1] at hv;exact k.2 _ x v aa hv
theorem er.Ge {i : Nat} {r : bP} {w2 : World} {xs : List Value} (h : er bt bS R s a w A ad) (ik : Option Nat) (hold : ∀ g, ik = some g → ∃ q, R i = some q ∧ q.own g) (bW : 0 < r.sz) (iI : w.grownBy w2 ik)
  (aq : w2.ownsRow 0 r.e r.sz r.v r.n xs) (od : ∀ g, r.v.ownBlock = some g → ik = some g ∨ w.heap.size ≤ g) (ao : bV (s.free A ad) ad w r.aU xs) (ak : ∀ y ∈ r.aU, y.bb = true) :
  ∃ ei, er bt bS (bQ R i r) s a w2 ei ad := by
 have pA : ∀ b, s.free A ad b → b < w.heap.size → w2.heap[b]? = w.heap[b]? := fun b ab hD => iI.block b hD fun e => by
  obtain ⟨q, al, aw⟩ := hold b e.symm;exact ((h.rows i q al).own b aw).1 ab.1
 have pz : ∀ k cs, s.mem k = some cs → w2.heap[ad k]? = w.heap[ad k]? := fun k cs af => iI.block _ (h.rel.lt af) fun e => by
  obtain ⟨q, al, aw⟩ := hold _ e.symm;exact ((h.rows i q al).own _ aw).2 k cs af rfl
 have WL : Rel (nt bt s ad w2) (fun b => (A b ∧ b < w.heap.size) ∨ (w2.heap.size ≤ b)) s ad a w2 :=
  h.rel.yb (fun b df hD => ⟨.inl ⟨df, hD⟩, iI.block b hD fun e => by
   obtain ⟨q, al, aw⟩ := hold b e.symm;exact ((h.rows i q al).own b aw).1 df⟩) (fun k cs af => ⟨pz k cs af, fun ar => ar.2 k cs af rfl⟩) (jN.refl _) (fun b ab => .inr ab) (wL _ _ _)
 have jt : ∀ b, s.free A ad b → b < w.heap.size → s.free (fun b => (A b ∧ b < w.heap.size) ∨ w2.heap.size ≤ b) ad b ∧ w2.heap[b]? = w.heap[b]? := fun b ab hD => ⟨⟨.inl ⟨ab.1, hD⟩, ab.2⟩, pA b ab hD⟩
 have main : er bt bS (bQ R i r) s a w2 (fun b => (A b ∧ b < w.heap.size) ∨ w2.heap.size ≤ b) ad := by
  refine ⟨h.up, ?_, WL, h.oy, ⟨iI.os.trans h.below.os, iI.tape.trans h.below.tape, iI.output.trans h.below.output, kS h.below.size iI.size, fun b ar => ?_⟩, fun j q ae => ?_, fun j k q cA ae af kK g aw => ?_, fun j q g ae aw => ?_, h.jT⟩
  ·rintro b (ab | ab)
   ·exact h.sub b ab.1
   ·exact h.up b (by have := h.below.size; have := iI.size; omega)
  ·refine (iI.block b (tX (bt.lt b ar) h.below.size) fun e => ?_).trans (h.below.block b ar);obtain ⟨q, al, aw⟩ := hold b e.symm;exact (h.hot i q b al aw).1 ar
  ·by_cases e : j = i
   ·subst e;rw [cr] at ae;cases ae;refine ⟨.inl ⟨bW, xs, aq, ao.wu ak jt⟩, ak, fun g aw => ?_⟩
    replace aw := bP.oE aw bW
    refine ⟨?_, fun k cs af => ?_⟩
    ·rintro (ab | ab)
     ·rcases od g aw with q | q
      ·obtain ⟨p, hp, pB⟩ := hold g q;exact ((h.rows j p hp).own g pB).1 ab.1
      ·omega
     ·have := (aq.lt g aw).2; omega
    ·rcases od g aw with q | q
     ·obtain ⟨p, hp, pB⟩ := hold g q;exact ((h.rows j p hp).own g pB).2 k cs af
     ·have := h.rel.lt af; omega
   ·rw [cl _ _ e] at ae;obtain ⟨lh, M0, M1⟩ := h.rows j q ae;refine ⟨lh.kept M0 (fun g aw => iI.block g (lh.lt aw) fun bw => ?_) iI.size jt, M0, fun g aw => ⟨?_, (M1 g aw).2⟩⟩
    ·obtain ⟨p, hp, pB⟩ := hold g bw.symm;exact h.apart j i q p ae hp e g aw pB
    ·rintro (ab | ab)
     ·exact (M1 g aw).1 ab.1
     ·have := lh.lt aw; have := iI.size; omega
  ·have O3 : ∀ j q, R j = some q → ∀ g, q.own g → g < w.heap.size := fun j q ae g aw => (h.rows j q ae).ok.lt aw
   by_cases e : j = i
   ·subst e;rw [cr] at ae;cases ae;rw [cl _ _ (Ne.symm kK)] at af;intro ew;rcases od g (bP.oE aw bW) with p | p
    ·obtain ⟨fH, hp, pB⟩ := hold g p;exact h.apart j k fH cA hp af kK g pB ew
    ·have := O3 k cA af g ew; omega
   ·rw [cl _ _ e] at ae
    by_cases aO : k = i
    ·subst aO;rw [cr] at af;cases af;intro ew;rcases od g (bP.oE ew bW) with p | p
     ·obtain ⟨fH, hp, pB⟩ := hold g p;exact h.apart j k q fH ae hp kK g aw pB
     ·have := O3 j q ae g aw; omega
    ·rw [cl _ _ aO] at af;exact h.apart j k q cA ae af kK g aw
  ·by_cases e : j = i
   ·subst e;rw [cr] at ae;cases ae;rcases od g (bP.oE aw bW) with p | p
    ·obtain ⟨fH, hp, pB⟩ := hold g p;exact h.hot j fH g hp pB
    ·exact ⟨fun ar => by have := bt.lt g ar; have := h.below.size; omega, h.up g (by have := h.below.size; omega)⟩
   ·rw [cl _ _ e] at ae;exact h.hot j q g ae aw
 exact ⟨_, main⟩
theorem er.grown {i : Nat} {r : bP} {w2 : World} {xs : List Value} (h : er bt bS R s a w A ad) (ik : Option Nat) (hold : ∀ g, ik = some g → ∃ q, R i = some q ∧ q.own g) (bW : 0 < r.sz) (iI : w.grownBy w2 ik) (ny : r.v.oneCell' = true)
  (aq : w2.ownsRow 0 r.e r.sz r.v r.n xs) (od : ∀ g, r.v.ownBlock = some g → ik = some g ∨ w.heap.size ≤ g) (ao : bV (s.free A ad) ad w r.aU xs) (ak : ∀ y ∈ r.aU, y.bb = true) {d : Nat} (hd : d < s.n) :
  ∃ ei, er bt bS (bQ R i r) (s.put (some d) (aQ r.v)) (a.put (some d) r.v) w2 ei ad := by
 obtain ⟨ei, main⟩ := h.Ge ik hold bW iI aq od ao ak;exact ⟨ei, main.put (d := some d) (fun d' e => by cases e; exact hd) ⟨rfl, ny⟩⟩
theorem cB.FB {U : Nat → Prop} {z n : Nat} {xs : List AC} {v : Value} (h : c9 U ad w (cM z n xs) v) (aE : 0 < n) : ∃ b c vs, v = .slice (some b) n c ∧ n ≤ c ∧ xs.length = n * z ∧ (∀ (j : Nat) u, vs[j]? = some u → w.cell? (b.add j) = some u) ∧ bV U ad w xs vs := by
 obtain ⟨⟨eW, c, e, ak, ao, dU⟩, dz⟩ := h;obtain ⟨b, vs, rfl, ev⟩ := dU aE;exact ⟨b, c, vs, e, ak, ao, ev.at_, ev.II fun bO df => dz bO ⟨c, b, e, aE, df⟩⟩
theorem AW.spec {y : Operand} {z m : Nat} {news : List AC} (h : AW R s.look y z m news) (aZ : 0 < z) (ax : er bt bS R s a w A ad) : (∃ uh yn, a.eval y = .slice uh m yn) ∧ news.length = m * z ∧
  (0 < m → ∃ b c vs, a.eval y = .slice (some b) m c ∧ (∀ (j : Nat) u, vs[j]? = some u → w.cell? (b.add j) = some u) ∧ bV (s.free A ad) ad w news vs) := by
 rcases h with ah | ⟨j, q, lo, u, ae, rfl, ah, ⟨⟨eW, c, rH⟩, hu⟩, aE, rfl⟩
 ·have zm := ax.rel.look ah;obtain ⟨⟨uh, yn, ex, Cu, kL, WO⟩, W5⟩ := id zm;refine ⟨⟨uh, yn, ex⟩, kL, fun hm => ?_⟩;obtain ⟨b, c, vs, ta, _, _, gq, pC⟩ := cB.FB zm hm;exact ⟨b, c, vs, ta, gq, pC⟩
 ·have ta : a.eval y = u := (ax.rel.look ah).1;obtain ⟨xs, ay, ao⟩ := (ax.rows j q ae).cells aZ;have aht : q.aU.length = q.n * q.sz := by rw [ao.1]; exact ay.1
  have wR : lo * q.sz + m * q.sz ≤ q.n * q.sz := by rw [← j0]; exact j1 _ aE
  refine ⟨⟨eW, c, by rw [ta, rH, Nat.add_sub_cancel_left]⟩, by rw [eh, hZ]; omega, fun hm => ?_⟩;obtain ⟨g, n', c', aI, ap, aO⟩ := hu (by omega);refine ⟨⟨g, lo * q.sz, none⟩, _, (xs.drop (lo * q.sz)).take (m * q.sz), by rw [ta, aO, Nat.add_sub_cancel_left], fun i x aa => ?_, ao.sub _ _⟩
  have hi : i < m * q.sz := by
   have := (bX.1 aa).1;rw [eh] at this;omega
  rw [fN hi, gl] at aa;have := ay.cells (g := g) (by rw [aI]; rfl) _ x aa;rw [Br] at this ⊢;simpa using this
theorem kA.out {f : Value → aJ} {ij : Value → Prop} (h : kA P R s.look o f ij) : ∃ aV, ij aV := by
 cases h with
 | copy => exact ⟨_, rfl⟩
 | _ => exact ⟨.bool false, rfl⟩
theorem kA.sound {f : Value → aJ} {ij : Value → Prop} {d : Nat} (h : kA P R s.look o f ij) (ax : er bt bS R s a w A ad) (hd : d < s.n) : ∃ aV w2 ei, (execOp a.eval o).run P w = .ok (.value aV) w2 ∧ ij aV ∧ er bt bS (f aV) (s.put (some d) (aQ aV)) (a.put (some d) aV) w2 ei ad := by
 cases h with
 | uE i r tt bytes m jh jL news hi ay aD aa ah h1 h2 ak =>
  obtain ⟨eB, z, hu, e4, aZ, hh, kJ, ot, bW⟩ := qS aD;obtain ⟨oh, nz, w1⟩ := ax.rows i r hi;obtain ⟨xs, iK, jx⟩ := oh.row bW;have iL : a.eval jh = r.v := (ax.rel.look aa).1;have M3 : r.v.oneCell' = true := (ax.rel.look aa).2;have zm := ax.rel.look ah;rcases vx m with rfl | CL
  ·obtain ⟨⟨uh, yn, ex, Cu, kL, WO⟩, W5⟩ := zm;have kM : news = [] := by simpa using kL
   subst kM;refine ⟨r.v, w, A, ?_, M3, ?_⟩
   ·rw [show (execOp a.eval o) = (do pure (.value (← Builtin.append_ #[tt, tt] o.type #[a.eval jh, a.eval jL])) : Sem Next) by
     simp only [execOp, ay, resolve, invoke, builtin, List.map_toArray, kU, List.map_nil];rfl]
    simp only [Sem.run_bind];rw [iL, ex]
    obtain ⟨eW, cap, hv, eM⟩ : ∃ eW cap, r.v = .slice eW r.n cap ∧ r.n ≤ cap := by
     rcases iK.2 with ⟨e, dp⟩ | ⟨g, cap, cur, hv, qp, ts, eM, _⟩
     ·exact ⟨none, 0, by rw [e, dp], by omega⟩
     ·exact ⟨_, cap, hv, eM⟩
    rw [hv];cases eW with
    | none =>
     cases uh with
     | none => simp [Builtin.append_, run_underlying hu, sizeOf, typeInfo, e4, Builtin.lenOf, Builtin.firstCells, eM, storeCells]
     | some TL => simp [Builtin.append_, run_underlying hu, sizeOf, typeInfo, e4, Builtin.lenOf, Builtin.firstCells, eM, storeCells, loadCells, loadCellsFrom]
    | some afS =>
     cases uh with
     | none => simp [Builtin.append_, run_underlying hu, sizeOf, typeInfo, e4, Builtin.lenOf, Builtin.firstCells, eM, storeCells]
     | some TL => simp [Builtin.append_, run_underlying hu, sizeOf, typeInfo, e4, Builtin.lenOf, Builtin.firstCells, eM, storeCells, loadCells, loadCellsFrom]
   ·have e : bQ R i ⟨r.e, r.sz, r.v, r.n + 0, r.aU ++ []⟩ = R := by
     funext j
     by_cases e : j = i
     ·subst e; rw [cr, hi]; simp
     ·rw [cl _ _ e]
    show er bt bS (bQ R i ⟨r.e, r.sz, r.v, r.n + 0, r.aU ++ []⟩) _ _ _ _ _;rw [e];exact ax.put (d := some d) (fun d' e => by cases e; exact hd) ⟨rfl, M3⟩
  ·obtain ⟨b, c, vs, ta, Cu, kL, gq, pC⟩ := cB.FB zm CL
   have ny : ∀ u ∈ vs, u.oneCell' = true := fun u e5 => by
    obtain ⟨j, ae⟩ := jZ e5;have bj : j < news.length := by rw [pC.1]; exact (bX.1 ae).1
    exact (pC.2 j _ u (cp bj) ae).cell
   obtain ⟨aV, w2, gv, wY, iI, od, MI⟩ := Qn (P := P) w 0 tt o.type r.e eB z r.sz bytes hu e4 aZ hh kJ ot bW r.v r.n xs iK b m c vs (by rw [← pC.1]; exact kL) gq ny h1 h2 (eF _) CL
   obtain ⟨ei, cu⟩ := ax.grown (i := i) (r := ⟨r.e, r.sz, aV, r.n + m, r.aU ++ news⟩) r.v.ownBlock (fun g aw => ⟨r, hi, .inl aw⟩) bW iI MI wY od (jx.append pC) (fun y ah => by
    rcases kT.1 ah with h | h
    ·exact nz y h
    ·exact ak y h) hd
   refine ⟨aV, w2, ei, ?_, MI, cu⟩;have Yp : (Builtin.append_ #[tt, tt] o.type #[a.eval jh, a.eval jL]).run P w = .ok aV w2 := by rw [iL, ta]; exact gv
   simp only [execOp, ay, resolve, invoke, builtin, Sem.run_bind, Sem.run_pure, Result.andThen_ok, List.map_toArray, kU, List.map_nil, Yp]
 | new i t n e sz bytes parts vs zs r hi ay aD dE aZ ab h1 hs h2 ap aq cO =>
  obtain ⟨eB, z, hu, e4, hk, hh, kJ, ot, bW⟩ := qS aD;unfold xA at dE;rw [hu] at dE;simp only at dE;unfold zeroOf at dE;rw [e4] at dE;simp only [j2] at dE;rw [hk] at dE;cases dE;have hlen : z.cells.toList.length = sz := hs;have r0 : (zeroValue e).run P w = .ok z w := by simp [zeroValue, typeInfo, program, Sem.run_bind, Sem.run, e4, Result.andThen, hk]
  have jx : bV (s.free A ad) ad w (hN n sz z.cells.toList) ((List.range (n * sz)).map fun j => z.cells[j % z.cells.size]!) := by
   refine ⟨by simp [hN], fun j x v aa hv => ?_⟩;have ae : j < n * sz := by have := (bX.1 hv).1; simpa using this
   simp only [hN, eG, List.getElem?_range ae, gL, hK] at aa hv;subst aa; subst hv;have bj : j % z.cells.size < z.cells.size := Nat.mod_lt _ (by omega);have aO : z.cells.toList.toArray[j % z.cells.toList.length]! = z.cells[j % z.cells.size]! := by simp
   refine ⟨aO.symm, ?_⟩;rw [aO, getElem!_pos z.cells _ bj];exact ct.1 h1 _ (by simp)
  obtain ⟨us, g1, g2⟩ := yD (U := s.free A ad) (ad := ad) (W := w) (ps := xn n sz) (place := fun i => some (i * sz, sz)) (fun i q al => by
    simp only [xn, eG] at al;cases aq : (List.range n)[i]? with
    | none => rw [aq] at al; cases al
    | some m =>
     rw [aq] at al;cases al;have := bX.1 aq;obtain ⟨ap, aL⟩ := this;simp at aL;rw [aL]) (look := s.look) (env := a.eval) parts _ _ zs r jx aZ (fun p hp av aK => ax.rel.look aK) ab
  have w4 : us.length = n * sz := by rw [← g2.1]; exact aq
  have gv : (execOp a.eval o).run P w = .ok (.value (.slice (some ⟨w.heap.size, 0, none⟩) n n)) (w.alloc (.cells us.toArray e)) := by
   have tz : (parts.toArray.map fun (i, x) => (i, a.eval x)).toList = parts.map fun p => (p.1, a.eval p.2) := by simp
   have cD : (Array.range (n * sz)).map (fun j => z.cells[j % z.cells.size]!) = ((List.range (n * sz)).map fun j => z.cells[j % z.cells.size]!).toArray := by simp [← List.toArray_range]
   simp only [execOp, ay, Instr.buildSlice, Sem.run_bind, run_underlying hu, Result.andThen_ok, hq e4, hh];rw [if_neg (by omega)]
   by_cases aH : n * sz = 0
   ·rw [if_pos aH];have eD : (Array.range (n * sz)).map (fun j => (#[] : Array Value)[j % (#[] : Array Value).size]!) = ((List.range (n * sz)).map fun j => z.cells[j % z.cells.size]!).toArray := by rw [aH]; simp
    simp only [Sem.run_bind, Sem.run_pure, Result.andThen_ok, eD, tz, g1, newRow, newObj, Sem.run];rfl
   ·rw [if_neg aH];simp only [Sem.run_bind, Sem.run_pure, r0, Result.andThen_ok, cD, tz, g1, newRow, newObj, Sem.run];rfl
  have G1 : (w.alloc (.cells us.toArray e)).heap[w.heap.size]? = some (.cells us.toArray e (0, 0)) := by show (w.heap.push _)[w.heap.size]? = _; simp
  obtain ⟨ei, cu⟩ := ax.grown (i := i) (r := ⟨e, sz, .slice (some ⟨w.heap.size, 0, none⟩) n n, n, r⟩) (xs := us) none (fun g aw => by cases aw) bW (World.grownBy_alloc w _ none) rfl ⟨w4, .inr ⟨w.heap.size, n, us.toArray, rfl, eF _, G1, dW _, ap, by simpa using w4, by simp [← w4]⟩⟩ (fun g aw => by simp [Value.ownBlock] at aw; exact .inr (by omega)) g2 cO hd;exact ⟨_, _, ei, gv, rfl, cu⟩
 | make i t l c e sz bytes x y ox pG vs hi ay aD dE aa ah GS h1 hs h2 ap =>
  obtain ⟨eB, z, hu, e4, hk, hh, kJ, ot, bW⟩ := qS aD;unfold xA at dE;rw [hu] at dE;simp only at dE;unfold zeroOf at dE;rw [e4] at dE;simp only [j2] at dE;rw [hk] at dE;cases dE;have hlen : z.cells.toList.length = sz := hs;have X0 : z.cells.size = sz := by simpa using hlen
  have CS : a.eval x = .int ox l := (ax.rel.look aa).1;have YF : a.eval y = .int pG c := (ax.rel.look ah).1;have WK : (c : Int) ≤ 9223372036854775807 := by have h := ap; simp only [maxLen] at h; omega
  have df : (eB.bytes : Int) * (c : Int) ≤ 281474976710656 := by
   have h : ((eB.bytes * c : Nat) : Int) ≤ 281474976710656 := by rw [kJ]; omega
   rwa [Int.natCast_mul] at h
  have aq := run_make (P := P) w t e eB z hu e4 hk ox pG l c (by omega) (by omega) df WK;simp only [ks, hh] at aq
  have gv : (execOp a.eval o).run P w = .ok (.value (.slice (some ⟨w.heap.size, 0, none⟩) l c)) (w.alloc (.cells (madeCells z.cells (c * sz)) e)) := by
   simp only [execOp, ay, CS, YF, Sem.run_bind, aq, Result.andThen_ok, Sem.run_pure]
  have G1 : (w.alloc (.cells (madeCells z.cells (c * sz)) e)).heap[w.heap.size]? = some (.cells (madeCells z.cells (c * sz)) e (0, 0)) := by show (w.heap.push _)[w.heap.size]? = _; simp
  have hmul : l * sz ≤ c * sz := j1 _ GS;have MY : (madeCells z.cells (c * sz)).size = c * sz := size_madeCells _ _
  have Hh : ((madeCells z.cells (c * sz)).toList.take (l * sz)).length = l * sz := by
   rw [eh, Array.length_toList, MY]; exact pM hmul
  have jx : bV (s.free A ad) ad w (hN l sz z.cells.toList) ((madeCells z.cells (c * sz)).toList.take (l * sz)) := by
   refine ⟨by rw [Hh]; simp [hN], fun j x v aa hv => ?_⟩;have ae : j < l * sz := by have := (bX.1 hv).1; rw [Hh] at this; exact this
   rw [fN ae] at hv;simp only [hN, eG, List.getElem?_range ae, gL, hK] at aa;subst aa;have bj : j % z.cells.size < z.cells.size := Nat.mod_lt _ (by omega);have aO : z.cells.toList.toArray[j % z.cells.toList.length]! = z.cells[j % z.cells.size]! := by simp
   have mO : v = z.cells[j % z.cells.size]! := by
    have : (madeCells z.cells (c * sz)).toList[j]? = some z.cells[j % z.cells.size]! := by
     simp only [madeCells, Array.toList_map, eG];rw [show (Array.range (c * sz)).toList[j]? = some j by rw [Array.toList_range, List.getElem?_range (tX ae hmul)]];rfl
    rw [this] at hv;exact (ms hv).symm
   refine ⟨by rw [aO]; exact mO, ?_⟩;rw [aO, getElem!_pos z.cells _ bj];exact ct.1 h1 _ (by simp)
  obtain ⟨ei, cu⟩ := ax.grown (i := i) (r := ⟨e, sz, .slice (some ⟨w.heap.size, 0, none⟩) l c, l, hN l sz z.cells.toList⟩) none (fun g aw => by cases aw) bW (World.grownBy_alloc w _ none) rfl ⟨Hh, .inr ⟨w.heap.size, c, _, rfl, eF _, G1, GS, ap, MY, rfl⟩⟩ (fun g aw => by simp [Value.ownBlock] at aw; exact .inr (by omega)) jx (fun y ah => by simp only [hN, ir] at ah; obtain ⟨j, _, rfl⟩ := ah; rfl) hd;exact ⟨_, _, ei, gv, rfl, cu⟩
 | copy i r tt t2 m lo hi x y news dd bW ay aD aa ah h1 h2 ak =>
  obtain ⟨el, eB, hu, e4, hs⟩ := my aD;have CO : (P.info? el).map (·.size) = some r.sz := by rw [e4]; simp [hs]
  obtain ⟨oh, nz, w1⟩ := ax.rows i r dd;obtain ⟨xs, iK, jx⟩ := oh.row bW
  have hex : ∀ D S v2 w2, a.eval x = D → a.eval y = S → (Builtin.copy_ #[tt, t2] o.type #[D, S]).run P w = .ok v2 w2 → (execOp a.eval o).run P w = .ok (.value v2) w2 := fun D S v2 w2 aI aO cD => by
   subst aI aO;simp only [execOp, ay, resolve, invoke, builtin, Sem.run_bind, Sem.run_pure, Result.andThen_ok, List.map_toArray, kU, List.map_nil, cD]
  obtain ⟨⟨uh, yn, ex⟩, MB, lO⟩ := ah.spec bW ax;have oo : r.aU.length = r.n * r.sz := by rw [jx.1]; exact iK.1
  rcases vx (Nat.min m (hi - lo)) with af | af
  ·obtain ⟨eW, FM, iV, kf, Cv⟩ : ∃ eW FM iV, a.eval x = .slice eW FM iV ∧ FM = hi - lo := by
    obtain ⟨eW, c, e, _, _⟩ := (ax.rows i r dd).Ej bW;rcases aa with ⟨aa, rfl, rfl⟩ | aa | ⟨u, aa, ⟨⟨Rl, Uy, rH⟩, _⟩⟩
    ·exact ⟨eW, r.n, c, by rw [(ax.rel.look aa).1, e], by omega⟩
    ·have al : a.eval x = gN r.v r.sz lo hi := (ax.rel.look aa).1;rw [e] at al;unfold gN sliced at al;exact ⟨_, _, _, al, rfl⟩
    ·exact ⟨Rl, _, Uy, by rw [(ax.rel.look aa).1, rH], rfl⟩
   subst Cv;refine ⟨goInt 0, w, A, hex _ _ _ _ kf ex (ad9 w tt t2 o.type el _ _ _ _ _ _ r.sz hu CO af), by rw [af]; rfl, ?_⟩
   have e : bQ R i ⟨r.e, r.sz, r.v, r.n, eA r.aU (lo * r.sz) (news.take (Nat.min m (hi - lo) * r.sz))⟩ = R := by
    rw [af];funext j
    by_cases e : j = i
    ·subst e; rw [cr, dd]; simp [eA]
    ·rw [cl _ _ e]
   rw [e];exact ax.put (d := some d) (fun d' e => by cases e; exact hd) ⟨rfl, rfl⟩
  ·have XV : Nat.min m (hi - lo) ≤ m := Nat.min_le_left _ _;have ahk : Nat.min m (hi - lo) ≤ hi - lo := Nat.min_le_right _ _;obtain ⟨b, c, vs, ta, gq, pC⟩ := lO (by omega)
   obtain ⟨g, cap, cur, hv, qp, ts, eM, js, ev, nC⟩ : ∃ g cap cur, r.v = .slice (some ⟨g, 0, none⟩) r.n cap ∧ 0 ≤ g ∧ w.heap[g]? = some (.cells cur r.e (0, 0)) ∧ r.n ≤ cap ∧ cap ≤ maxLen ∧ cur.size = cap * r.sz ∧ cur.toList.take (r.n * r.sz) = xs := by
    rcases iK.2 with ⟨_, aH⟩ | h
    ·omega
    ·exact h
   obtain ⟨iV, kf⟩ : ∃ iV, a.eval x = .slice (some ⟨g, lo * r.sz, none⟩) (hi - lo) iV := by
    rcases aa with ⟨aa, rfl, rfl⟩ | aa | ⟨u, aa, ⟨_, hu⟩⟩
    ·exact ⟨cap, by rw [(ax.rel.look aa).1, hv]; simp⟩
    ·refine ⟨cap - lo, ?_⟩;rw [(ax.rel.look aa).1, hv, Qf (by omega) (by omega)];have ki : (⟨g, 0, none⟩ : Addr).add (lo * r.sz) = ⟨g, lo * r.sz, none⟩ := by unfold Addr.add; split <;> simp_all
     rw [ki]
    ·obtain ⟨iW, n', c', aI, _, aO⟩ := hu (by omega);rw [hv] at aI;cases aI;exact ⟨_, by rw [(ax.rel.look aa).1, aO]⟩
   generalize og : Nat.min m (hi - lo) = k at *;have ahl : k * r.sz ≤ m * r.sz := j1 _ XV;have mg : (vs.take (k * r.sz)).length = k * r.sz := by rw [eh, ← pC.1, MB]; omega
   have gE : (news.take (k * r.sz)).length = k * r.sz := by rw [eh, MB]; omega
   have Ms : lo * r.sz + k * r.sz ≤ r.n * r.sz := by rw [← j0]; exact j1 _ (by omega)
   have hmul : r.n * r.sz ≤ cap * r.sz := j1 _ eM
   have MM : bV (s.free A ad) ad w (news.take (k * r.sz)) (vs.take (k * r.sz)) := by
    have := pC.sub 0 (k * r.sz);simpa using this
   have ny : ∀ u ∈ vs.take (k * r.sz), u.oneCell' = true := fun u e5 => by
    obtain ⟨j, ae⟩ := jZ e5;have bj : j < (news.take (k * r.sz)).length := by rw [gE, ← mg]; exact (bX.1 ae).1
    exact (MM.2 j _ u (cp bj) ae).cell
   have gv := aea (P := P) w tt t2 o.type el g (lo * r.sz) (hi - lo) iV r.sz b m c cur r.e (vs.take (k * r.sz)) hu CO ts (by rw [mg, og]) (fun j v ae => gq j v (by
    have ao : j < k * r.sz := by rw [← mg]; exact (bX.1 ae).1
    rwa [fN ao] at ae)) (by rw [mg]; omega) ny
   rw [og] at gv
   have u4 : ∀ (u : Array Value), w.grownBy (w.setRow g u) (some g) := fun u => ⟨rfl, rfl, rfl, by simp [World.setRow], fun k _ af => by
    simp only [World.setRow, tW];rw [if_neg (fun e => af (by rw [e]))]⟩
   have mM := setRow_heap w g cur (cur.toList.take (lo * r.sz) ++ vs.take (k * r.sz) ++ cur.toList.drop (lo * r.sz + (vs.take (k * r.sz)).length)).toArray r.e (0, 0) ts;have cO : cur.toList.length = cap * r.sz := by rw [Array.length_toList]; exact ev
   have hlen : (cur.toList.take (lo * r.sz) ++ vs.take (k * r.sz) ++ cur.toList.drop (lo * r.sz + (vs.take (k * r.sz)).length)).length = cap * r.sz := by
    rw [cS, cS, mg, eh, hZ, cO]; omega
   have hj := ae9 (cur := cur.toList) (us := vs.take (k * r.sz)) (off := lo * r.sz) (N := r.n * r.sz) (by rw [mg]; exact Ms) (by rw [cO]; exact hmul);rw [nC] at hj
   obtain ⟨ei, cu⟩ := ax.Ge (i := i) (r := ⟨r.e, r.sz, r.v, r.n, eA r.aU (lo * r.sz) (news.take (k * r.sz))⟩) (w2 := w.setRow g (cur.toList.take (lo * r.sz) ++ vs.take (k * r.sz) ++ cur.toList.drop (lo * r.sz + (vs.take (k * r.sz)).length)).toArray) (xs := xs.take (lo * r.sz) ++ vs.take (k * r.sz) ++ xs.drop (lo * r.sz + (vs.take (k * r.sz)).length)) (some g) (fun iW ew => by cases ew; exact ⟨r, dd, .inl (by rw [hv]; rfl)⟩) bW (u4 _)
    ⟨by rw [← hj, eh, hlen]; exact pM hmul, .inr ⟨g, cap, _, hv, qp, mM, eM, js, by simpa using hlen, by simpa using hj⟩⟩ (fun iW ew => by rw [hv] at ew; simp [Value.ownBlock] at ew; exact .inl (by rw [ew])) (jx.eA MM (lo * r.sz) (by rw [gE, oo]; exact Ms)) (fun q al => by
     unfold eA at al;simp only [kT] at al;rcases al with (h1 | h1) | h1
     ·exact nz q (oN h1)
     ·exact ak q (oN h1)
     ·exact nz q (mW h1))
   exact ⟨goInt (k : Int), _, ei, hex _ _ _ _ kf ta gv, rfl, cu.put (d := some d) (fun d' e => by cases e; exact hd) ⟨rfl, rfl⟩⟩
inductive sL (P : Program) (R : aJ) (look : Operand → Option aj) (o : Oper) : aJ → Prop
 | store (i : Nat) (r : bP) (off ty : Nat) (x y : Operand) (z : bI) (eB : TypeInfo) (hi : R i = some r) (aE : 0 < r.n) (ay : o.op = .store ty x y) (aa : look x = some (aQ (jg r.v off))) (ah : look y = some (.w z)) (aD : P.info? ty = some eB) (hs : eB.size = z.cells.length) (ab : off + z.cells.length ≤ r.aU.length) (ak : ∀ q ∈ z.cells, q.bb = true) : sL P R look o (bQ R i ⟨r.e, r.sz, r.v, r.n, eA r.aU off z.cells⟩)
theorem sL.sound {az : aJ} (h : sL P R s.look o az) (ax : er bt bS R s a w A ad) : ∃ w2 ei, (execOp a.eval o).run P w = .ok .skip w2 ∧ er bt bS az s a w2 ei ad := by
 cases h with
 | store i r off ty x y z eB hi aE ay aa ah aD hs ab ak =>
  obtain ⟨oh, nz, w1⟩ := ax.rows i r hi;have bW := oh.pos aE;obtain ⟨xs, iK, jx⟩ := oh.row bW
  obtain ⟨g, cap, cur, hv, qp, ts, eM, js, ev, nC⟩ : ∃ g cap cur, r.v = .slice (some ⟨g, 0, none⟩) r.n cap ∧ 0 ≤ g ∧ w.heap[g]? = some (.cells cur r.e (0, 0)) ∧ r.n ≤ cap ∧ cap ≤ maxLen ∧ cur.size = cap * r.sz ∧ cur.toList.take (r.n * r.sz) = xs := by
   rcases iK.2 with ⟨_, aH⟩ | h
   ·omega
   ·exact h
  have hp : a.eval x = .pointer (some ⟨g, off, none⟩) := by
   have := (ax.rel.look aa).1;rw [hv] at this;have ki : (⟨g, 0, none⟩ : Addr).add off = ⟨g, off, none⟩ := by unfold Addr.add; split <;> simp_all
   rw [this]; simp only [jg, ki]
  have aZ : gC (s.free A ad) ad w z (a.eval y) := ax.rel.look ah;have oq := aZ.cells;have va : (a.eval y).cells.size = z.cells.length := by have := oq.1; simp at this; exact this.symm
  have oo : r.aU.length = r.n * r.sz := by rw [jx.1]; exact iK.1
  have hmul : r.n * r.sz ≤ cap * r.sz := j1 _ eM
  have jz : (storeVar ty ⟨g, off, none⟩ (a.eval y)).run P w = .ok () (w.setRow g (cur.toList.take off ++ (a.eval y).cells.toList ++ cur.toList.drop (off + (a.eval y).cells.toList.length)).toArray) := by
   unfold storeVar;have cq : ¬ ((a.eval y).cells.size ≠ eB.size) := by rw [va, hs]; simp
   simp only [Sem.run_bind, hq aD, Result.andThen_ok, if_neg cq]
   have dc : ∀ v ∈ (a.eval y).cells.toList, v.oneCell' = true := fun v b8 => by
    obtain ⟨j, ae⟩ := jZ b8;have bj : j < z.cells.length := by rw [oq.1]; exact (bX.1 ae).1
    exact (oq.2 j _ v (cp bj) ae).cell
   have := run_storeCells_at (P := P) g off r.e (a.eval y).cells.toList 0 cur w ts (by simp; omega) dc;simpa using this
  have u4 : ∀ (u : Array Value), w.grownBy (w.setRow g u) (some g) := fun u => ⟨rfl, rfl, rfl, by simp [World.setRow], fun k _ af => by
   simp only [World.setRow, tW];rw [if_neg (fun e => af (by rw [e]))]⟩
  have mM := setRow_heap w g cur (cur.toList.take off ++ (a.eval y).cells.toList ++ cur.toList.drop (off + (a.eval y).cells.toList.length)).toArray r.e (0, 0) ts
  have hlen : (cur.toList.take off ++ (a.eval y).cells.toList ++ cur.toList.drop (off + (a.eval y).cells.toList.length)).length = cap * r.sz := by
   simp [va]; omega
  have hj : (cur.toList.take off ++ (a.eval y).cells.toList ++ cur.toList.drop (off + (a.eval y).cells.toList.length)).take (r.n * r.sz) = xs.take off ++ (a.eval y).cells.toList ++ xs.drop (off + (a.eval y).cells.toList.length) := by
   have M6 : (a.eval y).cells.toList.length = z.cells.length := by simpa using va
   rw [← nC];apply List.ext_getElem?;intro j
   by_cases ae : j < r.n * r.sz
   ·rw [fN ae]
    by_cases qy : j < off
    ·rw [iq, fY (by simp; omega), fN qy, iq, fY (by simp; omega), fN qy, fN ae]
    ·have t1 : (cur.toList.take off).length = off := by simp; omega
     have t2 : ((cur.toList.take (r.n * r.sz)).take off).length = off := by simp; omega
     by_cases C4 : j < off + z.cells.length
     ·rw [iq, gy (by omega), fY (by omega), iq, gy (by omega), fY (by omega), t1, t2]
     ·rw [gy (by simp only [cS, t1]; omega), gy (by simp only [cS, t2]; omega), gl, gl];simp only [cS, t1, t2, M6];rw [fN (by omega)]
   ·rw [qM (by simp; omega), qM];simp only [cS, eh, hZ, M6];have : cur.toList.length = cap * r.sz := by simpa using ev
    omega
  obtain ⟨ei, cu⟩ := ax.Ge (i := i) (r := ⟨r.e, r.sz, r.v, r.n, eA r.aU off z.cells⟩) (w2 := w.setRow g (cur.toList.take off ++ (a.eval y).cells.toList ++ cur.toList.drop (off + (a.eval y).cells.toList.length)).toArray) (xs := xs.take off ++ (a.eval y).cells.toList ++ xs.drop (off + (a.eval y).cells.toList.length)) (some g) (fun iW ew => by cases ew; exact ⟨r, hi, .inl (by rw [hv]; rfl)⟩) bW (u4 _)
   ⟨by simp [va]; have := iK.1; omega, .inr ⟨g, cap, _, hv, qp, mM, eM, js, by simpa using hlen, by simpa using hj⟩⟩ (fun iW ew => by rw [hv] at ew; simp [Value.ownBlock] at ew; exact .inl (by rw [ew])) (jx.eA oq off ab) (fun q al => by
    unfold eA at al;simp only [kT] at al;rcases al with (h1 | h1) | h1
    ·exact nz q (oN h1)
    ·exact ak q h1
    ·exact nz q (mW h1))
  refine ⟨_, ei, ?_, cu⟩;simp only [execOp, ay, Instr.storeAt, hp, Instr.sureAddr, Sem.run_bind, Sem.run_pure, Result.andThen_ok, jz]
end
end Go.Proofs.YtpochbhajmbfdaaGreat
