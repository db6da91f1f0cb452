/-
  My own texts, without what this claim does not need. My own text.
-/
import Derived.Laws.AppendOwn
import Derived.Laws.MakeOwn
import Derived.Laws.Slices
import Derived.Test.YtpochbhajmbfdaaGreatSRunsK3
set_option maxRecDepth 100000
set_option maxHeartbeats 64000000
set_option linter.unusedVariables false
set_option linter.unusedSimpArgs false
set_option linter.unusedSectionVars false
open Go.Proofs.Tryz renaming prog → aj
namespace Go.Proofs.YtpochbhajmbfdaaGreat
open Go.RowKit
def tI (n : Int) : Bool := decide (-536870912 ≤ n) && decide (n ≤ 536870912)
theorem L2 {n : Int} : tI n = true ↔ -536870912 ≤ n ∧ n ≤ 536870912 := by unfold tI; rw [eo, c0, c0]
def ep (x y : Int) : Bool := tI x && tI y
theorem Qr {x y : Int} : ep x y = true ↔ (-536870912 ≤ x ∧ x ≤ 536870912) ∧ -536870912 ≤ y ∧ y ≤ 536870912 := by unfold ep; rw [eo, L2, L2]
theorem PJ {n : Int} {b : Bool} (ab : tI n = b) : aT aj 273 [aV n] (bD b) := by
 have cs : (-536870912 ≤ n ∧ n ≤ 536870912 ∧ b = true) ∨ (-536870912 ≤ n ∧ ¬ n ≤ 536870912 ∧ b = false) ∨ (¬ -536870912 ≤ n ∧ b = false) := by
  rw [← ab]; unfold tI
  by_cases h1 : -536870912 ≤ n <;> by_cases h2 : n ≤ 536870912 <;> simp [h1, h2]
 clear ab;rcases cs with ⟨h1, h2, rfl⟩ | ⟨h1, h2, rfl⟩ | ⟨h1, rfl⟩
 all_goals
  refine cd (f := 273) Tryz.func273 rfl rfl rfl rfl ?_;(repeat first | (with_reducible apply ax); rfl | (with_reducible apply bW (c := true)); rfl; rfl; (exact bg (by omega)) | (with_reducible apply bW (c := false)); rfl; rfl; (exact bl (by omega)) | (with_reducible first | apply bR | apply bJ | apply bO | apply ay | apply b7))
  ((refine bX rfl (bG rfl bc) ?_))
  first | exact ai.br.refl _ | exact ai.br.of_eq (by rw [bg h2]; rfl) | exact ai.br.of_eq (by rw [bl h2]; rfl)
theorem sP {x y : Int} {b : Bool} (ab : ep x y = b) : aT aj 243 [bh x y] (bD b) := by
 have aM := PJ (n := x) rfl;have bI := PJ (n := y) rfl;unfold ep at ab;cases q1 : tI x <;> cases q2 : tI y <;> rw [q1] at aM <;> rw [q2] at bI <;> rw [q1, q2] at ab <;> subst ab <;> clear q1 q2
 all_goals
  refine cd (f := 243) Tryz.func243 rfl rfl rfl rfl ?_;(repeat first | (with_reducible apply ax); rfl | refine dj rfl rfl rfl (by (first | exact aM | exact bI)) rfl ?_ | (with_reducible first | apply bR | apply bJ | apply bO | apply ay | apply b7))
  ((refine bX rfl (bG rfl bc) ?_))
  exact ai.br.refl _
def ct (o1 o2 a1 a2 b1 b2 : Int) : Int := (a1 - o1) * (b2 - o2) - (a2 - o2) * (b1 - o1)
theorem IB {x y A B : Int} (h1 : -A ≤ x) (h2 : x ≤ A) (aq : -B ≤ y) (aK : y ≤ B) : -(A * B) ≤ x * y ∧ x * y ≤ A * B := by
 have aa : x.natAbs ≤ A.natAbs := by omega
 have ag : y.natAbs ≤ B.natAbs := by omega
 have h := Nat.mul_le_mul aa ag;rw [← Int.natAbs_mul, ← Int.natAbs_mul] at h;have dO : 0 ≤ A * B := jq (by omega) (by omega);omega
theorem OO {x y : Int} (h1 : -1073741824 ≤ x) (h2 : x ≤ 1073741824) (aq : -1073741824 ≤ y) (aK : y ≤ 1073741824) : -1152921504606846976 ≤ x * y ∧ x * y ≤ 1152921504606846976 := by
 have := IB h1 h2 aq aK;omega
theorem PF {o1 o2 a1 a2 b1 b2 : Int} (az : ep o1 o2 = true) (aL : ep a1 a2 = true) (ab : ep b1 b2 = true) : aT aj 218 [bh o1 o2, bh a1 a2, bh b1 b2] (aV (ct o1 o2 a1 a2 b1 b2)) := by
 have bo := sP az;have eT := sP aL;have kl := sP ab;rw [Qr] at az aL ab;have m1 := OO (x := a1 - o1) (y := b2 - o2) (by omega) (by omega) (by omega) (by omega);have m2 := OO (x := a2 - o2) (y := b1 - o1) (by omega) (by omega) (by omega) (by omega);refine cd (f := 218) Tryz.func218 rfl rfl rfl rfl ?_;(repeat first | (with_reducible apply ax); rfl | (with_reducible apply oz); (iterate 3 rfl); (exact cp (by omega)); rfl | (with_reducible apply tn); (iterate 3 rfl); (exact cp (by omega)); rfl | refine dj rfl rfl rfl (by (first | exact bo | exact eT | exact kl)) rfl ?_ | (with_reducible first | apply bR | apply bJ | apply bO | apply ay | apply b7 | apply eU) | (with_reducible apply gU); rfl)
 ((refine bX rfl (bG rfl bc) ?_))
 exact ai.br.refl _
theorem acw {o1 o2 a1 a2 b1 b2 : Int} (h : (ep o1 o2 && ep a1 a2 && ep b1 b2) = false) : aT aj 218 [bh o1 o2, bh a1 a2, bh b1 b2] (aV 0) := by
 have bo := sP (x := o1) (y := o2) rfl;have eT := sP (x := a1) (y := a2) rfl;have kl := sP (x := b1) (y := b2) rfl
 have cs : ep o1 o2 = false ∨ (ep o1 o2 = true ∧ ep a1 a2 = false) ∨ (ep o1 o2 = true ∧ ep a1 a2 = true ∧ ep b1 b2 = false) := by
  generalize ep o1 o2 = p at *;generalize ep a1 a2 = q at *;generalize ep b1 b2 = r at *;cases p <;> cases q <;> cases r <;> simp_all
 clear h;rcases cs with h1 | ⟨h1, h2⟩ | ⟨h1, h2, aq⟩ <;> simp only [*] at bo eT kl
 all_goals
  refine cd (f := 218) Tryz.func218 rfl rfl rfl rfl ?_;(repeat first | (with_reducible apply ax); rfl | refine dj rfl rfl rfl (by (first | exact bo | exact eT | exact kl)) rfl ?_ | (with_reducible first | apply bR | apply bJ | apply bO | apply ay | apply b7 | apply fL) | (with_reducible apply ik); rfl)
  ((refine bX rfl (bG rfl bc) ?_))
  exact ai.br.refl _
def r7 (o1 o2 a1 a2 b1 b2 : Int) : Int := if (ep o1 o2 && ep a1 a2 && ep b1 b2) = true then ct o1 o2 a1 a2 b1 b2 else 0
theorem acv {o1 o2 a1 a2 b1 b2 : Int} : aT aj 218 [bh o1 o2, bh a1 a2, bh b1 b2] (aV (r7 o1 o2 a1 a2 b1 b2)) := by
 unfold r7
 by_cases h : (ep o1 o2 && ep a1 a2 && ep b1 b2) = true
 ·rw [if_pos h];simp only [eo] at h;exact PF h.1.1 h.1.2 h.2
 ·rw [if_neg h];exact acw (by simpa using h)
def rB (n : Int) : Int := if n < 0 then -1 else if 0 < n then 1 else 0
theorem acR {o1 o2 a1 a2 b1 b2 : Int} : aT aj 276 [bh o1 o2, bh a1 a2, bh b1 b2] (aV (rB (r7 o1 o2 a1 a2 b1 b2))) := by
 have aM := acv (o1 := o1) (o2 := o2) (a1 := a1) (a2 := a2) (b1 := b1) (b2 := b2);generalize r7 o1 o2 a1 a2 b1 b2 = c at *;have cs : (c < 0 ∧ rB c = -1) ∨ (¬ c < 0 ∧ 0 < c ∧ rB c = 1) ∨ (¬ c < 0 ∧ ¬ 0 < c ∧ rB c = 0) := by unfold rB; repeat' split <;> omega
 rcases cs with ⟨h1, h⟩ | ⟨h1, h2, h⟩ | ⟨h1, h2, h⟩ <;> rw [h] <;> clear h
 all_goals
  refine cd (f := 276) Tryz.func276 rfl rfl rfl rfl ?_;(repeat first | (with_reducible apply ax); rfl | refine eR rfl rfl rfl rfl rfl (by (exact aM)) rfl ?_ | (with_reducible first | apply bR | apply bJ | apply bO | apply ay | apply b7 | apply eU | apply fL | apply gg | apply lA | apply k4) | (with_reducible apply fZ); rfl; (exact bg (by omega)) | (with_reducible apply gT); rfl; (exact bl (by omega)))
  ((refine bX rfl (bG rfl bc) ?_))
  exact ai.br.refl _
abbrev hR (a b : Int) : Int := if b < a then b else a
abbrev hQ (a b : Int) : Int := if b > a then b else a
theorem acr {a1 a2 b1 b2 : Int} : aT aj 275 [bh a1 a2, bh b1 b2] (jt (hR a1 b1) (hR a2 b2) (hQ a1 b1) (hQ a2 b2)) := by
 refine cd (f := 275) Tryz.func275 rfl rfl rfl rfl ?_;(repeat first | (with_reducible apply ax); rfl | (with_reducible apply gq); (iterate 4 rfl) | (with_reducible apply fX); (iterate 4 rfl) | (with_reducible first | apply bR | apply bJ | apply bO | apply ay | apply b7))
 ((refine bX rfl (fj rfl rfl rfl bc) ?_))
 exact ai.br.refl _
def eY (l1 l2 h1 h2 p1 p2 : Int) : Bool := decide (l1 ≤ p1) && decide (p1 ≤ h1) && decide (l2 ≤ p2) && decide (p2 ≤ h2)
theorem Xq {l1 l2 h1 h2 p1 p2 : Int} : eY l1 l2 h1 h2 p1 p2 = true ↔ l1 ≤ p1 ∧ p1 ≤ h1 ∧ l2 ≤ p2 ∧ p2 ≤ h2 := by unfold eY; simp only [eo, c0, and_assoc]
theorem acC {l1 l2 h1 h2 p1 p2 : Int} {b : Bool} (ab : eY l1 l2 h1 h2 p1 p2 = b) : aT aj 274 [jt l1 l2 h1 h2, bh p1 p2] (bD b) := by
 have cs : (l1 ≤ p1 ∧ p1 ≤ h1 ∧ l2 ≤ p2 ∧ p2 ≤ h2 ∧ b = true) ∨ (l1 ≤ p1 ∧ p1 ≤ h1 ∧ l2 ≤ p2 ∧ ¬ p2 ≤ h2 ∧ b = false) ∨ (l1 ≤ p1 ∧ p1 ≤ h1 ∧ ¬ l2 ≤ p2 ∧ b = false) ∨ (l1 ≤ p1 ∧ ¬ p1 ≤ h1 ∧ b = false) ∨ (¬ l1 ≤ p1 ∧ b = false) := by
  rw [← ab]; unfold eY
  by_cases q1 : l1 ≤ p1 <;> by_cases q2 : p1 ≤ h1 <;> by_cases cj : l2 ≤ p2 <;> by_cases eH : p2 ≤ h2 <;> simp [q1, q2, cj, eH]
 clear ab;rcases cs with ⟨q1, q2, cj, eH, rfl⟩ | ⟨q1, q2, cj, eH, rfl⟩ | ⟨q1, q2, cj, rfl⟩ | ⟨q1, q2, rfl⟩ | ⟨q1, rfl⟩
 all_goals
  refine cd (f := 274) Tryz.func274 rfl rfl rfl rfl ?_;(repeat first | (with_reducible apply ax); rfl | (with_reducible apply bW (c := true)); rfl; rfl; (exact bg (by omega)) | (with_reducible apply bW (c := false)); rfl; rfl; (exact bl (by omega)) | (with_reducible first | apply bR | apply bJ | apply bO | apply ay | apply b7))
  ((refine bX rfl (bG rfl bc) ?_))
  first | exact ai.br.refl _ | exact ai.br.of_eq (by rw [bg eH]; rfl) | exact ai.br.of_eq (by rw [bl eH]; rfl)
def Ef (p1 p2 a1 a2 b1 b2 : Int) : Bool := ep p1 p2 && ep a1 a2 && ep b1 b2 && eY (hR a1 b1) (hR a2 b2) (hQ a1 b1) (hQ a2 b2) p1 p2 && decide (ct a1 a2 b1 b2 p1 p2 = 0)
theorem aeX {n : Int} : rB n = 0 ↔ n = 0 := by unfold rB; repeat' split <;> omega
theorem acL {p1 p2 a1 a2 b1 b2 : Int} {b : Bool} (ab : Ef p1 p2 a1 a2 b1 b2 = b) : aT aj 244 [bh p1 p2, bh a1 a2, bh b1 b2] (bD b) := by
 have bo := sP (x := p1) (y := p2) rfl;have eT := sP (x := a1) (y := a2) rfl;have kl := sP (x := b1) (y := b2) rfl;have H1 := acr (a1 := a1) (a2 := a2) (b1 := b1) (b2 := b2);have cm := acC (l1 := hR a1 b1) (l2 := hR a2 b2) (h1 := hQ a1 b1) (h2 := hQ a2 b2) (p1 := p1) (p2 := p2) rfl;have rX := acR (o1 := a1) (o2 := a2) (a1 := b1) (a2 := b2) (b1 := p1) (b2 := p2);unfold Ef at ab
 have cs : (ep p1 p2 = false ∧ b = false) ∨ (ep p1 p2 = true ∧ ep a1 a2 = false ∧ b = false) ∨ (ep p1 p2 = true ∧ ep a1 a2 = true ∧ ep b1 b2 = false ∧ b = false)
   ∨ (ep p1 p2 = true ∧ ep a1 a2 = true ∧ ep b1 b2 = true ∧ eY (hR a1 b1) (hR a2 b2) (hQ a1 b1) (hQ a2 b2) p1 p2 = false ∧ b = false)
   ∨ (ep p1 p2 = true ∧ ep a1 a2 = true ∧ ep b1 b2 = true ∧ eY (hR a1 b1) (hR a2 b2) (hQ a1 b1) (hQ a2 b2) p1 p2 = true ∧ b = decide (rB (r7 a1 a2 b1 b2 p1 p2) = 0)) := by
  have e : decide (rB (r7 a1 a2 b1 b2 p1 p2) = 0) = decide (r7 a1 a2 b1 b2 p1 p2 = 0) := by rw [sR, c0, c0, aeX]
  rw [e];unfold r7;generalize ct a1 a2 b1 b2 p1 p2 = c at *;generalize ep p1 p2 = dh at *;generalize ep a1 a2 = dE at *;generalize ep b1 b2 = kZ at *;generalize eY _ _ _ _ p1 p2 = nE at *;cases dh <;> cases dE <;> cases kZ <;> cases nE <;> simp_all
 clear ab;generalize eY _ _ _ _ p1 p2 = nE at *;generalize hR a1 b1 = i1 at *;generalize hR a2 b2 = i2 at *;generalize hQ a1 b1 = i3 at *;generalize hQ a2 b2 = i4 at *;generalize rB (r7 a1 a2 b1 b2 p1 p2) = t at *;rcases cs with ⟨h1, rfl⟩ | ⟨h1, h2, rfl⟩ | ⟨h1, h2, aq, rfl⟩ | ⟨h1, h2, aq, rfl, rfl⟩ | ⟨h1, h2, aq, rfl, rfl⟩ <;> simp only [*] at bo eT kl
 all_goals
  refine cd (f := 244) Tryz.func244 rfl rfl rfl rfl ?_;(repeat first | (with_reducible apply ax); rfl | refine dj rfl rfl rfl (by (first | exact bo | exact eT | exact kl)) rfl ?_ | refine cI rfl rfl rfl rfl (by (first | exact H1 | exact cm)) rfl ?_ | refine eR rfl rfl rfl rfl rfl (by (exact rX)) rfl ?_ | (with_reducible apply hH); kernel_rfl | (with_reducible apply hI); kernel_rfl; kernel_rfl; rfl | (with_reducible first | apply bR | apply bJ | apply bO | apply ay | apply b7))
  ((refine bX rfl (bG rfl bc) ?_))
  exact ai.br.refl _
end Go.Proofs.YtpochbhajmbfdaaGreat
namespace Go.Proofs.YtpochbhajmbfdaaGreat
def cH (x y : Int) : Bool := decide (x ≤ 134217728) && decide (y ≤ 134217728) && decide (-134217728 ≤ x) && decide (-134217728 ≤ y)
theorem sX {x y : Int} : cH x y = true ↔ (-134217728 ≤ x ∧ x ≤ 134217728) ∧ -134217728 ≤ y ∧ y ≤ 134217728 := by
  unfold cH;simp only [eo, c0];omega
def dz (a1 a2 b1 b2 : Int) : Prop := a1 < b1 ∨ (a1 = b1 ∧ a2 ≤ b2)
instance (a1 a2 b1 b2 : Int) : Decidable (dz a1 a2 b1 b2) := by unfold dz; exact inferInstance
theorem dz.Jc {a1 a2 : Int} : dz a1 a2 a1 a2 := .inr ⟨rfl, pg _⟩
theorem dz.trans {a1 a2 b1 b2 c1 c2 : Int} (h : dz a1 a2 b1 b2) (k : dz b1 b2 c1 c2) : dz a1 a2 c1 c2 := by unfold dz at *; omega
theorem dz.total (a1 a2 b1 b2 : Int) : dz a1 a2 b1 b2 ∨ dz b1 b2 a1 a2 := by unfold dz; omega
theorem dz.B2 {a1 a2 b1 b2 : Int} (h : dz a1 a2 b1 b2) (k : dz b1 b2 a1 a2) : a1 = b1 ∧ a2 = b2 := by unfold dz at *; omega
def sE (p1 p2 a1 a2 b1 b2 : Int) : Prop := hR a1 b1 ≤ p1 ∧ p1 ≤ hQ a1 b1 ∧ hR a2 b2 ≤ p2 ∧ p2 ≤ hQ a2 b2
theorem K0 {s1 s2 t1 t2 p1 p2 : Int} (j1 : dz s1 s2 t1 t2) (ak : ct s1 s2 t1 t2 p1 p2 = 0) : sE p1 p2 s1 s2 t1 t2 ↔ dz s1 s2 p1 p2 ∧ dz p1 p2 t1 t2 := by
  unfold ct at ak;have qU : (t1 - s1) * (p2 - s2) = (t2 - s2) * (p1 - s1) := by omega
  unfold sE hR hQ dz at *
  by_cases h1 : s1 = t1
  · subst h1
    have e : (t2 - s2) * (p1 - s1) = 0 := by rw [← qU]; simp
    rcases sT.1 e with e | e
    · constructor
      · intro h; split at h <;> (try split at h) <;> (try split at h) <;> (try split at h) <;> omega
      · intro h; split <;> (try split) <;> (try split) <;> (try split) <;> omega
    · constructor
      · intro h; split at h <;> (try split at h) <;> (try split at h) <;> (try split at h) <;> omega
      · intro h; split <;> (try split) <;> (try split) <;> (try split) <;> omega
  · have h2 : s1 < t1 := by omega
    have hd : 0 < t1 - s1 := by omega
    rw [if_neg (show ¬ t1 < s1 by omega), if_pos (show t1 > s1 by omega)]
   
    have key : s1 ≤ p1 → p1 ≤ t1 → (if t2 < s2 then t2 else s2) ≤ p2 ∧ p2 ≤ (if t2 > s2 then t2 else s2) := by
      intro bC cf
      by_cases g : t2 < s2
      · rw [if_pos g, if_neg (by omega)]
        have a1 : (t2 - s2) * (t1 - s1) ≤ (t2 - s2) * (p1 - s1) := Int.mul_le_mul_of_nonpos_left (by omega) (by omega);have a2 : (t2 - s2) * (p1 - s1) ≤ 0 := Int.mul_nonpos_of_nonpos_of_nonneg (by omega) (by omega);rw [← qU] at a1 a2;rw [ka (t2 - s2)] at a1;have b1 := Int.le_of_mul_le_mul_left a1 hd
        have b2 : p2 - s2 ≤ 0 := by
          have : (t1 - s1) * (p2 - s2) ≤ (t1 - s1) * 0 := by omega
          exact Int.le_of_mul_le_mul_left this hd
        omega
      · rw [if_neg g]
        have a1 : (t2 - s2) * (p1 - s1) ≤ (t2 - s2) * (t1 - s1) := rp (by omega) (by omega);have a2 : 0 ≤ (t2 - s2) * (p1 - s1) := jq (by omega) (by omega);rw [← qU] at a1 a2;rw [ka (t2 - s2)] at a1;have b1 := Int.le_of_mul_le_mul_left a1 hd
        have b2 : 0 ≤ p2 - s2 := by
          have : (t1 - s1) * 0 ≤ (t1 - s1) * (p2 - s2) := by omega
          exact Int.le_of_mul_le_mul_left this hd
        split <;> omega
    constructor
    · rintro ⟨bC, cf, h5, jD⟩
      constructor
      · by_cases g : s1 < p1
        · exact .inl g
        · right
          have : p1 = s1 := by omega
          subst this;have : (t1 - p1) * (p2 - s2) = 0 := by rw [qU]; simp
          rcases sT.1 this with e | e <;> omega
      · by_cases g : p1 < t1
        · exact .inl g
        · right
          have : p1 = t1 := by omega
          subst this;rw [ka (t2 - s2)] at qU;have := Int.eq_of_mul_eq_mul_left (show p1 - s1 ≠ 0 by omega) qU;omega
    · rintro ⟨bC, cf⟩
      have H3 : s1 ≤ p1 := by omega
      have H4 : p1 ≤ t1 := by omega
      exact ⟨H3, H4, (key H3 H4).1, (key H3 H4).2⟩
def dx (p1 p2 s1 s2 t1 t2 : Int) : Prop := ct s1 s2 t1 t2 p1 p2 = 0 ∧ sE p1 p2 s1 s2 t1 t2
theorem vS {s1 s2 t1 t2 p1 p2 : Int} (j1 : dz s1 s2 t1 t2) : dx p1 p2 s1 s2 t1 t2 ↔ ct s1 s2 t1 t2 p1 p2 = 0 ∧ dz s1 s2 p1 p2 ∧ dz p1 p2 t1 t2 := by
  unfold dx
  constructor
  · rintro ⟨h, k⟩; exact ⟨h, (K0 j1 h).1 k⟩
  · rintro ⟨h, k⟩; exact ⟨h, (K0 j1 h).2 k⟩
theorem Gg (a1 a2 b1 b2 : Int) : ct a1 a2 b1 b2 a1 a2 = 0 := by unfold ct; grind
theorem Lm (a1 a2 b1 b2 : Int) : ct a1 a2 b1 b2 b1 b2 = 0 := by unfold ct; grind
theorem uz {s1 s2 t1 t2 : Int} (j1 : dz s1 s2 t1 t2) : dx s1 s2 s1 s2 t1 t2 := (vS j1).2 ⟨Gg .., .Jc, j1⟩
theorem uy {s1 s2 t1 t2 : Int} (j1 : dz s1 s2 t1 t2) : dx t1 t2 s1 s2 t1 t2 := (vS j1).2 ⟨Lm .., j1, .Jc⟩
theorem Aq {p1 p2 s1 s2 : Int} (h : dx p1 p2 s1 s2 s1 s2) : p1 = s1 ∧ p2 = s2 := by
  obtain ⟨_, h1, h2⟩ := (vS dz.Jc).1 h;have := dz.B2 h1 h2; omega
def pc (s1 s2 bY b3 t1 t2 t3 t4 : Int) : Int := (bY - s1) * (t4 - t2) - (b3 - s2) * (t3 - t1)
theorem uB {s1 s2 bY b3 t1 t2 t3 t4 p1 p2 c3 ec : Int} (hs : dz s1 s2 bY b3) (aD : dz t1 t2 t3 t4) (hw : pc s1 s2 bY b3 t1 t2 t3 t4 = 0)
    (ps : dx p1 p2 s1 s2 bY b3) (pe : dx p1 p2 t1 t2 t3 t4) (s4 : dx c3 ec s1 s2 bY b3) (hU : dz t1 t2 c3 ec) (ad1 : dz c3 ec t3 t4) : dx c3 ec t1 t2 t3 t4 := by
  by_cases hd : s1 = bY ∧ s2 = b3
  · obtain ⟨rfl, rfl⟩ := hd
    obtain ⟨rfl, rfl⟩ := Aq ps;obtain ⟨rfl, rfl⟩ := Aq s4;exact pe
  · refine (vS aD).2 ⟨?_, hU, ad1⟩
    have a := ps.1;have b := pe.1;have c := s4.1;unfold ct pc at *;have d1 : (bY - s1) * ((t3 - t1) * (ec - t2) - (t4 - t2) * (c3 - t1)) = 0 := by grind
    have d2 : (b3 - s2) * ((t3 - t1) * (ec - t2) - (t4 - t2) * (c3 - t1)) = 0 := by grind
    rcases sT.1 d1 with e | e
    · rcases sT.1 d2 with f | f
      · omega
      · exact f
    · exact e
theorem K1 {x y A B D : Int} (kN : 0 < D) (e : D = A - B) : (hR x y * D ≤ y * A - x * B ∧ y * A - x * B ≤ hQ x y * D) ↔ (x = y ∨ (B ≤ 0 ∧ 0 ≤ A)) := by
  subst e;unfold hR hQ
  by_cases h : x = y
  · subst h
    have : x * (A - B) = x * A - x * B := Int.mul_sub ..;simp [this]
  · have pos : ∀ {u v : Int}, 0 < u → (0 ≤ u * v ↔ 0 ≤ v) := by
      intro u v hu
      constructor
      · intro k
        have k' : u * 0 ≤ u * v := by omega
        exact Int.le_of_mul_le_mul_left k' hu
      · intro k; exact jq (by omega) k
    by_cases g : x < y
    · rw [if_neg (by omega), if_pos (show y > x from g)]
      have hu : 0 < y - x := by omega
      have aG : y * A - x * B - x * (A - B) = (y - x) * A := by grind
      have aO : y * (A - B) - (y * A - x * B) = (y - x) * (-B) := by grind
      have p1 := pos (v := A) hu;have p2 := pos (v := -B) hu;omega
    · rw [if_pos (by omega), if_neg (by omega)]
      have hu : 0 < x - y := by omega
      have aG : x * (A - B) - (y * A - x * B) = (x - y) * A := by grind
      have aO : y * A - x * B - y * (A - B) = (x - y) * (-B) := by grind
      have p1 := pos (v := A) hu;have p2 := pos (v := -B) hu;omega
def k5 (n d a b : Int) : Prop := hR a b * d ≤ n ∧ n ≤ hQ a b * d
theorem Ca {x y u v A B D : Int} (kN : 0 < D) (e : D = A - B) (ck : ¬ (x = y ∧ u = v)) : (k5 (y * A - x * B) D x y ∧ k5 (v * A - u * B) D u v) ↔ (B ≤ 0 ∧ 0 ≤ A) := by
  unfold k5;rw [K1 kN e, K1 kN e];omega
theorem r4 {n d a b : Int} : k5 n d a b ↔ k5 n d b a := by unfold k5 hR hQ; grind
structure fP where
  k : Int
  n : Int
  d : Int
  m : Int
  e : Int
  p1 : Int
  p2 : Int
  q1 : Int
  q2 : Int
def h7 : fP := ⟨0, 0, 0, 0, 0, 0, 0, 0, 0⟩
def jm (n d m e : Int) : fP := ⟨1, n, d, m, e, 0, 0, 0, 0⟩
def tk (p1 p2 q1 q2 : Int) : fP := ⟨2, 0, 0, 0, 0, p1, p2, q1, q2⟩
def jE (n d : Int) : Int := if d < 0 then -n else n
def iK (d : Int) : Int := if d < 0 then -d else d
theorem rb {d : Int} (h : d ≠ 0) (n : Int) : jE (-n) (-d) = jE n d := by unfold jE; split <;> split <;> omega
theorem Ao (d : Int) : iK (-d) = iK d := by unfold iK; split <;> split <;> omega
theorem Pc {d : Int} (h : d ≠ 0) : 0 < iK d := by unfold iK; split <;> omega
def j3 (a1 a2 b1 b2 c1 c2 d1 d2 : Int) : Int := ((b2 - a2) * a1 + (a1 - b1) * a2) * (c1 - d1) - (a1 - b1) * ((d2 - c2) * c1 + (c1 - d1) * c2)
def j4 (a1 a2 b1 b2 c1 c2 d1 d2 : Int) : Int := (b2 - a2) * ((d2 - c2) * c1 + (c1 - d1) * c2) - ((b2 - a2) * a1 + (a1 - b1) * a2) * (d2 - c2)
def db (a1 a2 b1 b2 c1 c2 d1 d2 : Int) : Int := (b2 - a2) * (c1 - d1) - (a1 - b1) * (d2 - c2)
theorem RD (a1 a2 b1 b2 c1 c2 d1 d2 : Int) : db a1 a2 b1 b2 c1 c2 d1 d2 = pc a1 a2 b1 b2 c1 c2 d1 d2 := by unfold db pc; grind
section
variable (a1 a2 b1 b2 c1 c2 d1 d2 : Int)
theorem Fe : db b1 b2 a1 a2 c1 c2 d1 d2 = - db a1 a2 b1 b2 c1 c2 d1 d2 := by unfold db; grind
theorem A7 : db a1 a2 b1 b2 d1 d2 c1 c2 = - db a1 a2 b1 b2 c1 c2 d1 d2 := by unfold db; grind
theorem Ff : db c1 c2 d1 d2 a1 a2 b1 b2 = - db a1 a2 b1 b2 c1 c2 d1 d2 := by unfold db; grind
theorem abq : j3 b1 b2 a1 a2 c1 c2 d1 d2 = - j3 a1 a2 b1 b2 c1 c2 d1 d2 := by unfold j3; grind
theorem abr : j3 a1 a2 b1 b2 d1 d2 c1 c2 = - j3 a1 a2 b1 b2 c1 c2 d1 d2 := by unfold j3; grind
theorem OR : j3 c1 c2 d1 d2 a1 a2 b1 b2 = - j3 a1 a2 b1 b2 c1 c2 d1 d2 := by unfold j3; grind
theorem abt : j4 b1 b2 a1 a2 c1 c2 d1 d2 = - j4 a1 a2 b1 b2 c1 c2 d1 d2 := by unfold j4; grind
theorem abu : j4 a1 a2 b1 b2 d1 d2 c1 c2 = - j4 a1 a2 b1 b2 c1 c2 d1 d2 := by unfold j4; grind
theorem OS : j4 c1 c2 d1 d2 a1 a2 b1 b2 = - j4 a1 a2 b1 b2 c1 c2 d1 d2 := by unfold j4; grind
theorem IF : c1 * ct a1 a2 b1 b2 d1 d2 - d1 * ct a1 a2 b1 b2 c1 c2 = j3 a1 a2 b1 b2 c1 c2 d1 d2 := by unfold j3 ct; grind
theorem IG : c2 * ct a1 a2 b1 b2 d1 d2 - d2 * ct a1 a2 b1 b2 c1 c2 = j4 a1 a2 b1 b2 c1 c2 d1 d2 := by unfold j4 ct; grind
theorem JC : ct a1 a2 b1 b2 d1 d2 - ct a1 a2 b1 b2 c1 c2 = db a1 a2 b1 b2 c1 c2 d1 d2 := by unfold db ct; grind
end
def four (a1 a2 b1 b2 c1 c2 d1 d2 x y d : Int) : Prop := k5 x d a1 b1 ∧ k5 y d a2 b2 ∧ k5 x d c1 d1 ∧ k5 y d c2 d2
instance (n d a b : Int) : Decidable (k5 n d a b) := by unfold k5; exact inferInstance
instance (a1 a2 b1 b2 c1 c2 d1 d2 x y d : Int) : Decidable (four a1 a2 b1 b2 c1 c2 d1 d2 x y d) := by unfold four; exact inferInstance
theorem zU {α : Type} {p q : Prop} [Decidable p] [Decidable q] {a b : α} (h : p ↔ q) : (if p then a else b) = if q then a else b := by grind
def uk (a1 a2 b1 b2 c1 c2 d1 d2 x y d : Int) : fP := if four a1 a2 b1 b2 c1 c2 d1 d2 x y d then jm x d y d else h7
def mT (a1 a2 b1 b2 c1 c2 d1 d2 : Int) : fP :=
  uk a1 a2 b1 b2 c1 c2 d1 d2 (jE (j3 a1 a2 b1 b2 c1 c2 d1 d2) (db a1 a2 b1 b2 c1 c2 d1 d2)) (jE (j4 a1 a2 b1 b2 c1 c2 d1 d2) (db a1 a2 b1 b2 c1 c2 d1 d2)) (iK (db a1 a2 b1 b2 c1 c2 d1 d2))
theorem aa6 {a1 a2 b1 b2 c1 c2 d1 d2 : Int} (h : db a1 a2 b1 b2 c1 c2 d1 d2 ≠ 0) : mT b1 b2 a1 a2 c1 c2 d1 d2 = mT a1 a2 b1 b2 c1 c2 d1 d2 := by
  unfold mT;rw [Fe, abq, abt, rb h, rb h, Ao];unfold uk four;exact zU (by rw [r4 (a := b1), r4 (a := b2)])
theorem aa7 {a1 a2 b1 b2 c1 c2 d1 d2 : Int} (h : db a1 a2 b1 b2 c1 c2 d1 d2 ≠ 0) : mT a1 a2 b1 b2 d1 d2 c1 c2 = mT a1 a2 b1 b2 c1 c2 d1 d2 := by
  unfold mT;rw [A7, abr, abu, rb h, rb h, Ao];unfold uk four;exact zU (by rw [r4 (a := d1), r4 (a := d2)])
theorem aa8 {a1 a2 b1 b2 c1 c2 d1 d2 : Int} (h : db a1 a2 b1 b2 c1 c2 d1 d2 ≠ 0) : mT c1 c2 d1 d2 a1 a2 b1 b2 = mT a1 a2 b1 b2 c1 c2 d1 d2 := by
  unfold mT;rw [Ff, OR, OS, rb h, rb h, Ao];unfold uk four;refine zU ?_
  constructor
  · rintro ⟨h1, h2, aq, aK⟩; exact ⟨aq, aK, h1, h2⟩
  · rintro ⟨h1, h2, aq, aK⟩; exact ⟨aq, aK, h1, h2⟩
def same (m n : Int) : Prop := (0 < m ∧ 0 < n) ∨ (m < 0 ∧ n < 0)
instance (m n : Int) : Decidable (same m n) := by unfold same; exact inferInstance
theorem RC {a1 a2 b1 b2 c1 c2 d1 d2 : Int} (h : db a1 a2 b1 b2 c1 c2 d1 d2 ≠ 0) : ¬ (a1 = b1 ∧ a2 = b2) ∧ ¬ (c1 = d1 ∧ c2 = d2) := by (try (unfold db at *)); grind
theorem Rc {a1 a2 b1 b2 c1 c2 d1 d2 : Int} (h : db a1 a2 b1 b2 c1 c2 d1 d2 ≠ 0) :
    (k5 (jE (j3 a1 a2 b1 b2 c1 c2 d1 d2) (db a1 a2 b1 b2 c1 c2 d1 d2)) (iK (db a1 a2 b1 b2 c1 c2 d1 d2)) c1 d1 ∧ k5 (jE (j4 a1 a2 b1 b2 c1 c2 d1 d2) (db a1 a2 b1 b2 c1 c2 d1 d2)) (iK (db a1 a2 b1 b2 c1 c2 d1 d2)) c2 d2) ↔ ¬ same (ct a1 a2 b1 b2 c1 c2) (ct a1 a2 b1 b2 d1 d2) := by
  have ck := (RC h).2;have aG := IF a1 a2 b1 b2 c1 c2 d1 d2;have aO := IG a1 a2 b1 b2 c1 c2 d1 d2;have cz := JC a1 a2 b1 b2 c1 c2 d1 d2;generalize j3 a1 a2 b1 b2 c1 c2 d1 d2 = X at *;generalize j4 a1 a2 b1 b2 c1 c2 d1 d2 = Y at *;generalize db a1 a2 b1 b2 c1 c2 d1 d2 = w at *;generalize ct a1 a2 b1 b2 c1 c2 = C at *;generalize ct a1 a2 b1 b2 d1 d2 = D at *;unfold jE iK same
  by_cases g : w < 0
  · rw [if_pos g, if_pos g, if_pos g, r4 (a := c1), r4 (a := c2)]
    have a6 := Ca (x := d1) (y := c1) (u := d2) (v := c2) (A := -D) (B := -C) (D := -w) (by omega) (by omega) (by omega);have f1 : c1 * -D - d1 * -C = -X := by rw [← aG]; simp only [Int.mul_neg]; omega
    have f2 : c2 * -D - d2 * -C = -Y := by rw [← aO]; simp only [Int.mul_neg]; omega
    rw [f1, f2] at a6;rw [a6]; omega
  · rw [if_neg g, if_neg g, if_neg g, r4 (a := c1), r4 (a := c2)]
    have a6 := Ca (x := d1) (y := c1) (u := d2) (v := c2) (A := D) (B := C) (D := w) (by omega) (by omega) (by omega);rw [aG, aO] at a6;rw [a6]; omega
theorem ae5 {a1 a2 b1 b2 c1 c2 d1 d2 : Int} (h : db a1 a2 b1 b2 c1 c2 d1 d2 ≠ 0) :
    (k5 (jE (j3 a1 a2 b1 b2 c1 c2 d1 d2) (db a1 a2 b1 b2 c1 c2 d1 d2)) (iK (db a1 a2 b1 b2 c1 c2 d1 d2)) a1 b1 ∧ k5 (jE (j4 a1 a2 b1 b2 c1 c2 d1 d2) (db a1 a2 b1 b2 c1 c2 d1 d2)) (iK (db a1 a2 b1 b2 c1 c2 d1 d2)) a2 b2) ↔ ¬ same (ct c1 c2 d1 d2 a1 a2) (ct c1 c2 d1 d2 b1 b2) := by
  have aF : db c1 c2 d1 d2 a1 a2 b1 b2 ≠ 0 := by rw [Ff]; omega
  have := Rc aF;rw [OR, OS, Ff, rb h, rb h, Ao] at this;exact this
theorem WH {a1 a2 b1 b2 c1 c2 d1 d2 : Int} (h : db a1 a2 b1 b2 c1 c2 d1 d2 ≠ 0) :
    four a1 a2 b1 b2 c1 c2 d1 d2 (jE (j3 a1 a2 b1 b2 c1 c2 d1 d2) (db a1 a2 b1 b2 c1 c2 d1 d2)) (jE (j4 a1 a2 b1 b2 c1 c2 d1 d2) (db a1 a2 b1 b2 c1 c2 d1 d2)) (iK (db a1 a2 b1 b2 c1 c2 d1 d2)) ↔ ¬ (same (ct a1 a2 b1 b2 c1 c2) (ct a1 a2 b1 b2 d1 d2) ∨ same (ct c1 c2 d1 d2 a1 a2) (ct c1 c2 d1 d2 b1 b2)) := by
  unfold four;have p := Rc h;have q := ae5 h
  constructor
  · rintro ⟨h1, h2, aq, aK⟩ (g | g)
    · exact p.1 ⟨aq, aK⟩ g
    · exact q.1 ⟨h1, h2⟩ g
  · intro g
    obtain ⟨aq, aK⟩ := p.2 fun k => g (.inl k);obtain ⟨h1, h2⟩ := q.2 fun k => g (.inr k);exact ⟨h1, h2, aq, aK⟩
def eS (a1 a2 b1 b2 : Int) : Int := if dz a1 a2 b1 b2 then a1 else b1
def ey (a1 a2 b1 b2 : Int) : Int := if dz a1 a2 b1 b2 then a2 else b2
def eD (a1 a2 b1 b2 : Int) : Int := if dz a1 a2 b1 b2 then b1 else a1
def ea (a1 a2 b1 b2 : Int) : Int := if dz a1 a2 b1 b2 then b2 else a2
theorem nw (a1 a2 b1 b2 : Int) : (eS a1 a2 b1 b2 = a1 ∧ ey a1 a2 b1 b2 = a2 ∧ eD a1 a2 b1 b2 = b1 ∧ ea a1 a2 b1 b2 = b2 ∧ dz a1 a2 b1 b2) ∨ (eS a1 a2 b1 b2 = b1 ∧ ey a1 a2 b1 b2 = b2 ∧ eD a1 a2 b1 b2 = a1 ∧ ea a1 a2 b1 b2 = a2 ∧ dz b1 b2 a1 a2) := by
  unfold eS ey eD ea
  by_cases h : dz a1 a2 b1 b2
  · simp [h]
  · simp [h, (dz.total a1 a2 b1 b2).resolve_left h]
theorem xy (a1 a2 b1 b2 : Int) : dz (eS a1 a2 b1 b2) (ey a1 a2 b1 b2) (eD a1 a2 b1 b2) (ea a1 a2 b1 b2) := by
  rcases nw a1 a2 b1 b2 with ⟨h1, h2, aq, aK, h⟩ | ⟨h1, h2, aq, aK, h⟩ <;> rw [h1, h2, aq, aK] <;> exact h
theorem Oe (a1 a2 b1 b2 : Int) : eS b1 b2 a1 a2 = eS a1 a2 b1 b2 ∧ ey b1 b2 a1 a2 = ey a1 a2 b1 b2 ∧ eD b1 b2 a1 a2 = eD a1 a2 b1 b2 ∧ ea b1 b2 a1 a2 = ea a1 a2 b1 b2 := by
  rcases nw a1 a2 b1 b2 with ⟨h1, h2, aq, aK, h⟩ | ⟨h1, h2, aq, aK, h⟩ <;> rcases nw b1 b2 a1 a2 with ⟨bC, cf, h5, jD, k⟩ | ⟨bC, cf, h5, jD, k⟩ <;> rw [h1, h2, aq, aK, bC, cf, h5, jD] <;> (try have := dz.B2 h k) <;> simp_all
theorem Ap {p1 p2 a1 a2 b1 b2 : Int} : dx p1 p2 b1 b2 a1 a2 ↔ dx p1 p2 a1 a2 b1 b2 := by unfold dx sE ct hR hQ; grind
instance (p1 p2 a1 a2 b1 b2 : Int) : Decidable (sE p1 p2 a1 a2 b1 b2) := by unfold sE; exact inferInstance
instance (p1 p2 a1 a2 b1 b2 : Int) : Decidable (dx p1 p2 a1 a2 b1 b2) := by unfold dx; exact inferInstance
theorem Ar {p1 p2 a1 a2 b1 b2 : Int} : dx p1 p2 (eS a1 a2 b1 b2) (ey a1 a2 b1 b2) (eD a1 a2 b1 b2) (ea a1 a2 b1 b2) ↔ dx p1 p2 a1 a2 b1 b2 := by
  rcases nw a1 a2 b1 b2 with ⟨h1, h2, aq, aK, h⟩ | ⟨h1, h2, aq, aK, h⟩ <;> rw [h1, h2, aq, aK];exact Ap
theorem adv {s1 s2 bY b3 t1 t2 t3 t4 : Int} : pc t1 t2 t3 t4 s1 s2 bY b3 = - pc s1 s2 bY b3 t1 t2 t3 t4 := by unfold pc; grind
theorem Of {s1 s2 bY b3 t1 t2 t3 t4 p1 p2 : Int} (hs : dz s1 s2 bY b3) (aD : dz t1 t2 t3 t4) (hw : pc s1 s2 bY b3 t1 t2 t3 t4 = 0) (ps : dx p1 p2 s1 s2 bY b3) (pe : dx p1 p2 t1 t2 t3 t4) :
    dx (eD s1 s2 t1 t2) (ea s1 s2 t1 t2) s1 s2 bY b3 ∧ dx (eD s1 s2 t1 t2) (ea s1 s2 t1 t2) t1 t2 t3 t4 ∧ dx (eS bY b3 t3 t4) (ey bY b3 t3 t4) s1 s2 bY b3 ∧ dx (eS bY b3 t3 t4) (ey bY b3 t3 t4) t1 t2 t3 t4
    ∧ dz (eD s1 s2 t1 t2) (ea s1 s2 t1 t2) p1 p2 ∧ dz p1 p2 (eS bY b3 t3 t4) (ey bY b3 t3 t4) := by
  obtain ⟨_, eP, xX⟩ := (vS hs).1 ps;obtain ⟨_, t0, t9⟩ := (vS aD).1 pe;have oS : pc t1 t2 t3 t4 s1 s2 bY b3 = 0 := by rw [adv]; omega
  rcases nw s1 s2 t1 t2 with ⟨_, _, aq, aK, h⟩ | ⟨_, _, aq, aK, h⟩ <;> rcases nw bY b3 t3 t4 with ⟨bC, cf, _, _, k⟩ | ⟨bC, cf, _, _, k⟩ <;> rw [aq, aK, bC, cf]
  · exact ⟨uB aD hs oS pe ps (uz aD) h (t0.trans xX), uz aD, uy hs, uB hs aD hw ps pe (uy hs) (t0.trans xX) k, t0, xX⟩
  · exact ⟨uB aD hs oS pe ps (uz aD) h (t0.trans xX), uz aD, uB aD hs oS pe ps (uy aD) (eP.trans t9) k, uy aD, t0, t9⟩
  · exact ⟨uz hs, uB hs aD hw ps pe (uz hs) h (eP.trans t9), uy hs, uB hs aD hw ps pe (uy hs) (t0.trans xX) k, eP, xX⟩
  · exact ⟨uz hs, uB hs aD hw ps pe (uz hs) h (eP.trans t9), uB aD hs oS pe ps (uy aD) (eP.trans t9) k, uy aD, eP, t9⟩
def vG (f1 f2 g1 g2 : Int) : fP := if f1 = g1 ∧ f2 = g2 then jm f1 1 f2 1 else tk f1 f2 g1 g2
def inl (s1 s2 bY b3 t1 t2 t3 t4 : Int) : fP :=
  if dx (eD s1 s2 t1 t2) (ea s1 s2 t1 t2) s1 s2 bY b3 ∧ dx (eD s1 s2 t1 t2) (ea s1 s2 t1 t2) t1 t2 t3 t4 then vG (eD s1 s2 t1 t2) (ea s1 s2 t1 t2) (eS bY b3 t3 t4) (ey bY b3 t3 t4) else h7
def vH (a1 a2 b1 b2 c1 c2 d1 d2 : Int) : fP := inl (eS a1 a2 b1 b2) (ey a1 a2 b1 b2) (eD a1 a2 b1 b2) (ea a1 a2 b1 b2) (eS c1 c2 d1 d2) (ey c1 c2 d1 d2) (eD c1 c2 d1 d2) (ea c1 c2 d1 d2)
def iv (a1 a2 b1 b2 c1 c2 d1 d2 : Int) : fP := if db a1 a2 b1 b2 c1 c2 d1 d2 = 0 then vH a1 a2 b1 b2 c1 c2 d1 d2 else mT a1 a2 b1 b2 c1 c2 d1 d2
theorem Oy (a1 a2 b1 b2 c1 c2 d1 d2 : Int) : iv b1 b2 a1 a2 c1 c2 d1 d2 = iv a1 a2 b1 b2 c1 c2 d1 d2 := by
  unfold iv;obtain ⟨h1, h2, aq, aK⟩ := Oe a1 a2 b1 b2
  by_cases h : db a1 a2 b1 b2 c1 c2 d1 d2 = 0
  · rw [if_pos (by rw [Fe]; omega), if_pos h]; unfold vH; rw [h1, h2, aq, aK]
  · rw [if_neg (by rw [Fe]; omega), if_neg h, aa6 h]
theorem Oz (a1 a2 b1 b2 c1 c2 d1 d2 : Int) : iv a1 a2 b1 b2 d1 d2 c1 c2 = iv a1 a2 b1 b2 c1 c2 d1 d2 := by
  unfold iv;obtain ⟨h1, h2, aq, aK⟩ := Oe c1 c2 d1 d2
  by_cases h : db a1 a2 b1 b2 c1 c2 d1 d2 = 0
  · rw [if_pos (by rw [A7]; omega), if_pos h]; unfold vH; rw [h1, h2, aq, aK]
  · rw [if_neg (by rw [A7]; omega), if_neg h, aa7 h]
theorem aba (a1 a2 b1 b2 c1 c2 d1 d2 : Int) : iv (eS a1 a2 b1 b2) (ey a1 a2 b1 b2) (eD a1 a2 b1 b2) (ea a1 a2 b1 b2) (eS c1 c2 d1 d2) (ey c1 c2 d1 d2) (eD c1 c2 d1 d2) (ea c1 c2 d1 d2) = iv a1 a2 b1 b2 c1 c2 d1 d2 := by
  rcases nw a1 a2 b1 b2 with ⟨h1, h2, aq, aK, _⟩ | ⟨h1, h2, aq, aK, _⟩ <;> rcases nw c1 c2 d1 d2 with ⟨bC, cf, h5, jD, _⟩ | ⟨bC, cf, h5, jD, _⟩ <;> rw [h1, h2, aq, aK, bC, cf, h5, jD]
  · rw [Oz]
  · rw [Oy]
  · rw [Oy, Oz]
def Iq (s1 s2 bY b3 t1 t2 t3 t4 A B C D : Int) : fP :=
  if A = B then inl s1 s2 bY b3 t1 t2 t3 t4
  else if same A B ∨ same C D then h7
  else jm (jE (t3 * A - t1 * B) (A - B)) (iK (A - B)) (jE (t4 * A - t2 * B) (A - B)) (iK (A - B))
theorem Oq {s1 s2 bY b3 : Int} (h : dz s1 s2 bY b3) : eS s1 s2 bY b3 = s1 ∧ ey s1 s2 bY b3 = s2 ∧ eD s1 s2 bY b3 = bY ∧ ea s1 s2 bY b3 = b3 := by
  unfold eS ey eD ea; simp [h]
theorem aa9 {s1 s2 bY b3 t1 t2 t3 t4 : Int} (hs : dz s1 s2 bY b3) (aD : dz t1 t2 t3 t4) :
    Iq s1 s2 bY b3 t1 t2 t3 t4 (ct s1 s2 bY b3 t1 t2) (ct s1 s2 bY b3 t3 t4) (ct t1 t2 t3 t4 s1 s2) (ct t1 t2 t3 t4 bY b3) = iv s1 s2 bY b3 t1 t2 t3 t4 := by
  have aG := IF s1 s2 bY b3 t1 t2 t3 t4;have aO := IG s1 s2 bY b3 t1 t2 t3 t4;have cz := JC s1 s2 bY b3 t1 t2 t3 t4;unfold Iq iv
  by_cases h : db s1 s2 bY b3 t1 t2 t3 t4 = 0
  · rw [if_pos (by omega), if_pos h]
    unfold vH;obtain ⟨h1, h2, aq, aK⟩ := Oq hs;obtain ⟨bC, cf, h5, jD⟩ := Oq aD;rw [h1, h2, aq, aK, bC, cf, h5, jD]
  · rw [if_neg (by omega), if_neg h]
    have f := WH h;have g1 : t3 * ct s1 s2 bY b3 t1 t2 - t1 * ct s1 s2 bY b3 t3 t4 = - j3 s1 s2 bY b3 t1 t2 t3 t4 := by omega
    have g2 : t4 * ct s1 s2 bY b3 t1 t2 - t2 * ct s1 s2 bY b3 t3 t4 = - j4 s1 s2 bY b3 t1 t2 t3 t4 := by omega
    have g3 : ct s1 s2 bY b3 t1 t2 - ct s1 s2 bY b3 t3 t4 = - db s1 s2 bY b3 t1 t2 t3 t4 := by omega
    rw [g1, g2, g3, rb h, rb h, Ao];unfold mT uk
    by_cases q : same (ct s1 s2 bY b3 t1 t2) (ct s1 s2 bY b3 t3 t4) ∨ same (ct t1 t2 t3 t4 s1 s2) (ct t1 t2 t3 t4 bY b3)
    · rw [if_pos q, if_neg fun k => f.1 k q]
    · rw [if_neg q, if_pos (f.2 q)]
structure hY where
 n : Int
 d : Int
 own : Bool
structure Pa where
 f : hY
 t : hY
def hJ (x y : hY) : Int := gb (x.n * y.d) (y.n * x.d)
def q6 (x y : hY) : hY := if 0 < hJ x y ∨ (hJ x y = 0 ∧ y.own = true) then x else y
def qN (x y : hY) : hY := if hJ x y < 0 ∨ (hJ x y = 0 ∧ y.own = true) then x else y
def n6 (p : Pa) (u v : Int) (own : Bool) : Pa :=
 if 0 < v - u then ⟨q6 p.f ⟨-u, v - u, own⟩, p.t⟩
 else if v - u < 0 then ⟨p.f, qN p.t ⟨u, -(v - u), own⟩⟩
 else if u < 0 ∨ (u = 0 ∧ own = false) then ⟨⟨1, 1, false⟩, ⟨0, 1, false⟩⟩ else p
def wJ (p : Pa) : Bool := decide (hJ p.f p.t < 0) || (decide (hJ p.f p.t = 0) && p.f.own && p.t.own)
def u5 : Pa := ⟨⟨0, 1, true⟩, ⟨1, 1, true⟩⟩
theorem Zq (x y : Int) : gb x y < 0 ↔ x < y := by unfold gb; split <;> (try split) <;> omega
theorem Zp (x y : Int) : 0 < gb x y ↔ y < x := by unfold gb; split <;> (try split) <;> omega
theorem Zo (x y : Int) : gb x y = 0 ↔ x = y := by unfold gb; split <;> (try split) <;> omega
def qu (x : hY) (n d : Int) : Prop := x.n * d < n * x.d ∨ (x.own = true ∧ x.n * d = n * x.d)
def qx (y : hY) (n d : Int) : Prop := n * y.d < y.n * d ∨ (y.own = true ∧ n * y.d = y.n * d)
def pv (p : Pa) (n d : Int) : Prop := qu p.f n d ∧ qx p.t n d
theorem o5 {a b c : Int} (h : a < b) (ak : 0 < c) : a * c < b * c := Int.mul_lt_mul_of_pos_right h ak
theorem lt_mul {a b c : Int} (h : a * c < b * c) (ak : 0 < c) : a < b := Int.lt_of_mul_lt_mul_right h (by omega)
theorem eq_mul {a b c : Int} (h : a * c = b * c) (ak : 0 < c) : a = b := Int.eq_of_mul_eq_mul_right (by omega) h
theorem vk {a b c d e f : Int} (ab : 0 < b) (hd : 0 < d) (au : 0 < f) (h : a * d < c * b) (k : c * f < e * d) : a * f < e * b := by
 have h1 := o5 h au;have h2 := o5 k ab;refine lt_mul (c := d) ?_ hd;have aG : a * d * f = a * f * d := by grind
 have aO : c * b * f = c * f * b := by grind
 have cz : e * d * b = e * b * d := by grind
 omega
theorem w4 {a b c d e f : Int} (ab : 0 < b) (hd : 0 < d) (au : 0 < f) (h : a * d = c * b) (k : c * f < e * d) : a * f < e * b := by
 have h2 := o5 k ab;refine lt_mul (c := d) ?_ hd;have aG : a * d * f = a * f * d := by grind
 have aO : c * b * f = c * f * b := by grind
 have cz : e * d * b = e * b * d := by grind
 have h1 : a * d * f = c * b * f := by rw [h]
 omega
theorem w5 {a b c d e f : Int} (ab : 0 < b) (hd : 0 < d) (au : 0 < f) (h : a * d < c * b) (k : c * f = e * d) : a * f < e * b := by
 have h1 := o5 h au;refine lt_mul (c := d) ?_ hd;have aG : a * d * f = a * f * d := by grind
 have aO : c * b * f = c * f * b := by grind
 have cz : e * d * b = e * b * d := by grind
 have h2 : c * f * b = e * d * b := by rw [k]
 omega
theorem GD {a b c d e f : Int} (ab : 0 < b) (hd : 0 < d) (au : 0 < f) (h : a * d = c * b) (k : c * f = e * d) : a * f = e * b := by
 refine eq_mul (c := d) ?_ hd;have aG : a * d * f = a * f * d := by grind
 have aO : c * b * f = c * f * b := by grind
 have cz : e * d * b = e * b * d := by grind
 have h1 : a * d * f = c * b * f := by rw [h]
 have h2 : c * f * b = e * d * b := by rw [k]
 omega
theorem Cl (x y : hY) : (x.n * y.d < y.n * x.d ∧ hJ x y < 0) ∨ (x.n * y.d = y.n * x.d ∧ hJ x y = 0) ∨ (y.n * x.d < x.n * y.d ∧ 0 < hJ x y) := by
 have h1 := Zq (x.n * y.d) (y.n * x.d);have h2 := Zp (x.n * y.d) (y.n * x.d);have aq := Zo (x.n * y.d) (y.n * x.d);unfold hJ;omega
theorem N9 (x y : hY) : (q6 x y = x ∧ (0 < hJ x y ∨ (hJ x y = 0 ∧ y.own = true))) ∨ (q6 x y = y ∧ ¬ (0 < hJ x y ∨ (hJ x y = 0 ∧ y.own = true))) := by unfold q6; grind
theorem LI (x y : hY) : (qN x y = x ∧ (hJ x y < 0 ∨ (hJ x y = 0 ∧ y.own = true))) ∨ (qN x y = y ∧ ¬ (hJ x y < 0 ∨ (hJ x y = 0 ∧ y.own = true))) := by unfold qN; grind
theorem Tw {x y : hY} {n d : Int} (aa : 0 < x.d) (ag : 0 < y.d) (hd : 0 < d) : qu (q6 x y) n d ↔ qu x n d ∧ qu y n d := by
 unfold qu;rcases N9 x y with ⟨e, h⟩ | ⟨e, h⟩ <;> rw [e] <;> rcases Cl x y with ⟨t, c⟩ | ⟨t, c⟩ | ⟨t, c⟩
 ·omega
 ·have az : y.own = true := by rcases h with h | ⟨_, h⟩ <;> first | exact h | (exfalso; omega)
  refine ⟨fun k => ⟨k, ?_⟩, fun k => k.1⟩;rcases k with k | ⟨_, k⟩
  ·exact .inl (w4 ag aa hd t.symm k)
  ·exact .inr ⟨az, GD ag aa hd t.symm k⟩
 ·refine ⟨fun k => ⟨k, ?_⟩, fun k => k.1⟩;rcases k with k | ⟨_, k⟩
  ·exact .inl (vk ag aa hd t k)
  ·exact .inl (w5 ag aa hd t k)
 ·refine ⟨fun k => ⟨?_, k⟩, fun k => k.2⟩;rcases k with k | ⟨_, k⟩
  ·exact .inl (vk aa ag hd t k)
  ·exact .inl (w5 aa ag hd t k)
 ·refine ⟨fun k => ⟨?_, k⟩, fun k => k.2⟩;have az : ¬ y.own = true := fun q => h (.inr ⟨c, q⟩);rcases k with k | ⟨q, k⟩
  ·exact .inl (w4 aa ag hd t k)
  ·exact absurd q az
 ·omega
theorem Us {x y : hY} {n d : Int} (aa : 0 < x.d) (ag : 0 < y.d) (hd : 0 < d) : qx (qN x y) n d ↔ qx x n d ∧ qx y n d := by
 unfold qx;rcases LI x y with ⟨e, h⟩ | ⟨e, h⟩ <;> rw [e] <;> rcases Cl x y with ⟨t, c⟩ | ⟨t, c⟩ | ⟨t, c⟩
 ·refine ⟨fun k => ⟨k, ?_⟩, fun k => k.1⟩;rcases k with k | ⟨_, k⟩
  ·exact .inl (vk hd aa ag k t)
  ·exact .inl (w4 hd aa ag k t)
 ·have az : y.own = true := by rcases h with h | ⟨_, h⟩ <;> first | exact h | (exfalso; omega)
  refine ⟨fun k => ⟨k, ?_⟩, fun k => k.1⟩;rcases k with k | ⟨_, k⟩
  ·exact .inl (w5 hd aa ag k t)
  ·exact .inr ⟨az, GD hd aa ag k t⟩
 ·omega
 ·omega
 ·refine ⟨fun k => ⟨?_, k⟩, fun k => k.2⟩;have az : ¬ y.own = true := fun q => h (.inr ⟨c, q⟩);rcases k with k | ⟨q, k⟩
  ·exact .inl (w5 hd ag aa k t.symm)
  ·exact absurd q az
 ·refine ⟨fun k => ⟨?_, k⟩, fun k => k.2⟩;rcases k with k | ⟨_, k⟩
  ·exact .inl (vk hd ag aa k t)
  ·exact .inl (w4 hd ag aa k t)
def jN (u v : Int) (own : Bool) (n d : Int) : Prop := 0 < u * (d - n) + v * n ∨ (own = true ∧ u * (d - n) + v * n = 0)
theorem DH {p : Pa} {u v n d : Int} {own : Bool} (au : 0 < p.f.d) (aD : 0 < p.t.d) (hd : 0 < d) : pv (n6 p u v own) n d ↔ pv p n d ∧ jN u v own n d := by
 have dn : u * (d - n) + v * n = (v - u) * n + u * d := by grind
 unfold n6
 by_cases h1 : 0 < v - u
 ·rw [if_pos h1];unfold pv;rw [Tw au h1 hd]
  have : qu ⟨-u, v - u, own⟩ n d ↔ jN u v own n d := by
   unfold qu jN;simp only;have aG : -u * d = -(u * d) := by grind
   have aO : n * (v - u) = (v - u) * n := by grind
   rw [dn, aG, aO]
   constructor
   ·rintro (k | ⟨k, l⟩)
    ·exact .inl (by omega)
    ·exact .inr ⟨k, by omega⟩
   ·rintro (k | ⟨k, l⟩)
    ·exact .inl (by omega)
    ·exact .inr ⟨k, by omega⟩
  rw [this]
  constructor
  ·rintro ⟨⟨a, b⟩, c⟩; exact ⟨⟨a, c⟩, b⟩
  ·rintro ⟨⟨a, c⟩, b⟩; exact ⟨⟨a, b⟩, c⟩
 ·rw [if_neg h1]
  by_cases h2 : v - u < 0
  ·rw [if_pos h2];unfold pv;have al : (0 : Int) < -(v - u) := by omega
   rw [Us aD al hd]
   have : qx ⟨u, -(v - u), own⟩ n d ↔ jN u v own n d := by
    unfold qx jN;simp only;have aO : n * -(v - u) = -((v - u) * n) := by grind
    rw [dn, aO]
    constructor
    ·rintro (k | ⟨k, l⟩)
     ·exact .inl (by omega)
     ·exact .inr ⟨k, by omega⟩
    ·rintro (k | ⟨k, l⟩)
     ·exact .inl (by omega)
     ·exact .inr ⟨k, by omega⟩
   rw [this]
   constructor
   ·rintro ⟨a, b, c⟩; exact ⟨⟨a, b⟩, c⟩
   ·rintro ⟨⟨a, b⟩, c⟩; exact ⟨a, b, c⟩
  ·rw [if_neg h2];have cz : v - u = 0 := by omega
   have eX : u * (d - n) + v * n = u * d := by rw [dn, cz]; omega
   by_cases aq : u < 0 ∨ (u = 0 ∧ own = false)
   ·rw [if_pos aq]
    have jX : ¬ jN u v own n d := by
     unfold jN;rw [eX];rcases aq with aq | ⟨rfl, rfl⟩
     ·have := o5 aq hd;omega
     ·simp
    refine ⟨fun k => absurd k ?_, fun k => absurd k.2 jX⟩;unfold pv qu qx;simp;omega
   ·rw [if_neg aq]
    have Zk : jN u v own n d := by
     unfold jN;rw [eX]
     by_cases aK : u = 0
     ·subst aK;right;refine ⟨?_, by simp⟩;cases own with
      | true => rfl
      | false => exact absurd (.inr ⟨rfl, rfl⟩) aq
     ·left;have : 0 < u := by omega
      have := o5 this hd;omega
    exact ⟨fun k => ⟨k, Zk⟩, fun k => k.1⟩
theorem aas {x y : hY} (aa : 0 < x.d) (ag : 0 < y.d) : 0 < (q6 x y).d := by unfold q6; split <;> assumption
theorem VX {x y : hY} (aa : 0 < x.d) (ag : 0 < y.d) : 0 < (qN x y).d := by unfold qN; split <;> assumption
theorem vL {p : Pa} {u v : Int} {own : Bool} (au : 0 < p.f.d) (aD : 0 < p.t.d) : 0 < (n6 p u v own).f.d ∧ 0 < (n6 p u v own).t.d := by
 unfold n6
 by_cases h1 : 0 < v - u
 ·rw [if_pos h1]; exact ⟨aas au h1, aD⟩
 ·rw [if_neg h1]
  by_cases h2 : v - u < 0
  ·rw [if_pos h2]; exact ⟨au, VX aD (by simp only; omega)⟩
  ·rw [if_neg h2]
   split
   ·exact ⟨by decide, by decide⟩
   ·exact ⟨au, aD⟩
def OH (x y : hY) : Int := x.n * y.d + y.n * x.d
def Ir (x y : hY) : Int := x.d * y.d + x.d * y.d
theorem abf {p : Pa} (au : 0 < p.f.d) (aD : 0 < p.t.d) (h : p.f.n * p.t.d < p.t.n * p.f.d) : 0 < Ir p.f p.t ∧ pv p (OH p.f p.t) (Ir p.f p.t) := by
 unfold OH Ir pv qu qx;have hm : 0 < p.f.d * p.t.d := Int.mul_pos au aD;refine ⟨by omega, .inl ?_, .inl ?_⟩
 ·have := o5 h au;grind
 ·have := o5 h aD;grind
theorem Ue {p : Pa} (au : 0 < p.f.d) (aD : 0 < p.t.d) : wJ p = true ↔ ∃ n d, 0 < d ∧ pv p n d := by
 unfold wJ;simp only [rl, eo, c0]
 constructor
 ·intro h;rcases Cl p.f p.t with ⟨t, c⟩ | ⟨t, c⟩ | ⟨t, c⟩
  ·obtain ⟨h1, h2⟩ := abf au aD t;exact ⟨_, _, h1, h2⟩
  ·rcases h with h | ⟨⟨_, h1⟩, h2⟩
   ·omega
   ·exact ⟨p.f.n, p.f.d, au, .inr ⟨h1, rfl⟩, .inr ⟨h2, t⟩⟩
  ·rcases h with h | ⟨⟨h, _⟩, _⟩ <;> omega
 ·rintro ⟨n, d, hd, h1, h2⟩;rcases Cl p.f p.t with ⟨t, c⟩ | ⟨t, c⟩ | ⟨t, c⟩
  ·exact .inl c
  ·right;refine ⟨⟨c, ?_⟩, ?_⟩
   ·rcases h1 with h1 | ⟨h1, _⟩
    ·exfalso;rcases h2 with h2 | ⟨_, h2⟩
     ·have := vk au hd aD h1 h2; omega
     ·have := w5 au hd aD h1 h2; omega
    ·exact h1
   ·rcases h2 with h2 | ⟨h2, _⟩
    ·exfalso;rcases h1 with h1 | ⟨_, h1⟩
     ·have := vk au hd aD h1 h2; omega
     ·have := w4 au hd aD h1 h2; omega
    ·exact h2
  ·exfalso;rcases h1 with h1 | ⟨_, h1⟩ <;> rcases h2 with h2 | ⟨_, h2⟩
   ·have := vk au hd aD h1 h2; omega
   ·have := w5 au hd aD h1 h2; omega
   ·have := w4 au hd aD h1 h2; omega
   ·have := GD au hd aD h1 h2; omega
def tz (cP v1 cw v2 ig v3 jL v4 : Int) (o p : Bool) : Pa := n6 (n6 (n6 (n6 u5 cP v1 o) cw v2 o) ig v3 p) jL v4 p
theorem Vf (cP v1 cw v2 ig v3 jL v4 : Int) (o p : Bool) : 0 < (tz cP v1 cw v2 ig v3 jL v4 o p).f.d ∧ 0 < (tz cP v1 cw v2 ig v3 jL v4 o p).t.d := by
 unfold tz;have h1 := vL (p := u5) (u := cP) (v := v1) (own := o) (by decide) (by decide);have h2 := vL (u := cw) (v := v2) (own := o) h1.1 h1.2;have aq := vL (u := ig) (v := v3) (own := p) h2.1 h2.2;exact vL (u := jL) (v := v4) (own := p) aq.1 aq.2
theorem TU {n d : Int} (hd : 0 < d) : pv u5 n d ↔ 0 ≤ n ∧ n ≤ d := by
 unfold pv qu qx u5;simp;omega
theorem Lo {cP v1 cw v2 ig v3 jL v4 n d : Int} {o p : Bool} (hd : 0 < d) : pv (tz cP v1 cw v2 ig v3 jL v4 o p) n d ↔ (0 ≤ n ∧ n ≤ d) ∧ jN cP v1 o n d ∧ jN cw v2 o n d ∧ jN ig v3 p n d ∧ jN jL v4 p n d := by
 unfold tz;have h1 := vL (p := u5) (u := cP) (v := v1) (own := o) (by decide) (by decide);have h2 := vL (u := cw) (v := v2) (own := o) h1.1 h1.2;have aq := vL (u := ig) (v := v3) (own := p) h2.1 h2.2;rw [DH aq.1 aq.2 hd, DH h2.1 h2.2 hd, DH h1.1 h1.2 hd, DH (by decide) (by decide) hd, TU hd];simp only [and_assoc]
def Met (cP v1 cw v2 ig v3 jL v4 : Int) (o p : Bool) : Prop := ∃ n d, 0 < d ∧ (0 ≤ n ∧ n ≤ d) ∧ jN cP v1 o n d ∧ jN cw v2 o n d ∧ jN ig v3 p n d ∧ jN jL v4 p n d
theorem Ve (cP v1 cw v2 ig v3 jL v4 : Int) (o p : Bool) : wJ (tz cP v1 cw v2 ig v3 jL v4 o p) = true ↔ Met cP v1 cw v2 ig v3 jL v4 o p := by
 obtain ⟨h1, h2⟩ := Vf cP v1 cw v2 ig v3 jL v4 o p;rw [Ue h1 h2]
 constructor
 ·rintro ⟨n, d, hd, h⟩; exact ⟨n, d, hd, (Lo hd).1 h⟩
 ·rintro ⟨n, d, hd, h⟩; exact ⟨n, d, hd, (Lo hd).2 h⟩
def wC (X Y W a1 a2 b1 b2 : Int) : Prop := ∃ n d, 0 < d ∧ (0 ≤ n ∧ n ≤ d) ∧ X * d = W * (a1 * (d - n) + b1 * n) ∧ Y * d = W * (a2 * (d - n) + b2 * n)
theorem Px {p1 p2 a1 a2 b1 b2 : Int} (h : dx p1 p2 a1 a2 b1 b2) : wC p1 p2 1 a1 a2 b1 b2 := by
 obtain ⟨aI, h1, h2, aq, aK⟩ := h;unfold ct at aI;unfold hR at h1 aq;unfold hQ at h2 aK;rcases Int.lt_trichotomy a1 b1 with g | g | g
 ·rw [if_neg (by omega)] at h1; rw [if_pos (show b1 > a1 from g)] at h2;exact ⟨p1 - a1, b1 - a1, by omega, by omega, by grind, by grind⟩
 ·subst g;rcases Int.lt_trichotomy a2 b2 with g | g | g
  ·rw [if_neg (by omega)] at aq; rw [if_pos (show b2 > a2 from g)] at aK;have : p1 = a1 := by split at h1 <;> split at h2 <;> omega
   exact ⟨p2 - a2, b2 - a2, by omega, by omega, by grind, by grind⟩
  ·subst g;have aG : p1 = a1 := by split at h1 <;> split at h2 <;> omega
   have aO : p2 = a2 := by split at aq <;> split at aK <;> omega
   exact ⟨0, 1, by omega, by omega, by grind, by grind⟩
  ·rw [if_pos g] at aq; rw [if_neg (by omega)] at aK;have : p1 = a1 := by split at h1 <;> split at h2 <;> omega
   exact ⟨a2 - p2, a2 - b2, by omega, by omega, by grind, by grind⟩
 ·rw [if_pos g] at h1; rw [if_neg (by omega)] at h2;exact ⟨a1 - p1, a1 - b1, by omega, by omega, by grind, by grind⟩
theorem Jn {v W : Int} (fg : 0 < W) (h : 0 ≤ v * W) : 0 ≤ v := by
 refine Int.not_lt.1 fun bj => ?_;have := Int.mul_lt_mul_of_pos_right bj fg;omega
theorem aeW {v W : Int} (fg : 0 < W) (h : 0 < v * W) : 0 < v := by
 refine Int.not_le.1 fun hle => ?_;have := qg hle (show 0 ≤ W by omega);omega
theorem Qf {X Y W a1 a2 b1 b2 l1 l2 h1 h2 : Int} (fg : 0 < W) (h : wC X Y W a1 a2 b1 b2) (g1 : l1 * W ≤ 2 * X) (g2 : l2 * W ≤ 2 * Y) (g3 : 2 * X < h1 * W) (g4 : 2 * Y < h2 * W) :
  Met (2 * a1 - l1) (2 * b1 - l1) (2 * a2 - l2) (2 * b2 - l2) (h1 - 2 * a1) (h1 - 2 * b1) (h2 - 2 * a2) (h2 - 2 * b2) true false := by
 obtain ⟨n, d, hd, aE, aG, aO⟩ := h
 have low : ∀ {X a b l : Int}, X * d = W * (a * (d - n) + b * n) → l * W ≤ 2 * X → jN (2 * a - l) (2 * b - l) true n d := fun {X a b l} e g => by
  have k := jq (show 0 ≤ d by omega) (show 0 ≤ 2 * X - l * W by omega);have bz : ((2 * a - l) * (d - n) + (2 * b - l) * n) * W = d * (2 * X - l * W) := by grind
  rw [← bz] at k;rcases Int.lt_or_eq_of_le (Jn fg k) with h | h
  ·exact .inl h
  ·exact .inr ⟨rfl, h.symm⟩
 have high : ∀ {X a b l : Int}, X * d = W * (a * (d - n) + b * n) → 2 * X < l * W → jN (l - 2 * a) (l - 2 * b) false n d := fun {X a b l} e g => by
  have k := Int.mul_pos hd (show 0 < l * W - 2 * X by omega);have bz : ((l - 2 * a) * (d - n) + (l - 2 * b) * n) * W = d * (l * W - 2 * X) := by grind
  rw [← bz] at k;exact .inl (aeW fg k)
 exact ⟨n, d, hd, aE, low aG g1, low aO g2, high aG g3, high aO g4⟩
theorem Qe {X Y W a1 a2 b1 b2 : Int} (h : wC X Y W a1 a2 b1 b2) : (b1 - a1) * (Y - a2 * W) = (b2 - a2) * (X - a1 * W) := by
 obtain ⟨n, d, hd, aE, aG, aO⟩ := h;have : d * ((b1 - a1) * (Y - a2 * W) - (b2 - a2) * (X - a1 * W)) = 0 := by grind
 rcases sT.1 this with h | h
 ·omega
 ·omega
theorem Ox {a1 a2 b1 b2 c1 c2 d1 d2 X Y W bq : Int} (h : db a1 a2 b1 b2 c1 c2 d1 d2 ≠ 0) (e : mT a1 a2 b1 b2 c1 c2 d1 d2 = jm X W Y bq) : bq = W ∧ 0 < W ∧ wC X Y W c1 c2 d1 d2 := by
 obtain ⟨_, ck⟩ := RC h;unfold mT uk at e
 split at e
 ·rename_i aK;obtain ⟨_, _, bC, cf⟩ := aK;have aG := congrArg fP.n e;have aO := congrArg fP.d e;have cz := congrArg fP.m e;have eX := congrArg fP.e e;simp only [jm] at aG aO cz eX;have G5 := IF a1 a2 b1 b2 c1 c2 d1 d2;have MC := IG a1 a2 b1 b2 c1 c2 d1 d2;have hw := JC a1 a2 b1 b2 c1 c2 d1 d2;rw [← aO, ← eX];refine ⟨rfl, Pc h, ?_⟩;rw [r4] at bC cf;unfold jE at aG cz bC cf;unfold iK at bC cf ⊢
  by_cases hs : db a1 a2 b1 b2 c1 c2 d1 d2 < 0
  ·rw [if_pos hs] at aG cz bC cf ⊢;rw [if_pos hs] at bC cf
   have := (Ca (x := d1) (y := c1) (u := d2) (v := c2) (A := -ct a1 a2 b1 b2 d1 d2) (B := -ct a1 a2 b1 b2 c1 c2) (D := -db a1 a2 b1 b2 c1 c2 d1 d2) (by omega) (by omega) (by omega)).1 ⟨by
    rw [show c1 * -ct a1 a2 b1 b2 d1 d2 - d1 * -ct a1 a2 b1 b2 c1 c2 = -j3 a1 a2 b1 b2 c1 c2 d1 d2 by grind]; exact bC, by
    rw [show c2 * -ct a1 a2 b1 b2 d1 d2 - d2 * -ct a1 a2 b1 b2 c1 c2 = -j4 a1 a2 b1 b2 c1 c2 d1 d2 by grind]; exact cf⟩
   exact ⟨ct a1 a2 b1 b2 c1 c2, -db a1 a2 b1 b2 c1 c2 d1 d2, by omega, by omega, by rw [← aG]; grind, by rw [← cz]; grind⟩
  ·rw [if_neg hs] at aG cz bC cf ⊢;rw [if_neg hs] at bC cf
   have := (Ca (x := d1) (y := c1) (u := d2) (v := c2) (A := ct a1 a2 b1 b2 d1 d2) (B := ct a1 a2 b1 b2 c1 c2) (D := db a1 a2 b1 b2 c1 c2 d1 d2) (by omega) (by omega) (by omega)).1 ⟨by
    rw [G5]; exact bC, by
    rw [MC]; exact cf⟩
   exact ⟨-ct a1 a2 b1 b2 c1 c2, db a1 a2 b1 b2 c1 c2 d1 d2, by omega, by omega, by rw [← aG]; grind, by rw [← cz]; grind⟩
 ·have := congrArg fP.k e;simp [h7, jm] at this
theorem DS {a1 a2 b1 b2 c1 c2 d1 d2 X Y W bq : Int} (e : iv a1 a2 b1 b2 c1 c2 d1 d2 = jm X W Y bq) : bq = W ∧ 0 < W ∧ wC X Y W a1 a2 b1 b2 ∧ wC X Y W c1 c2 d1 d2 ∧ (∀ p1 p2, dx p1 p2 a1 a2 b1 b2 → dx p1 p2 c1 c2 d1 d2 → X = p1 * W ∧ Y = p2 * W) := by
 unfold iv at e
 split at e
 ·rename_i hw;unfold vH inl at e
  split at e
  ·rename_i mK;obtain ⟨o1, o2⟩ := mK;unfold vG at e
   split at e
   ·rename_i xg;have aG := congrArg fP.n e;have aO := congrArg fP.d e;have cz := congrArg fP.m e;have eX := congrArg fP.e e;simp only [jm] at aG aO cz eX;subst aO; subst eX;rw [Ar] at o1 o2;rw [aG, cz] at o1 o2;refine ⟨rfl, by decide, Px o1, Px o2, fun p1 p2 hp al => ?_⟩
    have YN : pc (eS a1 a2 b1 b2) (ey a1 a2 b1 b2) (eD a1 a2 b1 b2) (ea a1 a2 b1 b2) (eS c1 c2 d1 d2) (ey c1 c2 d1 d2) (eD c1 c2 d1 d2) (ea c1 c2 d1 d2) = 0 := by
     rw [RD] at hw;rcases nw a1 a2 b1 b2 with ⟨h1, h2, aq, aK, _⟩ | ⟨h1, h2, aq, aK, _⟩ <;> rcases nw c1 c2 d1 d2 with ⟨bC, cf, h5, jD, _⟩ | ⟨bC, cf, h5, jD, _⟩ <;> rw [h1, h2, aq, aK, bC, cf, h5, jD] <;> unfold pc at hw ⊢ <;> grind
    obtain ⟨_, _, _, _, l1, l2⟩ := Of (xy a1 a2 b1 b2) (xy c1 c2 d1 d2) YN (Ar.2 hp) (Ar.2 al);rw [← xg.1, ← xg.2] at l2;have := dz.B2 l1 l2;omega
   ·have := congrArg fP.k e;simp [tk, jm] at this
  ·have := congrArg fP.k e;simp [h7, jm] at this
 ·rename_i hw;obtain ⟨g1, g2, g3⟩ := Ox hw e;have oS : db c1 c2 d1 d2 a1 a2 b1 b2 ≠ 0 := by rw [Ff]; omega
  obtain ⟨_, _, g4⟩ := Ox oS (by rw [aa8 hw]; exact e);refine ⟨g1, g2, g4, g3, fun p1 p2 hp al => ?_⟩;have l1 := Qe g4;have l2 := Qe g3;have q1 := hp.1;have q2 := al.1;unfold ct at q1 q2
  have line : ∀ {a1 a2 b1 b2 : Int}, (b1 - a1) * (Y - a2 * W) = (b2 - a2) * (X - a1 * W) → (b1 - a1) * (p2 - a2) - (b2 - a2) * (p1 - a1) = 0 → (b1 - a1) * (Y - p2 * W) = (b2 - a2) * (X - p1 * W) := fun {a1 a2 b1 b2} l q => by
   have z : (b1 - a1) * (Y - p2 * W) - (b2 - a2) * (X - p1 * W) = ((b1 - a1) * (Y - a2 * W) - (b2 - a2) * (X - a1 * W)) - ((b1 - a1) * (p2 - a2) - (b2 - a2) * (p1 - a1)) * W := by grind
   rw [q, l, Int.zero_mul] at z;omega
  have m1 := line l1 q1;have m2 := line l2 q2
  have kf : db a1 a2 b1 b2 c1 c2 d1 d2 * (X - p1 * W) = 0 := by
   have z : db a1 a2 b1 b2 c1 c2 d1 d2 * (X - p1 * W) = (b1 - a1) * ((d2 - c2) * (X - p1 * W)) - (d1 - c1) * ((b2 - a2) * (X - p1 * W)) := by unfold db; grind
   rw [z, ← m1, ← m2, Int.mul_left_comm];omega
  have z2 : db a1 a2 b1 b2 c1 c2 d1 d2 * (Y - p2 * W) = 0 := by
   have z : db a1 a2 b1 b2 c1 c2 d1 d2 * (Y - p2 * W) = (d2 - c2) * ((b1 - a1) * (Y - p2 * W)) - (b2 - a2) * ((d1 - c1) * (Y - p2 * W)) := by unfold db; grind
   rw [z, m1, m2, Int.mul_left_comm];omega
  have lW := (sT.1 kf).resolve_left hw;have rG := (sT.1 z2).resolve_left hw;omega
def yg (S : Int) (p q x : Int × Int) : Prop := Met (2 * (S * p.1) - (2 * (S * x.1) - S)) (2 * (S * q.1) - (2 * (S * x.1) - S)) (2 * (S * p.2) - (2 * (S * x.2) - S)) (2 * (S * q.2) - (2 * (S * x.2) - S)) (2 * (S * x.1) + S - 2 * (S * p.1)) (2 * (S * x.1) + S - 2 * (S * q.1)) (2 * (S * x.2) + S - 2 * (S * p.2)) (2 * (S * x.2) + S - 2 * (S * q.2)) true false
def BD (S X Y W : Int) (x : Int × Int) : Prop := ((2 * (S * x.1) - S) * W ≤ 2 * X ∧ 2 * X < (2 * (S * x.1) + S) * W) ∧ (2 * (S * x.2) - S) * W ≤ 2 * Y ∧ 2 * Y < (2 * (S * x.2) + S) * W
abbrev J2 (S : Int) (x p q : Int × Int) : Prop := dx (S * x.1) (S * x.2) (S * p.1) (S * p.2) (S * q.1) (S * q.2)
theorem Pu (S : Int) (p q : Int × Int) : J2 S p p q := by
 refine ⟨Gg .., ?_⟩;unfold sE hR hQ
 split <;> split <;> split <;> split <;> omega
theorem Pv (S : Int) (p q : Int × Int) : J2 S q p q := by
 refine ⟨Lm .., ?_⟩;unfold sE hR hQ
 split <;> split <;> split <;> split <;> omega
theorem abc {S : Int} (hS : 0 < S) {p q fU cK x : Int × Int} {X Y W bq : Int} (e : iv (S * p.1) (S * p.2) (S * q.1) (S * q.2) (S * fU.1) (S * fU.2) (S * cK.1) (S * cK.2) = jm X W Y bq) (aa : BD S X Y W x) (h1 : yg S p q x → x = p ∨ x = q) (h2 : yg S fU cK x → x = fU ∨ x = cK) :
  (x = p ∨ x = q) ∧ (x = fU ∨ x = cK) ∧ X = S * x.1 * W ∧ Y = S * x.2 * W := by
 obtain ⟨_, fg, g1, g2, g3⟩ := DS e;obtain ⟨⟨b1, b2⟩, eF, dV⟩ := aa;have bC := h1 (Qf fg g1 b1 eF b2 dV);have cf := h2 (Qf fg g2 b1 eF b2 dV);refine ⟨bC, cf, g3 _ _ ?_ ?_⟩
 ·rcases bC with rfl | rfl
  ·exact Pu ..
  ·exact Pv ..
 ·rcases cf with rfl | rfl
  ·exact Pu ..
  ·exact Pv ..
end Go.Proofs.YtpochbhajmbfdaaGreat
namespace Go.Proofs.YtpochbhajmbfdaaGreat.bF
abbrev iZ := Int × Int
abbrev Ow (S : Int) (l m : iZ × iZ) : fP := iv (S * l.1.1) (S * l.1.2) (S * l.2.1) (S * l.2.2) (S * m.1.1) (S * m.1.2) (S * m.2.1) (S * m.2.2)
def yn (l m : iZ × iZ) : Prop := l.1 = m.1 ∨ l.1 = m.2 ∨ l.2 = m.1 ∨ l.2 = m.2
structure ym (S : Int) (o : c4 iZ) : Prop where
 pos : 0 < S
 Ys : ∀ p q x, o.C7 p q x = true → yg S p q x
 MU : ∀ p q x, o.ho p → o.ho q → o.ho x → yg S p q x → o.C7 p q x = true
 Ln : ∀ l m x, o.cut l m = some x → ¬ yn l m ∧ ∃ X Y W bq, Ow S l m = jm X W Y bq ∧ BD S X Y W x
 Vd : ∀ l m, o.ho l.1 → o.ho l.2 → o.ho m.1 → o.ho m.2 → o.cut l m = none → (Ow S l m).k = 1 → yn l m
theorem ym.own {S : Int} {o : c4 iZ} (h : ym S o) {hot : List iZ} (aw : ∀ y ∈ hot, o.ho y) {p q x : iZ} (hp : p ∈ hot) (al : q ∈ hot) (aa : x ∈ hot) (hs : rW o hot p q) (hm : yg S p q x) : x = p ∨ x = q := by
 have h1 := hs x aa;have h2 := h.MU p q x (aw _ hp) (aw _ al) (aw _ aa) hm;unfold jy at h1;rw [h2, Bool.and_true, Bool.and_eq_false_iff] at h1;rcases h1 with h1 | h1
 ·exact .inl (by simpa using h1)
 ·exact .inr (by simpa using h1)
theorem ym.Vh {S : Int} {o : c4 iZ} (h : ym S o) (hot : List iZ) (p q fU cK x : iZ) (aw : ∀ y ∈ hot, o.ho y) (hp : p ∈ hot) (al : q ∈ hot) (oP : fU ∈ hot) (qZ : cK ∈ hot) (hs : rW o hot p q) (Dj : rW o hot fU cK) (ak : o.cut (p, q) (fU, cK) = some x) : x ∉ hot := fun aa => by
 obtain ⟨aE, X, Y, W, bq, e, lJ⟩ := h.Ln _ _ _ ak;obtain ⟨g1, g2, _⟩ := abc h.pos e lJ (h.own aw hp al aa hs) (h.own aw oP qZ aa Dj);refine aE ?_;unfold yn;rcases g1 with rfl | rfl <;> rcases g2 with g2 | g2
 ·exact .inl g2
 ·exact .inr (.inl g2)
 ·exact .inr (.inr (.inl g2))
 ·exact .inr (.inr (.inr g2))
end Go.Proofs.YtpochbhajmbfdaaGreat.bF
namespace Go.Proofs.YtpochbhajmbfdaaGreat
def gx (S X W : Int) : Int := (2 * X + S * W) / (2 * (S * W))
theorem Er {S W : Int} (hS : 0 < S) (fg : 0 < W) (X : Int) : (2 * (S * gx S X W) - S) * W ≤ 2 * X ∧ 2 * X < (2 * (S * gx S X W) + S) * W := by
 have XA := Int.mul_pos hS fg;unfold gx;have h1 := sU (2 * X + S * W) (2 * (S * W));have h2 := pj (2 * X + S * W) (show 2 * (S * W) ≠ 0 by omega);have aq := oe (2 * X + S * W) (show 0 < 2 * (S * W) by omega);generalize (2 * X + S * W) / (2 * (S * W)) = g at *;generalize (2 * X + S * W) % (2 * (S * W)) = m at *;have aG : (2 * (S * g) - S) * W = 2 * (S * W) * g - S * W := by grind
 have aO : (2 * (S * g) + S) * W = 2 * (S * W) * g + S * W := by grind
 omega
theorem Zw {S X Y W : Int} (hS : 0 < S) (fg : 0 < W) : BD S X Y W (gx S X W, gx S Y W) := ⟨Er hS fg X, Er hS fg Y⟩
theorem Qm {S X W n d p q g : Int} (hS : 0 < S) (fg : 0 < W) (hd : 0 < d) (aE : 0 ≤ n ∧ n ≤ d) (e : X * d = W * (S * p * (d - n) + S * q * n)) (h1 : (2 * (S * g) - S) * W ≤ 2 * X) (h2 : 2 * X < (2 * (S * g) + S) * W) : (p ≤ q → p ≤ g ∧ g ≤ q) ∧ (q ≤ p → q ≤ g ∧ g ≤ p) := by
 have XA := Int.mul_pos hS fg
 have aaQ : ∀ {b : Int}, b ≤ p → b ≤ q → S * W * b ≤ X := fun {b} bC cf => by
  have m1 := jq (show 0 ≤ S * W by omega) (jq (show 0 ≤ p - b by omega) (show 0 ≤ d - n by omega));have m2 := jq (show 0 ≤ S * W by omega) (jq (show 0 ≤ q - b by omega) aE.1);have bz : (X - S * W * b) * d = S * W * ((p - b) * (d - n)) + S * W * ((q - b) * n) := by grind
  have := Jn (v := X - S * W * b) hd (by rw [bz]; omega);omega
 have Yr : ∀ {b : Int}, p ≤ b → q ≤ b → X ≤ S * W * b := fun {b} bC cf => by
  have m1 := jq (show 0 ≤ S * W by omega) (jq (show 0 ≤ b - p by omega) (show 0 ≤ d - n by omega));have m2 := jq (show 0 ≤ S * W by omega) (jq (show 0 ≤ b - q by omega) aE.1);have bz : (S * W * b - X) * d = S * W * ((b - p) * (d - n)) + S * W * ((b - q) * n) := by grind
  have := Jn (v := S * W * b - X) hd (by rw [bz]; omega);omega
 have low : ∀ {b : Int}, b ≤ p → b ≤ q → b ≤ g := fun {b} bC cf => by
  have G5 := aaQ bC cf;refine Int.not_lt.1 fun bj => ?_;have m := rp (show g + 1 ≤ b by omega) (show 0 ≤ S * W by omega);have aO : (2 * (S * g) + S) * W = 2 * (S * W * (g + 1)) - S * W := by grind
  omega
 have high : ∀ {b : Int}, p ≤ b → q ≤ b → g ≤ b := fun {b} bC cf => by
  have G5 := Yr bC cf;refine Int.not_lt.1 fun bj => ?_;have m := rp (show b + 1 ≤ g by omega) (show 0 ≤ S * W by omega);have aG : (2 * (S * g) - S) * W = 2 * (S * W * g) - S * W := by grind
  have cz : S * W * (b + 1) = S * W * b + S * W := by grind
  omega
 exact ⟨fun h => ⟨low (pg _) h, high h (pg _)⟩, fun h => ⟨low h (pg _), high (pg _) h⟩⟩
def e6 (lt : Int × Int → Int × Int → Bool) : List (Int × Int) → List (Int × Int) → List (Int × Int)
 | [], b => b
 | x :: a, [] => x :: a
 | x :: a, y :: b => if lt y x then y :: e6 lt (x :: a) b else x :: e6 lt a (y :: b)
termination_by a b => a.length + b.length
theorem Iz (lt : Int × Int → Int × Int → Bool) (a : List (Int × Int)) : e6 lt a [] = a := by cases a <;> simp [e6]
theorem abi (lt : Int × Int → Int × Int → Bool) (a : List (Int × Int)) : e6 lt [] a = a := by simp [e6]
theorem Iy (lt : Int × Int → Int × Int → Bool) : ∀ a b, (e6 lt a b).length = a.length + b.length := by
 intro a b
 induction a, b using e6.induct lt with
 | case1 b => simp [e6]
 | case2 x a => simp [e6]
 | case3 x a y b h cF => rw [e6, if_pos h, mq, cF]; simp; omega
 | case4 x a y b h cF => rw [e6, if_neg h, mq, cF]; simp; omega
def iU (lt : Int × Int → Int × Int → Bool) (l : List (Int × Int)) : List (Int × Int) :=
 if h : l.length < 2 then l else e6 lt (iU lt (l.take (l.length / 2))) (iU lt (l.drop (l.length / 2)))
termination_by l.length
decreasing_by all_goals (simp; omega)
theorem EY (lt : Int × Int → Int × Int → Bool) : ∀ (N : Nat) (l : List (Int × Int)), l.length ≤ N → (iU lt l).length = l.length
 | 0, l, h => by rw [iU, dif_pos (by omega)]
 | N + 1, l, h => by
  rw [iU]
  split
  ·rfl
  ·rw [Iy, EY lt N _ (by simp; omega), EY lt N _ (by simp; omega)];simp; omega
end Go.Proofs.YtpochbhajmbfdaaGreat
namespace Go.Proofs.YtpochbhajmbfdaaGreat
open Go.RowKit
structure JU where
 v : Value
 n : Nat
 xs : List Value
section
variable {P : Program} {B qv : ff} {A eA : Nat → Prop} {s s' : aC} {ad : Nat → Nat} {a : Act} {w w' : World}
theorem Rel.yz (h : Rel B A s ad a w) (dI : ∀ b, A b → b < w.heap.size → eA b ∧ w'.heap[b]? = w.heap[b]?) (ew : ∀ k cs, s.mem k = some cs → w'.heap[ad k]? = w.heap[ad k]? ∧ ¬ qv.F (ad k)) (XR : kh qv w') (HP : ∀ b, qv.W.heap.size ≤ b → eA b) (G7 : uS qv s ad) (vw : qv.marks = B.marks := by rfl) : Rel qv eA s ad a w' := by
 have MA : ∀ b, s.free A ad b → b < w.heap.size → s.free eA ad b ∧ w'.heap[b]? = w.heap[b]? := fun b ab ao => ⟨⟨(dI b ab.1 ao).1, ab.2⟩, (dI b ab.1 ao).2⟩;refine ⟨h.qb.trans vw.symm, h.size, fun t av aD => ?_, fun k cs af => ?_, h.inj, XR, HP, G7⟩
 ·obtain ⟨v, h1, h2⟩ := h.hh t av aD;exact ⟨v, h1, h2.map MA fun _ _ => rfl⟩
 ·obtain ⟨vs, ty, h1, h2, aq⟩ := h.dG k cs af;exact ⟨vs, ty, by rw [(ew k cs af).1]; exact h1, h2.map MA fun _ _ _ _ => rfl, (ew k cs af).2⟩
theorem Rel.Qz {d : Nat} {av bv : ai} (h : Rel B A s ad a w) (hd : s.tmps d = some bv) (hv : ∀ v, a.tmps[d]? = some v → di (s.free A ad) ad w bv v → di (s.free A ad) ad w av v) : Rel B A (s.put (some d) av) ad a w := by
 refine ⟨h.qb, h.size, fun t cv aD => ?_, h.dG, h.inj, h.below, h.up, h.kp⟩;simp only [aC.put] at aD
 by_cases e : t = d
 ·subst e;rw [cy] at aD;cases aD;obtain ⟨v, h1, h2⟩ := h.hh t bv hd;exact ⟨v, h1, hv v h1 h2⟩
 ·rw [ca _ _ e] at aD;exact h.hh t cv aD
def nV (B : ff) (s : aC) (ad : Nat → Nat) (w : World) : ff := ⟨w, fun b => b < w.heap.size ∧ ∀ k cs, s.mem k = some cs → ad k ≠ b, fun _ h => h.1, fun k => if s.n ≤ k then some (ad k) else none, B.marks⟩
theorem xb {B : ff} (s : aC) (ad : Nat → Nat) (w : World) : uS (nV B s ad w) s ad := fun k b af => by
 simp only [nV] at af
 split at af
 ·rename_i h; exact ⟨h, mY af⟩
 ·cases af
theorem Uf {bp : ff} {s s' : aC} {ad bf : Nat → Nat} {w w' : World} {A : Nat → Prop} {a' : Act} (h : uS bp s ad) (cE : Rel (nV bp s ad w) A s' bf a' w') : uS bp s' bf := fun k b af => by
 obtain ⟨h1, h2⟩ := h k b af;obtain ⟨aq, aK⟩ := cE.kp k (ad k) (by simp [nV, h1]);exact ⟨aq, aK.trans h2⟩
theorem Rel.hot (h : Rel B A s ad a w) (HP : ∀ b, w.heap.size ≤ b → A b) : Rel (nV B s ad w) A s ad a w :=
 h.yz (fun b h _ => ⟨h, rfl⟩) (fun k cs af => ⟨rfl, fun au => au.2 k cs af rfl⟩) (kh.refl _) HP (xb _ _ _)
theorem PD {base : Nat} {e : TypeId} {sz : Nat} {v : Value} {n : Nat} {xs : List Value} (h : w.ownsRow base e sz v n xs) (aw : ∀ g, v.ownBlock = some g → w'.heap[g]? = w.heap[g]?) : w'.ownsRow base e sz v n xs := by
 refine ⟨h.1, ?_⟩;rcases h.2 with aE | ⟨g, cap, cur, rfl, ab, tX, rest⟩
 ·exact .inl aE
 ·exact .inr ⟨g, cap, cur, rfl, ab, (aw g rfl).trans tX, rest⟩
end
section
variable {P : Program} {e sz : Nat} {t : JU} {s : aC} {Q : Exit → JU → aC → Prop} {x y c : Code}
theorem QV (w : World) (base : Nat) (t ty e : TypeId) (i : TypeInfo) (z : Value) (size bytes : Nat) (aD : P.underlying t = some (.slice e)) (hi : P.info? e = some i) (aZ : i.zero = some z)
  (hN : i.size = size) (lc : i.bytes = bytes) (oV : z.cells.size = size) (b0 : 0 < size)
  (v : Value) (n : Nat) (xs : List Value) (ew : w.ownsRow base e size v n xs)
  (a : Addr) (m c : Nat) (news : List Value) (ao : news.length = m * size) (lg : ∀ j u, news[j]? = some u → w.cell? (a.add j) = some u) (h1 : ∀ u ∈ news, u.oneCell' = true)
  (GR : n + m ≤ maxLen) (G9 : (n + m) * bytes ≤ 140737488355328) (nV : base ≤ w.heap.size) (hm : 0 < m) :
  ∃ aW w', (Builtin.append_ #[t, t] ty #[v, .slice (some a) m c]).run P w = .ok aW w' ∧ w'.ownsRow base e size aW (n + m) (xs ++ news) ∧ w.grownBy w' v.ownBlock ∧ (∀ g, aW.ownBlock = some g → v.ownBlock = some g ∨ w.heap.size ≤ g) ∧ aW.oneCell' = true := by
 obtain ⟨aW, w', ap, h2, aq, aK⟩ := run_append_own (P := P) w base t ty e i z size bytes aD hi aZ hN lc oV b0 v n xs ew a m c news ao lg h1 GR G9 nV;refine ⟨aW, w', ap, h2, aq, ?_, ?_⟩
 ·have ah3 : n + m ≤ 9223372036854775807 := by simp only [maxLen] at GR; omega
  rcases ew.2 with ⟨rfl, rfl⟩ | ⟨g, cap, cur, rfl, qT, aw, e1, jV, eg, n3⟩
  ·have aa : xs = [] := na (by simpa using ew.1);subst aa;have := run_append_nil (P := P) w t ty e i z aD hi aZ a m c news (by rw [hN]; exact ao) lg hm (by omega) (by rw [lc]; simp only [jr] at G9; omega);rw [this] at ap;cases ap;intro g aw;simp [Value.ownBlock] at aw;exact .inr (by omega)
  ·by_cases me : n + m ≤ cap
   ·have xh : n * i.size + news.length ≤ cur.size := by rw [hN, ao, eg, ← kx]; exact ky _ me
    have := run_append_room (P := P) w t ty e i aD hi g n cap cur aw a m c news (by rw [hN]; exact ao) lg h1 me xh;rw [this] at ap;cases ap;intro jx eN;exact .inl eN
   ·have holds : ∀ j u, xs[j]? = some u → w.cell? ((⟨g, 0, none⟩ : Addr).add j) = some u := ew.cells (g := g) rfl;have := run_append_grow (P := P) w t ty e i z aD hi aZ ⟨g, 0, none⟩ n cap xs (by rw [hN]; exact ew.1) holds a m c news (by rw [hN]; exact ao) lg (by omega) (by omega) (growslice_fits (by omega) (by rw [lc]; exact G9));rw [this] at ap;cases ap;intro jx eN;simp [Value.ownBlock] at eN;exact .inr (by omega)
 ·rcases h2.2 with ⟨rfl, _⟩ | ⟨g, cap, cur, rfl, _⟩ <;> rfl
def vY (P : Program) (tt e sz bytes : Nat) : Bool := match P.underlying tt, P.info? e with
 | some (.slice bz), some i => match i.zero with
  | some z => Nat.beq bz e && Nat.beq i.size sz && Nat.beq i.bytes bytes && Nat.beq z.cells.size sz && Nat.blt 0 sz
  | none => false
 | _, _ => false
class ox (P : Program) (tt : TypeId) (e sz bytes : outParam Nat) : Prop where
 h : vY P tt e sz bytes = true
theorem rz {tt e sz bytes : Nat} (h : vY P tt e sz bytes = true) : ∃ (i : TypeInfo) (z : Value), P.underlying tt = some (.slice e) ∧ P.info? e = some i ∧ i.zero = some z ∧ i.size = sz ∧ i.bytes = bytes ∧ z.cells.size = sz ∧ 0 < sz := by
 unfold vY at h
 split at h
 ·rename_i bz i hu hi
  split at h
  ·rename_i z aZ;simp only [eo] at h;obtain ⟨⟨⟨⟨h1, h2⟩, aq⟩, aK⟩, cO⟩ := h;rw [hE h1] at hu;exact ⟨i, z, hu, hi, aZ, hE h2, hE aq, hE aK, by simpa [Nat.blt_eq] using cO⟩
  ·cases h
 ·cases h
end
structure bQ where
 e : Nat
 sz : Nat
 v : Value
 n : Nat
 aU : List AC
abbrev aJ := Nat → Option bQ
def gO : aJ := fun _ => none
def bL (i : Nat) (r : bQ) : aJ := bS gO i r
def bH (R aB : aJ) : Prop := ∀ i r, R i = some r → aB i = some r
theorem bH.refl (R : aJ) : bH R R := fun _ _ h => h
theorem og (f : aJ) (i : Nat) (r : bQ) : bH (bL i r) (bS f i r) := by
 intro j q h
 by_cases e : j = i
 ·subst e; rw [bL, cy] at h; rw [cy]; exact h
 ·rw [bL, ca _ _ e] at h; cases h
def jJ (v : Value) (off : Nat) : Value := match v with
 | .slice (some a) _ _ => .pointer (some (a.add off))
 | _ => .pointer none
def hg (v : Value) (z lo hi : Nat) : Value := match v with
 | .slice A _ c => sliced A lo hi c z
 | _ => v
def bQ.own (r : bQ) (b : Nat) : Prop := r.v.ownBlock = some b ∨ (r.sz = 0 ∧ ∃ S w, r.aU = [.p S] ∧ S.holds w r.v ∧ S.lG w r.v b)
def bQ.ok (U : Nat → Prop) (ad : Nat → Nat) (w : World) (r : bQ) : Prop :=
 (0 < r.sz ∧ ∃ xs, w.ownsRow 0 r.e r.sz r.v r.n xs ∧ bZ U ad w r.aU xs) ∨ (r.sz = 0 ∧ r.n = 0 ∧ r.v.ownBlock = none ∧ (∃ S, r.aU = [.p S] ∧ S.holds w r.v) ∧ ∀ b, r.own b → b < w.heap.size)
theorem bQ.o9 {r : bQ} {b : Nat} (h : r.own b) (hs : 0 < r.sz) : r.v.ownBlock = some b := by
 rcases h with h | ⟨h, _⟩
 ·exact h
 ·omega
theorem bQ.ok.row {U : Nat → Prop} {ad : Nat → Nat} {w : World} {r : bQ} (h : r.ok U ad w) (hs : 0 < r.sz) : ∃ xs, w.ownsRow 0 r.e r.sz r.v r.n xs ∧ bZ U ad w r.aU xs := by
 rcases h with ⟨_, h⟩ | ⟨h, _⟩
 ·exact h
 ·omega
theorem bQ.ok.pos {U : Nat → Prop} {ad : Nat → Nat} {w : World} {r : bQ} (h : r.ok U ad w) (aE : 0 < r.n) : 0 < r.sz := by
 rcases h with ⟨h, _⟩ | ⟨_, h, _⟩
 ·exact h
 ·omega
theorem bQ.ok.lt {U : Nat → Prop} {ad : Nat → Nat} {w : World} {r : bQ} (h : r.ok U ad w) {g : Nat} (aw : r.own g) : g < w.heap.size := by
 rcases h with ⟨hs, xs, az, _⟩ | ⟨_, _, _, _, h⟩
 ·exact (az.lt g (aw.elim id fun h => by omega)).2
 ·exact h g aw
theorem bQ.ok.kept {U cM : Nat → Prop} {ad bf : Nat → Nat} {w w' : World} {r : bQ} (h : r.ok U ad w) (ak : ∀ y ∈ r.aU, y.ba = true) (af : ∀ g, r.own g → w'.heap[g]? = w.heap[g]?) (b0 : w.heap.size ≤ w'.heap.size) (dI : ∀ b, U b → b < w.heap.size → cM b ∧ w'.heap[b]? = w.heap[b]?) : r.ok cM bf w' := by
 rcases h with ⟨hs, xs, az, ao⟩ | ⟨hs, aE, hv, ⟨S, hS, a6⟩, bj⟩
 ·exact .inl ⟨hs, xs, PD az fun g q => af g (.inl q), ao.map dI fun j x aa ae => absurd ae (AC.dH (ak x aa) j)⟩
 ·exact .inr ⟨hs, aE, hv, ⟨S, hS, (S.frame w w' r.v a6 fun b ab => af b (.inr ⟨hs, S, w, hS, a6, ab⟩)).1⟩, fun b ab => uI (bj b ab) b0⟩
structure u0 (bp : ff) (A : Nat → Prop) (s : aC) (ad : Nat → Nat) (w : World) (r : bQ) : Prop where
 ok : r.ok (s.free A ad) ad w
 pH : ∀ y ∈ r.aU, y.ba = true
 own : ∀ g, r.own g → ¬ A g ∧ ∀ k cs, s.mem k = some cs → ad k ≠ g
theorem u0.cells {bp : ff} {A : Nat → Prop} {s : aC} {ad : Nat → Nat} {w : World} {r : bQ} (h : u0 bp A s ad w r) (hs : 0 < r.sz) : ∃ xs, w.ownsRow 0 r.e r.sz r.v r.n xs ∧ bZ (s.free A ad) ad w r.aU xs := h.ok.row hs
structure eL (bp : ff) (bU : Nat → Prop) (R : aJ) (s : aC) (a : Act) (w : World) (A : Nat → Prop) (ad : Nat → Nat) : Prop where
 up : ∀ b, bp.W.heap.size ≤ b → bU b
 sub : ∀ b, A b → bU b
 rel : Rel (nV bp s ad w) A s ad a w
 o3 : ∀ k cs, s.mem k = some cs → ¬ bp.F (ad k)
 below : kh bp w
 rows : ∀ i r, R i = some r → u0 bp A s ad w r
 apart : ∀ i j r q, R i = some r → R j = some q → i ≠ j → ∀ g, r.own g → ¬ q.own g
 hot : ∀ i r g, R i = some r → r.own g → ¬ bp.F g ∧ bU g
 kp : uS bp s ad
def pw (bp : ff) (bU : Nat → Prop) (R : aJ) (s : aC) (a : Act) (w : World) : Prop := ∃ A ad, eL bp bU R s a w A ad
section
variable {P : Program} {bp : ff} {bU A : Nat → Prop} {R : aJ} {s s' : aC} {a a' : Act} {w w' : World} {ad bf : Nat → Nat} {o bn bk : Oper} {ops : Array Oper}
theorem bZ.wS {U cM : Nat → Prop} {xs : List AC} {vs : List Value} (h : bZ U ad w xs vs) (ak : ∀ y ∈ xs, y.ba = true) (dI : ∀ b, U b → b < w.heap.size → cM b ∧ w'.heap[b]? = w.heap[b]?) : bZ cM bf w' xs vs :=
 h.map dI fun j x aa ae => absurd ae (AC.dH (ak x aa) j)
theorem eL.next (h : eL bp bU R s a w A ad) (cE : Rel (nV bp s ad w) A s' bf a' w') : eL bp bU R s' a' w' A bf := by
 have Hb : ∀ k cs, s'.mem k = some cs → w.heap.size ≤ bf k ∨ ∃ j cs, s.mem j = some cs ∧ ad j = bf k := by
  intro k cs af;obtain ⟨_, _, _, _, hF⟩ := cE.dG k cs af;rcases jn (bf k) w.heap.size with ao | ao
  ·exact .inr (Classical.byContradiction fun aE => hF ⟨ao, fun j cs ae e => aE ⟨j, cs, ae, e⟩⟩)
  ·exact .inl ao
 have jW : ∀ b, s.free A ad b → b < w.heap.size → s'.free A bf b ∧ w'.heap[b]? = w.heap[b]? := fun b ab ao => by
  refine ⟨⟨ab.1, fun k cs af e => ?_⟩, cE.below.block b ⟨ao, fun k cs af => ab.2 k cs af⟩⟩;rcases Hb k cs af with h1 | ⟨j, ar, ae, bz⟩
  ·omega
  ·exact ab.2 j ar ae (bz.trans e)
 refine ⟨h.up, h.sub, cE.hot fun b ab => cE.up b (lT cE.below.size ab), fun k cs af au => ?_, ⟨cE.below.os.trans h.below.os, cE.below.tape.trans h.below.tape, cE.below.output.trans h.below.output, lT h.below.size cE.below.size, fun b au => ?_⟩, fun i r hi => ?_, h.apart, h.hot, Uf h.kp cE⟩
 ·rcases Hb k cs af with h1 | ⟨j, ar, ae, e⟩
  ·have := bp.lt _ au; have := h.below.size; omega
  ·rw [← e] at au; exact h.o3 j ar ae au
 ·exact (cE.below.block b ⟨uI (bp.lt b au) h.below.size, fun k cs af e => h.o3 k cs af (by rw [e]; exact au)⟩).trans (h.below.block b au)
 ·obtain ⟨lK, ak, aw⟩ := h.rows i r hi;refine ⟨lK.kept ak (fun g q => cE.below.block g ⟨lK.lt q, (aw g q).2⟩) cE.below.size jW, ak, fun g q => ⟨(aw g q).1, fun k cs af he => ?_⟩⟩;rcases Hb k cs af with h1 | ⟨j, ar, ae, e⟩
  ·have := lK.lt q; omega
  ·exact (aw g q).2 j ar ae (e.trans he)
theorem eL.put {d : Option Nat} {av : ai} {v : Value} (h : eL bp bU R s a w A ad) (hd : ∀ d', d = some d' → d' < s.n) (hv : di (s.free A ad) ad w av v) : eL bp bU R (s.put d av) (a.put d v) w A ad := h.next (h.rel.put hd hv)
theorem eL.le {aB : aJ} (h : eL bp bU R s a w A ad) (l : bH aB R) : eL bp bU aB s a w A ad :=
 ⟨h.up, h.sub, h.rel, h.o3, h.below, fun i r hi => h.rows i r (l i r hi), fun i j r q hi ae => h.apart i j r q (l i r hi) (l j q ae), fun i r g hi => h.hot i r g (l i r hi), h.kp⟩
theorem eL.Od (h : eL bp bU R s a w A ad) (l : s.br s') : eL bp bU R s' a w A ad := h.next (h.rel.le l)
inductive k1 (P : Program) (R : aJ) (look : Operand → Option ai) (o : Oper) : ai → Prop
 | len (i : Nat) (r : bQ) (t z : Nat) (x : Operand) (hi : R i = some r) (b0 : 0 < r.sz) (az : o.op = .call ⟨.builtin .len, #[x], #[t]⟩) (aa : look x = some (aR r.v)) (aD : s7 P t = some z) : k1 P R look o (aV r.n)
 | idx (i : Nat) (r : bQ) (t : Nat) (x y : Operand) (ha : IntKind) (j : Int) (hi : R i = some r) (az : o.op = .indexAddr t x y) (aa : look x = some (aR r.v)) (ag : look y = some (aR (.int ha j))) (aI : 0 ≤ j) (h1 : j < r.n) (aD : s7 P t = some r.sz) : k1 P R look o (aR (jJ r.v (j.toNat * r.sz)))
 | nU (i : Nat) (r : bQ) (off t f im : Nat) (x : Operand) (hi : R i = some r) (aE : 0 < r.n) (az : o.op = .fieldAddr t x f) (aa : look x = some (aR (jJ r.v off))) (aD : tL P t f = some im) : k1 P R look o (aR (jJ r.v (off + im)))
 | load (i : Nat) (r : bQ) (off lt : Nat) (x : Operand) (av : bK) (hi : R i = some r) (aE : 0 < r.n) (az : o.op = .load lt x) (aa : look x = some (aR (jJ r.v off))) (hv : pick P lt r.aU off = some av) : k1 P R look o (.w av)
 | sl (i : Nat) (r : bQ) (t lo hi : Nat) (x : Operand) (uQ td : Option Operand) (dq : R i = some r) (b0 : 0 < r.sz) (az : o.op = .slice t x uQ td none) (aa : look x = some (aR r.v)) (ao : (uQ = none ∧ lo = 0 ∧ td ≠ none) ∨ ∃ y, uQ = some y ∧ look y = some (aR (.int .i64 lo))) (a6 : (td = none ∧ hi = r.n) ∨ ∃ y, td = some y ∧ look y = some (aR (.int .i64 hi))) (h1 : lo ≤ hi) (h2 : hi ≤ r.n) (aD : s7 P t = some r.sz) : k1 P R look o (aR (hg r.v r.sz lo hi))
 | z7 (i : Nat) (r : bQ) (t z lo hi : Nat) (x : Operand) (dq : R i = some r) (b0 : 0 < r.sz) (az : o.op = .call ⟨.builtin .len, #[x], #[t]⟩) (aa : look x = some (aR (hg r.v r.sz lo hi))) (aD : s7 P t = some z) : k1 P R look o (aV ((hi - lo : Nat) : Int))
 | zQ (i : Nat) (r : bQ) (t lo hi : Nat) (x y : Operand) (ha : IntKind) (j : Int) (dq : R i = some r) (az : o.op = .indexAddr t x y) (aa : look x = some (aR (hg r.v r.sz lo hi))) (ag : look y = some (aR (.int ha j))) (aI : 0 ≤ j) (h1 : j < ((hi - lo : Nat) : Int)) (h2 : hi ≤ r.n) (aD : s7 P t = some r.sz) : k1 P R look o (aR (jJ r.v ((lo + j.toNat) * r.sz)))
theorem k1.congr {look gE : Operand → Option ai} {av : ai} (h : k1 P R look o av) (e : ∀ x ∈ o.op.operands, gE x = look x) : k1 P R gE o av := by
 cases h with
 | len i r t z x hi b0 az aa aD => exact .len i r t z x hi b0 az (by rw [e x (by simp [az, Op.operands, Call.operands])]; exact aa) aD
 | idx i r t x y ha j hi az aa ag aI h1 aD => exact .idx i r t x y ha j hi az (by rw [e x (by simp [az, Op.operands])]; exact aa) (by rw [e y (by simp [az, Op.operands])]; exact ag) aI h1 aD
 | nU i r off t f im x hi aE az aa aD => exact .nU i r off t f im x hi aE az (by rw [e x (by simp [az, Op.operands])]; exact aa) aD
 | load i r off lt x av hi aE az aa hv => exact .load i r off lt x av hi aE az (by rw [e x (by simp [az, Op.operands])]; exact aa) hv
 | sl i r t lo hi x uQ td dq b0 az aa ao a6 h1 h2 aD =>
  refine .sl i r t lo hi x uQ td dq b0 az (by rw [e x (by simp [az, Op.operands])]; exact aa) ?_ ?_ h1 h2 aD
  ·rcases ao with h | ⟨y, rfl, h⟩
   ·exact .inl h
   ·exact .inr ⟨y, rfl, by rw [e y (by simp [az, Op.operands])]; exact h⟩
  ·rcases a6 with h | ⟨y, rfl, h⟩
   ·exact .inl h
   ·exact .inr ⟨y, rfl, by rw [e y (by simp [az, Op.operands])]; exact h⟩
 | z7 i r t z lo hi x dq b0 az aa aD => exact .z7 i r t z lo hi x dq b0 az (by rw [e x (by simp [az, Op.operands, Call.operands])]; exact aa) aD
 | zQ i r t lo hi x y ha j dq az aa ag aI h1 h2 aD => exact .zQ i r t lo hi x y ha j dq az (by rw [e x (by simp [az, Op.operands])]; exact aa) (by rw [e y (by simp [az, Op.operands])]; exact ag) aI h1 h2 aD
theorem k1.rows {aB : aJ} {look : Operand → Option ai} {av : ai} (h : k1 P R look o av) (l : bH R aB) : k1 P aB look o av := by
 cases h with
 | len i r t z x hi b0 az aa aD => exact .len i r t z x (l _ _ hi) b0 az aa aD
 | idx i r t x y ha j hi az aa ag aI h1 aD => exact .idx i r t x y ha j (l _ _ hi) az aa ag aI h1 aD
 | nU i r off t f im x hi aE az aa aD => exact .nU i r off t f im x (l _ _ hi) aE az aa aD
 | load i r off lt x av hi aE az aa hv => exact .load i r off lt x av (l _ _ hi) aE az aa hv
 | sl i r t lo hi x uQ td dq b0 az aa ao a6 h1 h2 aD => exact .sl i r t lo hi x uQ td (l _ _ dq) b0 az aa ao a6 h1 h2 aD
 | z7 i r t z lo hi x dq b0 az aa aD => exact .z7 i r t z lo hi x (l _ _ dq) b0 az aa aD
 | zQ i r t lo hi x y ha j dq az aa ag aI h1 h2 aD => exact .zQ i r t lo hi x y ha j (l _ _ dq) az aa ag aI h1 h2 aD
theorem adE {U : Nat → Prop} {ty : TypeId} {aU : List AC} {off : Nat} {av : bK} {xs : List Value} {b : Addr} (hv : pick P ty aU off = some av) (ao : bZ U ad w aU xs) (ak : ∀ j u, xs[j]? = some u → w.cell? (b.add j) = some u) :
  ∃ v, (loadVar ty (b.add off)).run P w = .ok v w ∧ gS U ad w av v := by
 unfold pick at hv
 have key : ∀ d, P.underlying ty = some d → ((∃ bm, d = .struct bm) ∨ ∃ n e, d = .array n e) → ((P.info? ty).bind fun i => if off + i.size ≤ aU.length then some (bK.agg ((aU.drop off).take i.size)) else none) = some av → ∃ v, (loadVar ty (b.add off)).run P w = .ok v w ∧ gS U ad w av v := by
  intro d hu hd h;cases hi : P.info? ty with
  | none => rw [hi] at h; cases h
  | some i =>
   rw [hi] at h;simp only [kz] at h
   split at h
   ·rename_i hle;cases h;have hs := ao.sub off i.size;have hlen : ((xs.drop off).take i.size).length = i.size := by have := ao.1; simp; omega
    refine ⟨_, Jg hu hd hi hlen (fun j v ae => ?_), _, rfl, hs⟩;have ks : j < i.size := by rw [← hlen]; exact (bV.1 ae).1
    rw [gm ks, gF] at ae;rw [ys];exact ak _ v ae
   ·cases h
 have Ib : ∀ d, P.underlying ty = some d → (∀ bm, d ≠ .struct bm) → (∀ n e, d ≠ .array n e) → (aU[off]?).map bK.one = some av → ∃ v, (loadVar ty (b.add off)).run P w = .ok v w ∧ gS U ad w av v := by
  intro d hu h1 h2 h;cases aa : aU[off]? with
  | none => rw [aa] at h; cases h
  | some x =>
   rw [aa] at h;cases h;have bj : off < xs.length := by rw [← ao.1]; exact (bV.1 aa).1
   have hv := cl bj;exact ⟨_, Jh hu h1 h2 (ak off _ hv), ao.2 off x _ aa hv⟩
 cases hu : P.underlying ty with
 | none => rw [hu] at hv; cases hv
 | some d =>
  rw [hu] at hv;cases d <;> first | exact key _ hu (.inl ⟨_, rfl⟩) hv | exact key _ hu (.inr ⟨_, _, rfl⟩) hv | exact Ib _ hu (fun _ h => by cases h) (fun _ _ h => by cases h) hv
theorem u0.slice {r : bQ} (h : u0 bp A s ad w r) (b0 : 0 < r.sz) : ∃ fe c, r.v = .slice fe r.n c ∧ (0 < r.n → ∃ g, fe = some ⟨g, 0, none⟩) := by
 obtain ⟨xs, az, _⟩ := h.cells b0;rcases az.2 with ⟨e, dn⟩ | ⟨g, cap, cur, e, _⟩
 ·exact ⟨none, 0, by rw [e, dn], fun h => by omega⟩
 ·exact ⟨_, _, e, fun _ => ⟨g, rfl⟩⟩
theorem u0.ES {r : bQ} (h : u0 bp A s ad w r) (b0 : 0 < r.sz) : ∃ fe c, r.v = .slice fe r.n c ∧ r.n ≤ c ∧ (0 < r.n → ∃ g, fe = some ⟨g, 0, none⟩) := by
 obtain ⟨xs, az, _⟩ := h.cells b0;rcases az.2 with ⟨e, dn⟩ | ⟨g, cap, cur, e, _, _, e1, _⟩
 ·exact ⟨none, 0, by rw [e, dn], by omega, fun h => by omega⟩
 ·exact ⟨_, _, e, e1, fun _ => ⟨g, rfl⟩⟩
theorem QL {g n c z lo hi : Nat} (h1 : lo < hi) (h2 : hi ≤ c) : hg (.slice (some ⟨g, 0, none⟩) n c) z lo hi = .slice (some ((⟨g, 0, none⟩ : Addr).add (lo * z))) (hi - lo) (c - lo) := by
 unfold hg sliced;simp only;rw [if_neg (by omega)]; rfl
theorem k1.sound {av : ai} (h : k1 P R s.look o av) (aA : eL bp bU R s a w A ad) : ∃ v, (execOp a.eval o).run P w = .ok (.value v) w ∧ di (s.free A ad) ad w av v := by
 cases h with
 | len i r t z x hi b0 az aa aD =>
  obtain ⟨fe, c, e, _⟩ := (aA.rows i r hi).slice b0;have hv : a.eval x = r.v := (aA.rel.look aa).1;obtain ⟨el, eQ, hu, _, _⟩ := nc aD;have fr : P.underlying t = some (.slice (P.elem t)) := by rw [kL hu]; exact hu
  refine ⟨.int .i64 r.n, ?_, rfl, rfl⟩;have em : (#[x] : Array Operand).map a.eval = #[.slice fe r.n c] := by simp [hv, e]
  simp only [execOp, az, resolve, em, Sem.run_bind, Sem.run_pure, Result.andThen_ok, invoke, builtin];rw [run_len_slice w t _ fe r.n c fr];rfl
 | idx i r t x y ha j hi az aa ag aI h1 aD =>
  obtain ⟨fe, c, e, dO⟩ := (aA.rows i r hi).slice ((aA.rows i r hi).ok.pos (by omega));obtain ⟨g, rfl⟩ := dO (by omega);have hv : a.eval x = r.v := (aA.rel.look aa).1;have ae : a.eval y = .int ha j := (aA.rel.look ag).1;obtain ⟨el, eQ, hu, dq, hs⟩ := nc aD;refine ⟨jJ r.v (j.toNat * r.sz), ?_, rfl, by rw [e]; rfl⟩;rw [e] at hv ⊢;simp only [execOp, az, Instr.indexAt, hv, ae, asIntOf, Sem.run_bind, Sem.run_pure, Result.andThen_ok, run_underlying hu, hV dq, if_pos (And.intro aI h1), hs, jJ]
 | nU i r off t f im x hi aE az aa aD =>
  obtain ⟨fe, c, e, dO⟩ := (aA.rows i r hi).slice ((aA.rows i r hi).ok.pos (by omega));obtain ⟨g, rfl⟩ := dO aE;have hv : a.eval x = jJ r.v off := (aA.rel.look aa).1;rw [e] at hv ⊢;unfold tL at aD
  split at aD
  ·rename_i bm hu;cases au : bm[f]? with
   | none => rw [au] at aD; cases aD
   | some fd =>
    rw [au] at aD;simp only [kz] at aD;cases hi : P.info? fd.type with
    | none => rw [hi] at aD; cases aD
    | some eQ =>
     rw [hi] at aD;simp only [kz] at aD
     split at aD
     ·cases aD
     ·rename_i ck;cases aD;refine ⟨_, ?_, rfl, rfl⟩;simp only [execOp, az, Instr.fieldAt, hv, jJ, Instr.sureAddr, Sem.run_bind, Sem.run_pure, Result.andThen_ok, run_underlying hu, au, fieldPlace, hV hi, if_neg ck, ys]
  ·cases aD
 | load i r off lt x av hi aE az aa hv =>
  have dD := aA.rows i r hi;obtain ⟨fe, c, e, dO⟩ := dD.slice (dD.ok.pos aE);obtain ⟨g, rfl⟩ := dO aE;have Dn : a.eval x = jJ r.v off := (aA.rel.look aa).1;obtain ⟨xs, gY, ao⟩ := dD.cells (dD.ok.pos aE);obtain ⟨v, h1, h2⟩ := adE hv ao (gY.cells (g := g) (by rw [e]; rfl));rw [e] at Dn;refine ⟨v, ?_, h2⟩;simp only [execOp, az, Instr.loadAt, Dn, jJ, Instr.sureAddr, Sem.run_bind, Sem.run_pure, Result.andThen_ok, h1]
 | sl i r t lo hi x uQ td dq b0 az aa ao a6 h1 h2 aD =>
  obtain ⟨fe, c, e, e1, _⟩ := (aA.rows i r dq).ES b0;have hv : a.eval x = r.v := (aA.rel.look aa).1;rw [e] at hv;obtain ⟨el, eQ, hu, fq, hs⟩ := nc aD;have fr : P.underlying t = some (.slice (P.elem t)) := by rw [kL hu]; exact hu
  have n1 : (hg r.v r.sz lo hi).oneCell' = true := by rw [e]; rfl
  refine ⟨_, ?_, rfl, n1⟩;rw [e];rcases ao with ⟨rfl, rfl, ck⟩ | ⟨y, rfl, ag⟩
  ·rcases a6 with ⟨rfl, _⟩ | ⟨y, rfl, ag⟩
   ·exact absurd rfl ck
   ·have kM : a.eval y = .int .i64 hi := (aA.rel.look ag).1;simp only [execOp, az, hv, hD, sV, kM, Sem.run_bind, run_sliceAt_slice w t _ _ _ _ fr, run_slice_h w t fe r.n c fr .i64 hi (by omega) (by omega), kL hu, hV fq, Result.andThen_ok, hs, Sem.run_pure, kW, hg]
  ·have kM : a.eval y = .int .i64 lo := (aA.rel.look ag).1;rcases a6 with ⟨rfl, rfl⟩ | ⟨y', rfl, HU⟩
   ·simp only [execOp, az, hv, hD, sV, kM, Sem.run_bind, run_sliceAt_slice w t _ _ _ _ fr, run_slice_l w t fe r.n c fr .i64 lo (by omega) (by omega), kL hu, hV fq, Result.andThen_ok, hs, Sem.run_pure, kW, hg]
   ·have Wi : a.eval y' = .int .i64 hi := (aA.rel.look HU).1;simp only [execOp, az, hv, hD, sV, kM, Wi, Sem.run_bind, run_sliceAt_slice w t _ _ _ _ fr, run_slice_lh w t fe r.n c fr .i64 .i64 lo hi (by omega) (by omega) (by omega), kL hu, hV fq, Result.andThen_ok, hs, Sem.run_pure, kW, hg]
 | z7 i r t z lo hi x dq b0 az aa aD =>
  obtain ⟨fe, c, e, _, _⟩ := (aA.rows i r dq).ES b0;have hv : a.eval x = hg r.v r.sz lo hi := (aA.rel.look aa).1;obtain ⟨el, eQ, hu, _, _⟩ := nc aD;have fr : P.underlying t = some (.slice (P.elem t)) := by rw [kL hu]; exact hu
  refine ⟨.int .i64 ((hi - lo : Nat) : Int), ?_, rfl, rfl⟩;rw [e] at hv;unfold hg sliced at hv;simp only at hv;have em : (#[x] : Array Operand).map a.eval = #[.slice (if c = lo then fe else fe.map (·.add (lo * r.sz))) (hi - lo) (c - lo)] := by simp only [List.map_toArray, lp, List.map_nil, hv]
  simp only [execOp, az, resolve, em, Sem.run_bind, Sem.run_pure, Result.andThen_ok, invoke, builtin];rw [run_len_slice w t _ _ _ _ fr];rfl
 | zQ i r t lo hi x y ha j dq az aa ag aI h1 h2 aD =>
  obtain ⟨fe, c, e, e1, dO⟩ := (aA.rows i r dq).ES ((aA.rows i r dq).ok.pos (by omega));obtain ⟨g, rfl⟩ := dO (by omega);have hv : a.eval x = hg r.v r.sz lo hi := (aA.rel.look aa).1;have ae : a.eval y = .int ha j := (aA.rel.look ag).1;obtain ⟨el, eQ, hu, fq, hs⟩ := nc aD;rw [e, QL (by omega) (by omega)] at hv;refine ⟨jJ r.v ((lo + j.toNat) * r.sz), ?_, rfl, by rw [e]; rfl⟩;rw [e];simp only [execOp, az, Instr.indexAt, hv, ae, asIntOf, Sem.run_bind, Sem.run_pure, Result.andThen_ok, run_underlying hu, hV fq, if_pos (And.intro aI h1), hs, jJ, ys, kx]
theorem aeE (w : World) (tA AS ty elem : TypeId) (g o qM yN z : Nat) (a : Addr) (rA AR : Nat) (cur : Array Value) (t : TypeId) (cs : List Value)
  (hu : P.underlying tA = some (.slice elem)) (hs : (P.info? elem).map (·.size) = some z)
  (aw : w.heap[g]? = some (.cells cur t (0, 0))) (aE : cs.length = Nat.min rA qM * z)
  (HM : ∀ j v, cs[j]? = some v → w.cell? (a.add j) = some v) (xh : o + cs.length ≤ cur.size) (h1 : ∀ v ∈ cs, v.oneCell' = true) :
  (Builtin.copy_ #[tA, AS] ty #[.slice (some ⟨g, o, none⟩) qM yN, .slice (some a) rA AR]).run P w =
   .ok (goInt (Nat.min rA qM)) (w.setRow g (cur.toList.take o ++ cs ++ cur.toList.drop (o + cs.length)).toArray) := by
 have ao := run_loadCells_list (P := P) w a cs HM;have j1 := run_storeCells_at P g o t cs 0 cur w aw (by simpa using xh) h1;cases al : P.info? elem with
 | none => simp [al] at hs
 | some i =>
  have hi : i.size = z := by simpa [al] using hs
  simp [Builtin.copy_, run_underlying hu, Builtin.lenOf, Builtin.firstCells, sizeOf, typeInfo, al, hi, ← aE, ao, j1]
theorem aeD (w : World) (tA AS ty elem : TypeId) (d a : Option Addr) (qM yN rA AR z : Nat) (hu : P.underlying tA = some (.slice elem)) (hs : (P.info? elem).map (·.size) = some z) (aE : Nat.min rA qM = 0) :
  (Builtin.copy_ #[tA, AS] ty #[.slice d qM yN, .slice a rA AR]).run P w = .ok (goInt 0) w := by
 cases al : P.info? elem with
 | none => simp [al] at hs
 | some i =>
  have ao : ∀ (x : Addr), (loadCells x 0).run P w = .ok #[] w := fun x => by simpa using run_loadCells_list (P := P) w x [] (by simp)
  cases d <;> cases a <;> simp [Builtin.copy_, run_underlying hu, Builtin.lenOf, Builtin.firstCells, sizeOf, typeInfo, al, aE, storeCells, ao]
theorem afF {cur us : List Value} {off N : Nat} (h : off + us.length ≤ N) (kr : N ≤ cur.length) : (cur.take off ++ us ++ cur.drop (off + us.length)).take N = (cur.take N).take off ++ us ++ (cur.take N).drop (off + us.length) := by
 apply List.ext_getElem?;intro j;have t1 : (cur.take off).length = off := by rw [eI]; omega
 have t2 : ((cur.take N).take off).length = off := by rw [eI, eI]; omega
 by_cases ae : j < N
 ·rw [gm ae]
  by_cases q4 : j < off
  ·rw [jo, gG (by rw [t1]; exact q4), gm q4, jo, gG (by rw [t2]; exact q4), gm q4, gm ae]
  ·by_cases Dz : j < off + us.length
   ·rw [jo, gH (by omega), gG (by omega), jo, gH (by omega), gG (by omega), t1, t2]
   ·rw [gH (by simp only [dl, t1]; omega), gH (by simp only [dl, t2]; omega), gF, gF];simp only [dl, t1, t2];rw [gm (by omega)]
 ·rw [rk (by rw [eI]; omega), rk];simp only [dl, eI, jF];omega
abbrev BK : Value → Prop := fun v => v.oneCell' = true
def ja (v : Value) (z lo hi : Nat) (u : Value) : Prop := (∃ fe c, u = .slice fe (hi - lo) c) ∧ (lo < hi → ∃ g n c, v = .slice (some ⟨g, 0, none⟩) n c ∧ hi ≤ c ∧ u = .slice (some ⟨g, lo * z, none⟩) (hi - lo) (c - lo))
theorem BZ (g o k : Nat) : (⟨g, o, none⟩ : Addr).add k = ⟨g, o + k, none⟩ := by unfold Addr.add; split <;> simp_all
theorem ja.all {A : Option Addr} {n c : Nat} (z : Nat) (h1 : n ≤ c) (h2 : 0 < n → ∃ g, A = some ⟨g, 0, none⟩) : ja (.slice A n c) z 0 n (.slice A n c) :=
 ⟨⟨A, c, rfl⟩, fun h => by obtain ⟨g, rfl⟩ := h2 h; exact ⟨g, n, c, rfl, h1, by simp⟩⟩
theorem ja.sl {v u : Value} {z lo hi k m : Nat} (h : ja v z lo hi u) (hm : hi - lo = m) (af : k ≤ m) (ao : lo ≤ hi) : ja v z (lo + k) hi (hg u z k m) := by
 subst hm;obtain ⟨⟨fe, c, e⟩, h2⟩ := h;refine ⟨⟨_, _, by rw [e]; unfold hg sliced; rw [Nat.sub_sub]⟩, fun bj => ?_⟩;obtain ⟨g, n, c', aG, aq, aO⟩ := h2 (by omega);refine ⟨g, n, c', aG, aq, ?_⟩;rw [aO];unfold hg sliced;simp only;rw [if_neg (by omega), hD, BZ, Nat.sub_sub, Nat.sub_sub, kx]
theorem ja.aff {v u : Value} {z lo hi k : Nat} (h : ja v z lo hi u) (af : lo + k ≤ hi) : ja v z lo (lo + k) (hg u z 0 k) := by
 obtain ⟨⟨fe, c, e⟩, h2⟩ := h;refine ⟨⟨_, _, by rw [e]; unfold hg sliced; rw [show lo + k - lo = k - 0 by omega]⟩, fun bj => ?_⟩;obtain ⟨g, n, c', aG, aq, aO⟩ := h2 (by omega);refine ⟨g, n, c', aG, by omega, ?_⟩;rw [aO];unfold hg sliced;simp only;rw [if_neg (by omega), hD, BZ];simp
def Bs (R : aJ) (look : Operand → Option ai) (y : Operand) (z m : Nat) (news : List AC) : Prop :=
 look y = some (cU z m news) ∨ ∃ j q lo u, R j = some q ∧ q.sz = z ∧ look y = some (aR u) ∧ ja q.v z lo (lo + m) u ∧ lo + m ≤ q.n ∧ news = (q.aU.drop (lo * z)).take (m * z)
inductive k2 (P : Program) (R : aJ) (look : Operand → Option ai) (o : Oper) : (Value → aJ) → (Value → Prop) → Prop
 | u6 (i : Nat) (r : bQ) (tt bytes m : Nat) (jK ke : Operand) (news : List AC) (hi : R i = some r) (az : o.op = .call ⟨.builtin .append, #[jK, ke], #[tt, tt]⟩) (aD : vY P tt r.e r.sz bytes = true) (aa : look jK = some (aR r.v)) (ag : look ke = some (cU r.sz m news)) (h1 : r.n + m ≤ maxLen) (h2 : (r.n + m) * bytes ≤ 140737488355328) (ak : ∀ y ∈ news, y.ba = true) :
   k2 P R look o (fun aW => bS R i ⟨r.e, r.sz, aW, r.n + m, r.aU ++ news⟩) BK
 | new (i t n e sz bytes : Nat) (parts : List (Nat × Operand)) (vs : List Value) (zs : List (Nat × bK)) (r : List AC) (hi : R i = none) (az : o.op = .buildSlice t n parts.toArray) (aD : vY P t e sz bytes = true) (dP : xY P t = some vs) (aZ : nx look parts = some zs) (ab : qK (xN n sz) (ih n sz vs) zs = some r)
   (h1 : (vs.all fun v => v.oneCell') = true) (hs : vs.length = sz) (h2 : n * sz ≤ 16777216) (aq : n ≤ maxLen) (ap : r.length = n * sz) (cW : ∀ y ∈ r, y.ba = true) : k2 P R look o (fun aW => bS R i ⟨e, sz, aW, n, r⟩) BK
 | make (i t l c e sz bytes : Nat) (x y : Operand) (o0 qa : IntKind) (vs : List Value) (hi : R i = none) (az : o.op = .makeSlice t x y) (aD : vY P t e sz bytes = true) (dP : xY P t = some vs) (aa : look x = some (aR (.int o0 l))) (ag : look y = some (aR (.int qa c))) (ao : l ≤ c) (h1 : (vs.all fun v => v.oneCell') = true) (hs : vs.length = sz) (h2 : bytes * c ≤ 281474976710656) (aq : c ≤ maxLen) : k2 P R look o (fun aW => bS R i ⟨e, sz, aW, l, ih l sz vs⟩) BK
 | copy (i : Nat) (r : bQ) (tt t2 m lo hi : Nat) (x y : Operand) (news : List AC) (dq : R i = some r) (b0 : 0 < r.sz) (az : o.op = .call ⟨.builtin .copy, #[x, y], #[tt, t2]⟩) (aD : s7 P tt = some r.sz) (aa : (look x = some (aR r.v) ∧ lo = 0 ∧ hi = r.n) ∨ look x = some (aR (hg r.v r.sz lo hi)) ∨ ∃ u, look x = some (aR u) ∧ ja r.v r.sz lo hi u) (ag : Bs R look y r.sz m news) (h1 : lo ≤ hi) (h2 : hi ≤ r.n) (ak : ∀ y ∈ news, y.ba = true) :
   k2 P R look o (fun _ => bS R i ⟨r.e, r.sz, r.v, r.n, er r.aU (lo * r.sz) (news.take (Nat.min m (hi - lo) * r.sz))⟩) (fun aW => aW = .int .i64 ((Nat.min m (hi - lo) : Nat) : Int))
theorem Oj {look gE : Operand → Option ai} : ∀ (parts : List (Nat × Operand)), (∀ p ∈ parts, gE p.2 = look p.2) → nx gE parts = nx look parts
 | [], _ => rfl
 | (i, x) :: parts, h => by
  simp only [nx];rw [h (i, x) (by simp), Oj parts fun p hp => h p (by simp [hp])]
theorem k2.congr {look gE : Operand → Option ai} {f : Value → aJ} {iL : Value → Prop} (h : k2 P R look o f iL) (e : ∀ x ∈ o.op.operands, gE x = look x) : k2 P R gE o f iL := by
 cases h with
 | u6 i r tt bytes m jK ke news hi az aD aa ag h1 h2 ak =>
  exact .u6 i r tt bytes m jK ke news hi az aD (by rw [e jK (by simp [az, Op.operands, Call.operands])]; exact aa) (by rw [e ke (by simp [az, Op.operands, Call.operands])]; exact ag) h1 h2 ak
 | new i t n el sz bytes parts vs zs r hi az aD dP aZ ab h1 hs h2 aq ap cW =>
  refine .new i t n el sz bytes parts vs zs r hi az aD dP ?_ ab h1 hs h2 aq ap cW;rw [Oj parts fun p hp => e p.2 ?_]
  ·exact aZ
  ·simp only [az, Op.operands, List.mem_toArray, ix];exact ⟨p, hp, rfl⟩
 | make i t l c el sz bytes x y o0 qa vs hi az aD dP aa ag ao h1 hs h2 aq =>
  exact .make i t l c el sz bytes x y o0 qa vs hi az aD dP (by rw [e x (by simp [az, Op.operands])]; exact aa) (by rw [e y (by simp [az, Op.operands])]; exact ag) ao h1 hs h2 aq
 | copy i r tt t2 m lo hi x y news dq b0 az aD aa ag h1 h2 ak =>
  exact .copy i r tt t2 m lo hi x y news dq b0 az aD (by rw [e x (by simp [az, Op.operands, Call.operands])]; exact aa) (by unfold Bs; rw [e y (by simp [az, Op.operands, Call.operands])]; exact ag) h1 h2 ak
theorem bZ.append {U : Nat → Prop} {xs aU : List AC} {vs us : List Value} (h : bZ U ad w xs vs) (k : bZ U ad w aU us) : bZ U ad w (xs ++ aU) (vs ++ us) := by
 refine ⟨by rw [dl, dl, h.1, k.1], fun i x v aa hv => ?_⟩;rcases jn i xs.length with ao | ao
 ·rw [gG ao] at aa;rw [gG (by rw [← h.1]; exact ao)] at hv;exact h.2 i x v aa hv
 ·rw [gH ao] at aa;rw [gH (by rw [← h.1]; exact ao), ← h.1] at hv;exact k.2 _ x v aa hv
theorem eL.GN {i : Nat} {r : bQ} {w2 : World} {xs : List Value} (h : eL bp bU R s a w A ad) (iM : Option Nat) (hold : ∀ g, iM = some g → ∃ q, R i = some q ∧ q.own g) (b0 : 0 < r.sz) (jd : w.grownBy w2 iM)
  (ap : w2.ownsRow 0 r.e r.sz r.v r.n xs) (oL : ∀ g, r.v.ownBlock = some g → iM = some g ∨ w.heap.size ≤ g) (ao : bZ (s.free A ad) ad w r.aU xs) (ak : ∀ y ∈ r.aU, y.ba = true) :
  ∃ eA, eL bp bU (bS R i r) s a w2 eA ad := by
 have p5 : ∀ b, s.free A ad b → b < w.heap.size → w2.heap[b]? = w.heap[b]? := fun b ab h4 => jd.block b h4 fun e => by
  obtain ⟨q, al, aw⟩ := hold b e.symm;exact ((h.rows i q al).own b aw).1 ab.1
 have pZ : ∀ k cs, s.mem k = some cs → w2.heap[ad k]? = w.heap[ad k]? := fun k cs af => jd.block _ (h.rel.lt af) fun e => by
  obtain ⟨q, al, aw⟩ := hold _ e.symm;exact ((h.rows i q al).own _ aw).2 k cs af rfl
 have Xm : Rel (nV bp s ad w2) (fun b => (A b ∧ b < w.heap.size) ∨ (w2.heap.size ≤ b)) s ad a w2 :=
  h.rel.yz (fun b du h4 => ⟨.inl ⟨du, h4⟩, jd.block b h4 fun e => by
   obtain ⟨q, al, aw⟩ := hold b e.symm;exact ((h.rows i q al).own b aw).1 du⟩) (fun k cs af => ⟨pZ k cs af, fun au => au.2 k cs af rfl⟩) (kh.refl _) (fun b ab => .inr ab) (xb _ _ _)
 have jW : ∀ b, s.free A ad b → b < w.heap.size → s.free (fun b => (A b ∧ b < w.heap.size) ∨ w2.heap.size ≤ b) ad b ∧ w2.heap[b]? = w.heap[b]? := fun b ab h4 => ⟨⟨.inl ⟨ab.1, h4⟩, ab.2⟩, p5 b ab h4⟩
 have main : eL bp bU (bS R i r) s a w2 (fun b => (A b ∧ b < w.heap.size) ∨ w2.heap.size ≤ b) ad := by
  refine ⟨h.up, ?_, Xm, h.o3, ⟨jd.os.trans h.below.os, jd.tape.trans h.below.tape, jd.output.trans h.below.output, lT h.below.size jd.size, fun b au => ?_⟩, fun j q ae => ?_, fun j k q cK ae af ld g aw => ?_, fun j q g ae aw => ?_, h.kp⟩
  ·rintro b (ab | ab)
   ·exact h.sub b ab.1
   ·exact h.up b (by have := h.below.size; have := jd.size; omega)
  ·refine (jd.block b (uI (bp.lt b au) h.below.size) fun e => ?_).trans (h.below.block b au);obtain ⟨q, al, aw⟩ := hold b e.symm;exact (h.hot i q b al aw).1 au
  ·by_cases e : j = i
   ·subst e;rw [cy] at ae;cases ae;refine ⟨.inl ⟨b0, xs, ap, ao.wS ak jW⟩, ak, fun g aw => ?_⟩
    replace aw := bQ.o9 aw b0
    refine ⟨?_, fun k cs af => ?_⟩
    ·rintro (ab | ab)
     ·rcases oL g aw with q | q
      ·obtain ⟨p, hp, p7⟩ := hold g q;exact ((h.rows j p hp).own g p7).1 ab.1
      ·omega
     ·have := (ap.lt g aw).2; omega
    ·rcases oL g aw with q | q
     ·obtain ⟨p, hp, p7⟩ := hold g q;exact ((h.rows j p hp).own g p7).2 k cs af
     ·have := h.rel.lt af; omega
   ·rw [ca _ _ e] at ae;obtain ⟨lK, Nr, Ns⟩ := h.rows j q ae;refine ⟨lK.kept Nr (fun g aw => jd.block g (lK.lt aw) fun bz => ?_) jd.size jW, Nr, fun g aw => ⟨?_, (Ns g aw).2⟩⟩
    ·obtain ⟨p, hp, p7⟩ := hold g bz.symm;exact h.apart j i q p ae hp e g aw p7
    ·rintro (ab | ab)
     ·exact (Ns g aw).1 ab.1
     ·have := lK.lt aw; have := jd.size; omega
  ·have Pt : ∀ j q, R j = some q → ∀ g, q.own g → g < w.heap.size := fun j q ae g aw => (h.rows j q ae).ok.lt aw
   by_cases e : j = i
   ·subst e;rw [cy] at ae;cases ae;rw [ca _ _ (Ne.symm ld)] at af;intro eN;rcases oL g (bQ.o9 aw b0) with p | p
    ·obtain ⟨fU, hp, p7⟩ := hold g p;exact h.apart j k fU cK hp af ld g p7 eN
    ·have := Pt k cK af g eN; omega
   ·rw [ca _ _ e] at ae
    by_cases aO : k = i
    ·subst aO;rw [cy] at af;cases af;intro eN;rcases oL g (bQ.o9 eN b0) with p | p
     ·obtain ⟨fU, hp, p7⟩ := hold g p;exact h.apart j k q fU ae hp ld g aw p7
     ·have := Pt j q ae g aw; omega
    ·rw [ca _ _ aO] at af;exact h.apart j k q cK ae af ld g aw
  ·by_cases e : j = i
   ·subst e;rw [cy] at ae;cases ae;rcases oL g (bQ.o9 aw b0) with p | p
    ·obtain ⟨fU, hp, p7⟩ := hold g p;exact h.hot j fU g hp p7
    ·exact ⟨fun au => by have := bp.lt g au; have := h.below.size; omega, h.up g (by have := h.below.size; omega)⟩
   ·rw [ca _ _ e] at ae;exact h.hot j q g ae aw
 exact ⟨_, main⟩
theorem eL.grown {i : Nat} {r : bQ} {w2 : World} {xs : List Value} (h : eL bp bU R s a w A ad) (iM : Option Nat) (hold : ∀ g, iM = some g → ∃ q, R i = some q ∧ q.own g) (b0 : 0 < r.sz) (jd : w.grownBy w2 iM) (n1 : r.v.oneCell' = true)
  (ap : w2.ownsRow 0 r.e r.sz r.v r.n xs) (oL : ∀ g, r.v.ownBlock = some g → iM = some g ∨ w.heap.size ≤ g) (ao : bZ (s.free A ad) ad w r.aU xs) (ak : ∀ y ∈ r.aU, y.ba = true) {d : Nat} (hd : d < s.n) :
  ∃ eA, eL bp bU (bS R i r) (s.put (some d) (aR r.v)) (a.put (some d) r.v) w2 eA ad := by
 obtain ⟨eA, main⟩ := h.GN iM hold b0 jd ap oL ao ak;exact ⟨eA, main.put (d := some d) (fun d' e => by cases e; exact hd) ⟨rfl, n1⟩⟩
theorem cA.Gc {U : Nat → Prop} {z n : Nat} {xs : List AC} {v : Value} (h : di U ad w (cU z n xs) v) (aE : 0 < n) : ∃ b c vs, v = .slice (some b) n c ∧ n ≤ c ∧ xs.length = n * z ∧ (∀ (j : Nat) u, vs[j]? = some u → w.cell? (b.add j) = some u) ∧ bZ U ad w xs vs := by
 obtain ⟨⟨fe, c, e, ak, ao, dO⟩, dI⟩ := h;obtain ⟨b, vs, rfl, eg⟩ := dO aE;exact ⟨b, c, vs, e, ak, ao, eg.at_, eg.Je fun bT du => dI bT ⟨c, b, e, aE, du⟩⟩
theorem Bs.spec {y : Operand} {z m : Nat} {news : List AC} (h : Bs R s.look y z m news) (aZ : 0 < z) (aA : eL bp bU R s a w A ad) : (∃ uT yM, a.eval y = .slice uT m yM) ∧ news.length = m * z ∧
  (0 < m → ∃ b c vs, a.eval y = .slice (some b) m c ∧ (∀ (j : Nat) u, vs[j]? = some u → w.cell? (b.add j) = some u) ∧ bZ (s.free A ad) ad w news vs) := by
 rcases h with ag | ⟨j, q, lo, u, ae, rfl, ag, ⟨⟨fe, c, sd⟩, hu⟩, aE, rfl⟩
 ·have zN := aA.rel.look ag;obtain ⟨⟨uT, yM, ex, CZ, lf, Xp⟩, XF⟩ := id zN;refine ⟨⟨uT, yM, ex⟩, lf, fun hm => ?_⟩;obtain ⟨b, c, vs, tH, _, _, gr, p8⟩ := cA.Gc zN hm;exact ⟨b, c, vs, tH, gr, p8⟩
 ·have tH : a.eval y = u := (aA.rel.look ag).1;obtain ⟨xs, az, ao⟩ := (aA.rows j q ae).cells aZ;have ah1 : q.aU.length = q.n * q.sz := by rw [ao.1]; exact az.1
  have xh : lo * q.sz + m * q.sz ≤ q.n * q.sz := by rw [← kx]; exact ky _ aE
  refine ⟨⟨fe, c, by rw [tH, sd, Nat.add_sub_cancel_left]⟩, by rw [eI, jF]; omega, fun hm => ?_⟩;obtain ⟨g, n', c', aG, aq, aO⟩ := hu (by omega);refine ⟨⟨g, lo * q.sz, none⟩, _, (xs.drop (lo * q.sz)).take (m * q.sz), by rw [tH, aO, Nat.add_sub_cancel_left], fun i x aa => ?_, ao.sub _ _⟩
  have hi : i < m * q.sz := by
   have := (bV.1 aa).1;rw [eI] at this;omega
  rw [gm hi, gF] at aa;have := az.cells (g := g) (by rw [aG]; rfl) _ x aa;rw [BZ] at this ⊢;simpa using this
theorem k2.out {f : Value → aJ} {iL : Value → Prop} (h : k2 P R s.look o f iL) : ∃ aW, iL aW := by
 cases h with
 | copy => exact ⟨_, rfl⟩
 | _ => exact ⟨.bool false, rfl⟩
theorem k2.sound {f : Value → aJ} {iL : Value → Prop} {d : Nat} (h : k2 P R s.look o f iL) (aA : eL bp bU R s a w A ad) (hd : d < s.n) : ∃ aW w2 eA, (execOp a.eval o).run P w = .ok (.value aW) w2 ∧ iL aW ∧ eL bp bU (f aW) (s.put (some d) (aR aW)) (a.put (some d) aW) w2 eA ad := by
 cases h with
 | u6 i r tt bytes m jK ke news hi az aD aa ag h1 h2 ak =>
  obtain ⟨eQ, z, hu, fq, aZ, hN, lc, oV, b0⟩ := rz aD;obtain ⟨oO, n2, xr⟩ := aA.rows i r hi;obtain ⟨xs, jf, j0⟩ := oO.row b0;have jh : a.eval jK = r.v := (aA.rel.look aa).1;have Nu : r.v.oneCell' = true := (aA.rel.look aa).2;have zN := aA.rel.look ag;rcases vW m with rfl | Df
  ·obtain ⟨⟨uT, yM, ex, CZ, lf, Xp⟩, XF⟩ := zN;have lg : news = [] := by simpa using lf
   subst lg;refine ⟨r.v, w, A, ?_, Nu, ?_⟩
   ·rw [show (execOp a.eval o) = (do pure (.value (← Builtin.append_ #[tt, tt] o.type #[a.eval jK, a.eval ke])) : Sem Next) by
     simp only [execOp, az, resolve, invoke, builtin, List.map_toArray, lp, List.map_nil];rfl]
    simp only [Sem.run_bind];rw [jh, ex]
    obtain ⟨fe, cap, hv, e1⟩ : ∃ fe cap, r.v = .slice fe r.n cap ∧ r.n ≤ cap := by
     rcases jf.2 with ⟨e, dn⟩ | ⟨g, cap, cur, hv, qT, tX, e1, _⟩
     ·exact ⟨none, 0, by rw [e, dn], by omega⟩
     ·exact ⟨_, cap, hv, e1⟩
    rw [hv];cases fe with
    | none =>
     cases uT with
     | none => simp [Builtin.append_, run_underlying hu, sizeOf, typeInfo, fq, Builtin.lenOf, Builtin.firstCells, e1, storeCells]
     | some Ul => simp [Builtin.append_, run_underlying hu, sizeOf, typeInfo, fq, Builtin.lenOf, Builtin.firstCells, e1, storeCells, loadCells, loadCellsFrom]
    | some agn =>
     cases uT with
     | none => simp [Builtin.append_, run_underlying hu, sizeOf, typeInfo, fq, Builtin.lenOf, Builtin.firstCells, e1, storeCells]
     | some Ul => simp [Builtin.append_, run_underlying hu, sizeOf, typeInfo, fq, Builtin.lenOf, Builtin.firstCells, e1, storeCells, loadCells, loadCellsFrom]
   ·have e : bS R i ⟨r.e, r.sz, r.v, r.n + 0, r.aU ++ []⟩ = R := by
     funext j
     by_cases e : j = i
     ·subst e; rw [cy, hi]; simp
     ·rw [ca _ _ e]
    show eL bp bU (bS R i ⟨r.e, r.sz, r.v, r.n + 0, r.aU ++ []⟩) _ _ _ _ _;rw [e];exact aA.put (d := some d) (fun d' e => by cases e; exact hd) ⟨rfl, Nu⟩
  ·obtain ⟨b, c, vs, tH, CZ, lf, gr, p8⟩ := cA.Gc zN Df
   have n1 : ∀ u ∈ vs, u.oneCell' = true := fun u fr => by
    obtain ⟨j, ae⟩ := kw fr;have bj : j < news.length := by rw [p8.1]; exact (bV.1 ae).1
    exact (p8.2 j _ u (cl bj) ae).cell
   obtain ⟨aW, w2, gu, xo, jd, oL, M6⟩ := QV (P := P) w 0 tt o.type r.e eQ z r.sz bytes hu fq aZ hN lc oV b0 r.v r.n xs jf b m c vs (by rw [← p8.1]; exact lf) gr n1 h1 h2 (ez _) Df
   obtain ⟨eA, cE⟩ := aA.grown (i := i) (r := ⟨r.e, r.sz, aW, r.n + m, r.aU ++ news⟩) r.v.ownBlock (fun g aw => ⟨r, hi, .inl aw⟩) b0 jd M6 xo oL (j0.append p8) (fun y ag => by
    rcases ms.1 ag with h | h
    ·exact n2 y h
    ·exact ak y h) hd
   refine ⟨aW, w2, eA, ?_, M6, cE⟩;have YX : (Builtin.append_ #[tt, tt] o.type #[a.eval jK, a.eval ke]).run P w = .ok aW w2 := by rw [jh, tH]; exact gu
   simp only [execOp, az, resolve, invoke, builtin, Sem.run_bind, Sem.run_pure, Result.andThen_ok, List.map_toArray, lp, List.map_nil, YX]
 | new i t n e sz bytes parts vs zs r hi az aD dP aZ ab h1 hs h2 aq ap cW =>
  obtain ⟨eQ, z, hu, fq, hP, hN, lc, oV, b0⟩ := rz aD;unfold xY at dP;rw [hu] at dP;simp only at dP;unfold zeroOf at dP;rw [fq] at dP;simp only [kz] at dP;rw [hP] at dP;cases dP;have hlen : z.cells.toList.length = sz := hs;have sD : (zeroValue e).run P w = .ok z w := by simp [zeroValue, typeInfo, program, Sem.run_bind, Sem.run, fq, Result.andThen, hP]
  have j0 : bZ (s.free A ad) ad w (ih n sz z.cells.toList) ((List.range (n * sz)).map fun j => z.cells[j % z.cells.size]!) := by
   refine ⟨by simp [ih], fun j x v aa hv => ?_⟩;have ae : j < n * sz := by have := (bV.1 hv).1; simpa using this
   simp only [ih, eJ, List.getElem?_range ae, hD, ib] at aa hv;subst aa; subst hv;have bj : j % z.cells.size < z.cells.size := Nat.mod_lt _ (by omega);have aO : z.cells.toList.toArray[j % z.cells.toList.length]! = z.cells[j % z.cells.size]! := by simp
   refine ⟨aO.symm, ?_⟩;rw [aO, getElem!_pos z.cells _ bj];exact cC.1 h1 _ (by simp)
  obtain ⟨us, g1, g2⟩ := y2 (U := s.free A ad) (ad := ad) (W := w) (ps := xN n sz) (place := fun i => some (i * sz, sz)) (fun i q al => by
    simp only [xN, eJ] at al;cases ap : (List.range n)[i]? with
    | none => rw [ap] at al; cases al
    | some m =>
     rw [ap] at al;cases al;have := bV.1 ap;obtain ⟨aq, aK⟩ := this;simp at aK;rw [aK]) (look := s.look) (env := a.eval) parts _ _ zs r j0 aZ (fun p hp av aL => aA.rel.look aL) ab
  have xu : us.length = n * sz := by rw [← g2.1]; exact ap
  have gu : (execOp a.eval o).run P w = .ok (.value (.slice (some ⟨w.heap.size, 0, none⟩) n n)) (w.alloc (.cells us.toArray e)) := by
   have ub : (parts.toArray.map fun (i, x) => (i, a.eval x)).toList = parts.map fun p => (p.1, a.eval p.2) := by simp
   have cz : (Array.range (n * sz)).map (fun j => z.cells[j % z.cells.size]!) = ((List.range (n * sz)).map fun j => z.cells[j % z.cells.size]!).toArray := by simp [← List.toArray_range]
   simp only [execOp, az, Instr.buildSlice, Sem.run_bind, run_underlying hu, Result.andThen_ok, hV fq, hN];rw [if_neg (by omega)]
   by_cases aI : n * sz = 0
   ·rw [if_pos aI];have eX : (Array.range (n * sz)).map (fun j => (#[] : Array Value)[j % (#[] : Array Value).size]!) = ((List.range (n * sz)).map fun j => z.cells[j % z.cells.size]!).toArray := by rw [aI]; simp
    simp only [Sem.run_bind, Sem.run_pure, Result.andThen_ok, eX, ub, g1, newRow, newObj, Sem.run];rfl
   ·rw [if_neg aI];simp only [Sem.run_bind, Sem.run_pure, sD, Result.andThen_ok, cz, ub, g1, newRow, newObj, Sem.run];rfl
  have Hz : (w.alloc (.cells us.toArray e)).heap[w.heap.size]? = some (.cells us.toArray e (0, 0)) := by show (w.heap.push _)[w.heap.size]? = _; simp
  obtain ⟨eA, cE⟩ := aA.grown (i := i) (r := ⟨e, sz, .slice (some ⟨w.heap.size, 0, none⟩) n n, n, r⟩) (xs := us) none (fun g aw => by cases aw) b0 (World.grownBy_alloc w _ none) rfl ⟨xu, .inr ⟨w.heap.size, n, us.toArray, rfl, ez _, Hz, dU _, aq, by simpa using xu, by simp [← xu]⟩⟩ (fun g aw => by simp [Value.ownBlock] at aw; exact .inr (by omega)) g2 cW hd;exact ⟨_, _, eA, gu, rfl, cE⟩
 | make i t l c e sz bytes x y o0 qa vs hi az aD dP aa ag Hr h1 hs h2 aq =>
  obtain ⟨eQ, z, hu, fq, hP, hN, lc, oV, b0⟩ := rz aD;unfold xY at dP;rw [hu] at dP;simp only at dP;unfold zeroOf at dP;rw [fq] at dP;simp only [kz] at dP;rw [hP] at dP;cases dP;have hlen : z.cells.toList.length = sz := hs;have Yy : z.cells.size = sz := by simpa using hlen
  have Dn : a.eval x = .int o0 l := (aA.rel.look aa).1;have Zc : a.eval y = .int qa c := (aA.rel.look ag).1;have Xl : (c : Int) ≤ 9223372036854775807 := by have h := aq; simp only [maxLen] at h; omega
  have du : (eQ.bytes : Int) * (c : Int) ≤ 281474976710656 := by
   have h : ((eQ.bytes * c : Nat) : Int) ≤ 281474976710656 := by rw [lc]; omega
   rwa [Int.natCast_mul] at h
  have ap := run_make (P := P) w t e eQ z hu fq hP o0 qa l c (by omega) (by omega) du Xl;simp only [kW, hN] at ap
  have gu : (execOp a.eval o).run P w = .ok (.value (.slice (some ⟨w.heap.size, 0, none⟩) l c)) (w.alloc (.cells (madeCells z.cells (c * sz)) e)) := by
   simp only [execOp, az, Dn, Zc, Sem.run_bind, ap, Result.andThen_ok, Sem.run_pure]
  have Hz : (w.alloc (.cells (madeCells z.cells (c * sz)) e)).heap[w.heap.size]? = some (.cells (madeCells z.cells (c * sz)) e (0, 0)) := by show (w.heap.push _)[w.heap.size]? = _; simp
  have hmul : l * sz ≤ c * sz := ky _ Hr;have Np : (madeCells z.cells (c * sz)).size = c * sz := size_madeCells _ _
  have HO : ((madeCells z.cells (c * sz)).toList.take (l * sz)).length = l * sz := by
   rw [eI, Array.length_toList, Np]; exact qh hmul
  have j0 : bZ (s.free A ad) ad w (ih l sz z.cells.toList) ((madeCells z.cells (c * sz)).toList.take (l * sz)) := by
   refine ⟨by rw [HO]; simp [ih], fun j x v aa hv => ?_⟩;have ae : j < l * sz := by have := (bV.1 hv).1; rw [HO] at this; exact this
   rw [gm ae] at hv;simp only [ih, eJ, List.getElem?_range ae, hD, ib] at aa;subst aa;have bj : j % z.cells.size < z.cells.size := Nat.mod_lt _ (by omega);have aO : z.cells.toList.toArray[j % z.cells.toList.length]! = z.cells[j % z.cells.size]! := by simp
   have nv : v = z.cells[j % z.cells.size]! := by
    have : (madeCells z.cells (c * sz)).toList[j]? = some z.cells[j % z.cells.size]! := by
     simp only [madeCells, Array.toList_map, eJ];rw [show (Array.range (c * sz)).toList[j]? = some j by rw [Array.toList_range, List.getElem?_range (uI ae hmul)]];rfl
    rw [this] at hv;exact (mY hv).symm
   refine ⟨by rw [aO]; exact nv, ?_⟩;rw [aO, getElem!_pos z.cells _ bj];exact cC.1 h1 _ (by simp)
  obtain ⟨eA, cE⟩ := aA.grown (i := i) (r := ⟨e, sz, .slice (some ⟨w.heap.size, 0, none⟩) l c, l, ih l sz z.cells.toList⟩) none (fun g aw => by cases aw) b0 (World.grownBy_alloc w _ none) rfl ⟨HO, .inr ⟨w.heap.size, c, _, rfl, ez _, Hz, Hr, aq, Np, rfl⟩⟩ (fun g aw => by simp [Value.ownBlock] at aw; exact .inr (by omega)) j0 (fun y ag => by simp only [ih, ix] at ag; obtain ⟨j, _, rfl⟩ := ag; rfl) hd;exact ⟨_, _, eA, gu, rfl, cE⟩
 | copy i r tt t2 m lo hi x y news dq b0 az aD aa ag h1 h2 ak =>
  obtain ⟨el, eQ, hu, fq, hs⟩ := nc aD;have Dj : (P.info? el).map (·.size) = some r.sz := by rw [fq]; simp [hs]
  obtain ⟨oO, n2, xr⟩ := aA.rows i r dq;obtain ⟨xs, jf, j0⟩ := oO.row b0
  have hex : ∀ D S v2 w2, a.eval x = D → a.eval y = S → (Builtin.copy_ #[tt, t2] o.type #[D, S]).run P w = .ok v2 w2 → (execOp a.eval o).run P w = .ok (.value v2) w2 := fun D S v2 w2 aG aO cz => by
   subst aG aO;simp only [execOp, az, resolve, invoke, builtin, Sem.run_bind, Sem.run_pure, Result.andThen_ok, List.map_toArray, lp, List.map_nil, cz]
  obtain ⟨⟨uT, yM, ex⟩, MZ, mf⟩ := ag.spec b0 aA;have oT : r.aU.length = r.n * r.sz := by rw [j0.1]; exact jf.1
  rcases vW (Nat.min m (hi - lo)) with af | af
  ·obtain ⟨fe, Gl, jw, kN, C0⟩ : ∃ fe Gl jw, a.eval x = .slice fe Gl jw ∧ Gl = hi - lo := by
    obtain ⟨fe, c, e, _, _⟩ := (aA.rows i r dq).ES b0;rcases aa with ⟨aa, rfl, rfl⟩ | aa | ⟨u, aa, ⟨⟨RU, Vc, sd⟩, _⟩⟩
    ·exact ⟨fe, r.n, c, by rw [(aA.rel.look aa).1, e], by omega⟩
    ·have al : a.eval x = hg r.v r.sz lo hi := (aA.rel.look aa).1;rw [e] at al;unfold hg sliced at al;exact ⟨_, _, _, al, rfl⟩
    ·exact ⟨RU, _, Vc, by rw [(aA.rel.look aa).1, sd], rfl⟩
   subst C0;refine ⟨goInt 0, w, A, hex _ _ _ _ kN ex (aeD w tt t2 o.type el _ _ _ _ _ _ r.sz hu Dj af), by rw [af]; rfl, ?_⟩
   have e : bS R i ⟨r.e, r.sz, r.v, r.n, er r.aU (lo * r.sz) (news.take (Nat.min m (hi - lo) * r.sz))⟩ = R := by
    rw [af];funext j
    by_cases e : j = i
    ·subst e; rw [cy, dq]; simp [er]
    ·rw [ca _ _ e]
   rw [e];exact aA.put (d := some d) (fun d' e => by cases e; exact hd) ⟨rfl, rfl⟩
  ·have Yu : Nat.min m (hi - lo) ≤ m := Nat.min_le_left _ _;have ahR : Nat.min m (hi - lo) ≤ hi - lo := Nat.min_le_right _ _;obtain ⟨b, c, vs, tH, gr, p8⟩ := mf (by omega)
   obtain ⟨g, cap, cur, hv, qT, tX, e1, jV, eg, n3⟩ : ∃ g cap cur, r.v = .slice (some ⟨g, 0, none⟩) r.n cap ∧ 0 ≤ g ∧ w.heap[g]? = some (.cells cur r.e (0, 0)) ∧ r.n ≤ cap ∧ cap ≤ maxLen ∧ cur.size = cap * r.sz ∧ cur.toList.take (r.n * r.sz) = xs := by
    rcases jf.2 with ⟨_, aI⟩ | h
    ·omega
    ·exact h
   obtain ⟨jw, kN⟩ : ∃ jw, a.eval x = .slice (some ⟨g, lo * r.sz, none⟩) (hi - lo) jw := by
    rcases aa with ⟨aa, rfl, rfl⟩ | aa | ⟨u, aa, ⟨_, hu⟩⟩
    ·exact ⟨cap, by rw [(aA.rel.look aa).1, hv]; simp⟩
    ·refine ⟨cap - lo, ?_⟩;rw [(aA.rel.look aa).1, hv, QL (by omega) (by omega)];have kP : (⟨g, 0, none⟩ : Addr).add (lo * r.sz) = ⟨g, lo * r.sz, none⟩ := by unfold Addr.add; split <;> simp_all
     rw [kP]
    ·obtain ⟨jx, n', c', aG, _, aO⟩ := hu (by omega);rw [hv] at aG;cases aG;exact ⟨_, by rw [(aA.rel.look aa).1, aO]⟩
   generalize nY : Nat.min m (hi - lo) = k at *;have ahS : k * r.sz ≤ m * r.sz := ky _ Yu;have mO : (vs.take (k * r.sz)).length = k * r.sz := by rw [eI, ← p8.1, MZ]; omega
   have gX : (news.take (k * r.sz)).length = k * r.sz := by rw [eI, MZ]; omega
   have MP : lo * r.sz + k * r.sz ≤ r.n * r.sz := by rw [← kx]; exact ky _ (by omega)
   have hmul : r.n * r.sz ≤ cap * r.sz := ky _ e1
   have Na : bZ (s.free A ad) ad w (news.take (k * r.sz)) (vs.take (k * r.sz)) := by
    have := p8.sub 0 (k * r.sz);simpa using this
   have n1 : ∀ u ∈ vs.take (k * r.sz), u.oneCell' = true := fun u fr => by
    obtain ⟨j, ae⟩ := kw fr;have bj : j < (news.take (k * r.sz)).length := by rw [gX, ← mO]; exact (bV.1 ae).1
    exact (Na.2 j _ u (cl bj) ae).cell
   have gu := aeE (P := P) w tt t2 o.type el g (lo * r.sz) (hi - lo) jw r.sz b m c cur r.e (vs.take (k * r.sz)) hu Dj tX (by rw [mO, nY]) (fun j v ae => gr j v (by
    have ao : j < k * r.sz := by rw [← mO]; exact (bV.1 ae).1
    rwa [gm ao] at ae)) (by rw [mO]; omega) n1
   rw [nY] at gu
   have vA : ∀ (u : Array Value), w.grownBy (w.setRow g u) (some g) := fun u => ⟨rfl, rfl, rfl, by simp [World.setRow], fun k _ af => by
    simp only [World.setRow, uG];rw [if_neg (fun e => af (by rw [e]))]⟩
   have nu := setRow_heap w g cur (cur.toList.take (lo * r.sz) ++ vs.take (k * r.sz) ++ cur.toList.drop (lo * r.sz + (vs.take (k * r.sz)).length)).toArray r.e (0, 0) tX;have cW : cur.toList.length = cap * r.sz := by rw [Array.length_toList]; exact eg
   have hlen : (cur.toList.take (lo * r.sz) ++ vs.take (k * r.sz) ++ cur.toList.drop (lo * r.sz + (vs.take (k * r.sz)).length)).length = cap * r.sz := by
    rw [dl, dl, mO, eI, jF, cW]; omega
   have hO := afF (cur := cur.toList) (us := vs.take (k * r.sz)) (off := lo * r.sz) (N := r.n * r.sz) (by rw [mO]; exact MP) (by rw [cW]; exact hmul);rw [n3] at hO
   obtain ⟨eA, cE⟩ := aA.GN (i := i) (r := ⟨r.e, r.sz, r.v, r.n, er r.aU (lo * r.sz) (news.take (k * r.sz))⟩) (w2 := w.setRow g (cur.toList.take (lo * r.sz) ++ vs.take (k * r.sz) ++ cur.toList.drop (lo * r.sz + (vs.take (k * r.sz)).length)).toArray) (xs := xs.take (lo * r.sz) ++ vs.take (k * r.sz) ++ xs.drop (lo * r.sz + (vs.take (k * r.sz)).length)) (some g) (fun jx eN => by cases eN; exact ⟨r, dq, .inl (by rw [hv]; rfl)⟩) b0 (vA _)
    ⟨by rw [← hO, eI, hlen]; exact qh hmul, .inr ⟨g, cap, _, hv, qT, nu, e1, jV, by simpa using hlen, by simpa using hO⟩⟩ (fun jx eN => by rw [hv] at eN; simp [Value.ownBlock] at eN; exact .inl (by rw [eN])) (j0.er Na (lo * r.sz) (by rw [gX, oT]; exact MP)) (fun q al => by
     unfold er at al;simp only [ms] at al;rcases al with (h1 | h1) | h1
     ·exact n2 q (qd h1)
     ·exact ak q (qd h1)
     ·exact n2 q (ob h1))
   exact ⟨goInt (k : Int), _, eA, hex _ _ _ _ kN tH gu, rfl, cE.put (d := some d) (fun d' e => by cases e; exact hd) ⟨rfl, rfl⟩⟩
inductive tg (P : Program) (R : aJ) (look : Operand → Option ai) (o : Oper) : aJ → Prop
 | store (i : Nat) (r : bQ) (off ty : Nat) (x y : Operand) (z : bK) (eQ : TypeInfo) (hi : R i = some r) (aE : 0 < r.n) (az : o.op = .store ty x y) (aa : look x = some (aR (jJ r.v off))) (ag : look y = some (.w z)) (aD : P.info? ty = some eQ) (hs : eQ.size = z.cells.length) (ab : off + z.cells.length ≤ r.aU.length) (ak : ∀ q ∈ z.cells, q.ba = true) : tg P R look o (bS R i ⟨r.e, r.sz, r.v, r.n, er r.aU off z.cells⟩)
theorem tg.sound {aB : aJ} (h : tg P R s.look o aB) (aA : eL bp bU R s a w A ad) : ∃ w2 eA, (execOp a.eval o).run P w = .ok .skip w2 ∧ eL bp bU aB s a w2 eA ad := by
 cases h with
 | store i r off ty x y z eQ hi aE az aa ag aD hs ab ak =>
  obtain ⟨oO, n2, xr⟩ := aA.rows i r hi;have b0 := oO.pos aE;obtain ⟨xs, jf, j0⟩ := oO.row b0
  obtain ⟨g, cap, cur, hv, qT, tX, e1, jV, eg, n3⟩ : ∃ g cap cur, r.v = .slice (some ⟨g, 0, none⟩) r.n cap ∧ 0 ≤ g ∧ w.heap[g]? = some (.cells cur r.e (0, 0)) ∧ r.n ≤ cap ∧ cap ≤ maxLen ∧ cur.size = cap * r.sz ∧ cur.toList.take (r.n * r.sz) = xs := by
   rcases jf.2 with ⟨_, aI⟩ | h
   ·omega
   ·exact h
  have hp : a.eval x = .pointer (some ⟨g, off, none⟩) := by
   have := (aA.rel.look aa).1;rw [hv] at this;have kP : (⟨g, 0, none⟩ : Addr).add off = ⟨g, off, none⟩ := by unfold Addr.add; split <;> simp_all
   rw [this]; simp only [jJ, kP]
  have aZ : gS (s.free A ad) ad w z (a.eval y) := aA.rel.look ag;have oU := aZ.cells;have vE : (a.eval y).cells.size = z.cells.length := by have := oU.1; simp at this; exact this.symm
  have oT : r.aU.length = r.n * r.sz := by rw [j0.1]; exact jf.1
  have hmul : r.n * r.sz ≤ cap * r.sz := ky _ e1
  have j1 : (storeVar ty ⟨g, off, none⟩ (a.eval y)).run P w = .ok () (w.setRow g (cur.toList.take off ++ (a.eval y).cells.toList ++ cur.toList.drop (off + (a.eval y).cells.toList.length)).toArray) := by
   unfold storeVar;have ck : ¬ ((a.eval y).cells.size ≠ eQ.size) := by rw [vE, hs]; simp
   simp only [Sem.run_bind, hV aD, Result.andThen_ok, if_neg ck]
   have dp : ∀ v ∈ (a.eval y).cells.toList, v.oneCell' = true := fun v b8 => by
    obtain ⟨j, ae⟩ := kw b8;have bj : j < z.cells.length := by rw [oU.1]; exact (bV.1 ae).1
    exact (oU.2 j _ v (cl bj) ae).cell
   have := run_storeCells_at (P := P) g off r.e (a.eval y).cells.toList 0 cur w tX (by simp; omega) dp;simpa using this
  have vA : ∀ (u : Array Value), w.grownBy (w.setRow g u) (some g) := fun u => ⟨rfl, rfl, rfl, by simp [World.setRow], fun k _ af => by
   simp only [World.setRow, uG];rw [if_neg (fun e => af (by rw [e]))]⟩
  have nu := setRow_heap w g cur (cur.toList.take off ++ (a.eval y).cells.toList ++ cur.toList.drop (off + (a.eval y).cells.toList.length)).toArray r.e (0, 0) tX
  have hlen : (cur.toList.take off ++ (a.eval y).cells.toList ++ cur.toList.drop (off + (a.eval y).cells.toList.length)).length = cap * r.sz := by
   simp [vE]; omega
  have hO : (cur.toList.take off ++ (a.eval y).cells.toList ++ cur.toList.drop (off + (a.eval y).cells.toList.length)).take (r.n * r.sz) = xs.take off ++ (a.eval y).cells.toList ++ xs.drop (off + (a.eval y).cells.toList.length) := by
   have Nx : (a.eval y).cells.toList.length = z.cells.length := by simpa using vE
   rw [← n3];apply List.ext_getElem?;intro j
   by_cases ae : j < r.n * r.sz
   ·rw [gm ae]
    by_cases q4 : j < off
    ·rw [jo, gG (by simp; omega), gm q4, jo, gG (by simp; omega), gm q4, gm ae]
    ·have t1 : (cur.toList.take off).length = off := by simp; omega
     have t2 : ((cur.toList.take (r.n * r.sz)).take off).length = off := by simp; omega
     by_cases Dz : j < off + z.cells.length
     ·rw [jo, gH (by omega), gG (by omega), jo, gH (by omega), gG (by omega), t1, t2]
     ·rw [gH (by simp only [dl, t1]; omega), gH (by simp only [dl, t2]; omega), gF, gF];simp only [dl, t1, t2, Nx];rw [gm (by omega)]
   ·rw [rk (by simp; omega), rk];simp only [dl, eI, jF, Nx];have : cur.toList.length = cap * r.sz := by simpa using eg
    omega
  obtain ⟨eA, cE⟩ := aA.GN (i := i) (r := ⟨r.e, r.sz, r.v, r.n, er r.aU off z.cells⟩) (w2 := w.setRow g (cur.toList.take off ++ (a.eval y).cells.toList ++ cur.toList.drop (off + (a.eval y).cells.toList.length)).toArray) (xs := xs.take off ++ (a.eval y).cells.toList ++ xs.drop (off + (a.eval y).cells.toList.length)) (some g) (fun jx eN => by cases eN; exact ⟨r, hi, .inl (by rw [hv]; rfl)⟩) b0 (vA _)
   ⟨by simp [vE]; have := jf.1; omega, .inr ⟨g, cap, _, hv, qT, nu, e1, jV, by simpa using hlen, by simpa using hO⟩⟩ (fun jx eN => by rw [hv] at eN; simp [Value.ownBlock] at eN; exact .inl (by rw [eN])) (j0.er oU off ab) (fun q al => by
    unfold er at al;simp only [ms] at al;rcases al with (h1 | h1) | h1
    ·exact n2 q (qd h1)
    ·exact ak q h1
    ·exact n2 q (ob h1))
  refine ⟨_, eA, ?_, cE⟩;simp only [execOp, az, Instr.storeAt, hp, Instr.sureAddr, Sem.run_bind, Sem.run_pure, Result.andThen_ok, j1]
end
end Go.Proofs.YtpochbhajmbfdaaGreat
