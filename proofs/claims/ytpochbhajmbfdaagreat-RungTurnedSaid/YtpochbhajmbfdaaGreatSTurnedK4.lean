/-
  My own texts, without what this claim does not need. My own text.
-/
import Derived.Laws.AppendOwn
import Derived.Laws.MakeOwn
import Derived.Laws.Slices
import Derived.Test.YtpochbhajmbfdaaGreatSTurnedK3
set_option maxRecDepth 100000
set_option maxHeartbeats 64000000
set_option linter.unusedVariables false
set_option linter.unusedSimpArgs false
set_option linter.unusedSectionVars false
open Go.Proofs.Tryz renaming prog → aj
namespace Go.Proofs.YtpochbhajmbfdaaGreat
open Go.RowKit
def ud (n : Int) : Bool := decide (-536870912 ≤ n) && decide (n ≤ 536870912)
theorem M2 {n : Int} : ud n = true ↔ -536870912 ≤ n ∧ n ≤ 536870912 := by unfold ud; rw [eh, cL, cL]
def ev (x y : Int) : Bool := ud x && ud y
theorem Rx {x y : Int} : ev x y = true ↔ (-536870912 ≤ x ∧ x ≤ 536870912) ∧ -536870912 ≤ y ∧ y ≤ 536870912 := by unfold ev; rw [eh, M2, M2]
theorem QQ {n : Int} {b : Bool} (ab : ud n = b) : aY aj 273 [aR n] (bG b) := by
 have cs : (-536870912 ≤ n ∧ n ≤ 536870912 ∧ b = true) ∨ (-536870912 ≤ n ∧ ¬ n ≤ 536870912 ∧ b = false) ∨ (¬ -536870912 ≤ n ∧ b = false) := by
  rw [← ab]; unfold ud
  by_cases h1 : -536870912 ≤ n <;> by_cases h2 : n ≤ 536870912 <;> simp [h1, h2]
 clear ab;rcases cs with ⟨h1, h2, rfl⟩ | ⟨h1, h2, rfl⟩ | ⟨h1, rfl⟩
 all_goals
  refine cq (f := 273) Tryz.func273 rfl rfl rfl rfl ?_;(repeat first | (with_reducible apply az); exact rfl | (with_reducible apply dO (c := true)); exact rfl; exact rfl; (exact bF (by omega)) | (with_reducible apply dO (c := false)); exact rfl; exact rfl; (exact b5 (by omega)) | (with_reducible first | apply bQ | apply bI | apply bO | apply aA | apply cf))
  ((refine bY rfl (bD rfl bf) ?_))
  first | exact ai.bo.refl _ | exact ai.bo.of_eq (by rw [bF h2]; rfl) | exact ai.bo.of_eq (by rw [b5 h2]; rfl)
theorem td {x y : Int} {b : Bool} (ab : ev x y = b) : aY aj 243 [bi x y] (bG b) := by
 have aP := QQ (n := x) rfl;have b6 := QQ (n := y) rfl;unfold ev at ab;cases q1 : ud x <;> cases q2 : ud y <;> rw [q1] at aP <;> rw [q2] at b6 <;> rw [q1, q2] at ab <;> subst ab <;> clear q1 q2
 all_goals
  refine cq (f := 243) Tryz.func243 rfl rfl rfl rfl ?_;(repeat first | (with_reducible apply az); exact rfl | refine e2 rfl rfl rfl (by (first | exact aP | exact b6)) rfl ?_ | (with_reducible first | apply bQ | apply bI | apply bO | apply aA | apply cf))
  ((refine bY rfl (bD rfl bf) ?_))
  exact ai.bo.refl _
def ct (o1 o2 a1 a2 b1 b2 : Int) : Int := (a1 - o1) * (b2 - o2) - (a2 - o2) * (b1 - o1)
theorem Jv {x y A B : Int} (h1 : -A ≤ x) (h2 : x ≤ A) (ao : -B ≤ y) (aH : y ≤ B) : -(A * B) ≤ x * y ∧ x * y ≤ A * B := by
 have aa : x.natAbs ≤ A.natAbs := by omega
 have ag : y.natAbs ≤ B.natAbs := by omega
 have h := Nat.mul_le_mul aa ag;rw [← Int.natAbs_mul, ← Int.natAbs_mul] at h;have ej : 0 ≤ A * B := il (by omega) (by omega);omega
theorem PX {x y : Int} (h1 : -1073741824 ≤ x) (h2 : x ≤ 1073741824) (ao : -1073741824 ≤ y) (aH : y ≤ 1073741824) : -1152921504606846976 ≤ x * y ∧ x * y ≤ 1152921504606846976 := by
 have := Jv h1 h2 ao aH;omega
theorem QN {o1 o2 a1 a2 b1 b2 : Int} (aB : ev o1 o2 = true) (aI : ev a1 a2 = true) (ab : ev b1 b2 = true) : aY aj 218 [bi o1 o2, bi a1 a2, bi b1 b2] (aR (ct o1 o2 a1 a2 b1 b2)) := by
 have bl := td aB;have eZ := td aI;have ko := td ab;rw [Rx] at aB aI ab;have m1 := PX (x := a1 - o1) (y := b2 - o2) (by omega) (by omega) (by omega) (by omega);have m2 := PX (x := a2 - o2) (y := b1 - o1) (by omega) (by omega) (by omega) (by omega);refine cq (f := 218) Tryz.func218 rfl rfl rfl rfl ?_;(repeat first | (with_reducible apply az); exact rfl | (with_reducible apply nx); (iterate 3 exact rfl); (exact cZ (by omega)); exact rfl | (with_reducible apply sj); (iterate 3 exact rfl); (exact cZ (by omega)); exact rfl | refine e2 rfl rfl rfl (by (first | exact bl | exact eZ | exact ko)) rfl ?_ | (with_reducible first | apply bQ | apply bI | apply bO | apply aA | apply cf | apply e3) | (with_reducible apply ib); exact rfl)
 ((refine bY rfl (bD rfl bf) ?_))
 exact ai.bo.refl _
theorem adH {o1 o2 a1 a2 b1 b2 : Int} (h : (ev o1 o2 && ev a1 a2 && ev b1 b2) = false) : aY aj 218 [bi o1 o2, bi a1 a2, bi b1 b2] (aR 0) := by
 have bl := td (x := o1) (y := o2) rfl;have eZ := td (x := a1) (y := a2) rfl;have ko := td (x := b1) (y := b2) rfl
 have cs : ev o1 o2 = false ∨ (ev o1 o2 = true ∧ ev a1 a2 = false) ∨ (ev o1 o2 = true ∧ ev a1 a2 = true ∧ ev b1 b2 = false) := by
  generalize ev o1 o2 = p at *;generalize ev a1 a2 = q at *;generalize ev b1 b2 = r at *;cases p <;> cases q <;> cases r <;> simp_all
 clear h;rcases cs with h1 | ⟨h1, h2⟩ | ⟨h1, h2, ao⟩ <;> simp only [*] at bl eZ ko
 all_goals
  refine cq (f := 218) Tryz.func218 rfl rfl rfl rfl ?_;(repeat first | (with_reducible apply az); exact rfl | refine e2 rfl rfl rfl (by (first | exact bl | exact eZ | exact ko)) rfl ?_ | (with_reducible first | apply bQ | apply bI | apply bO | apply aA | apply cf | apply fV) | (with_reducible apply iK); exact rfl)
  ((refine bY rfl (bD rfl bf) ?_))
  exact ai.bo.refl _
def sv (o1 o2 a1 a2 b1 b2 : Int) : Int := if (ev o1 o2 && ev a1 a2 && ev b1 b2) = true then ct o1 o2 a1 a2 b1 b2 else 0
theorem adG {o1 o2 a1 a2 b1 b2 : Int} : aY aj 218 [bi o1 o2, bi a1 a2, bi b1 b2] (aR (sv o1 o2 a1 a2 b1 b2)) := by
 unfold sv
 by_cases h : (ev o1 o2 && ev a1 a2 && ev b1 b2) = true
 ·rw [if_pos h];simp only [eh] at h;exact QN h.1.1 h.1.2 h.2
 ·rw [if_neg h];exact adH (by simpa using h)
def rR (n : Int) : Int := if n < 0 then -1 else if 0 < n then 1 else 0
theorem ad3 {o1 o2 a1 a2 b1 b2 : Int} : aY aj 276 [bi o1 o2, bi a1 a2, bi b1 b2] (aR (rR (sv o1 o2 a1 a2 b1 b2))) := by
 have aP := adG (o1 := o1) (o2 := o2) (a1 := a1) (a2 := a2) (b1 := b1) (b2 := b2);generalize sv o1 o2 a1 a2 b1 b2 = c at *;have cs : (c < 0 ∧ rR c = -1) ∨ (¬ c < 0 ∧ 0 < c ∧ rR c = 1) ∨ (¬ c < 0 ∧ ¬ 0 < c ∧ rR c = 0) := by unfold rR; repeat' split <;> omega
 rcases cs with ⟨h1, h⟩ | ⟨h1, h2, h⟩ | ⟨h1, h2, h⟩ <;> rw [h] <;> clear h
 all_goals
  refine cq (f := 276) Tryz.func276 rfl rfl rfl rfl ?_;(repeat first | (with_reducible apply az); exact rfl | refine kt rfl rfl rfl rfl rfl (by (exact aP)) rfl ?_ | (with_reducible first | apply bQ | apply bI | apply bO | apply aA | apply cf | apply e3 | apply fV | apply gW | apply nw | apply mM) | (with_reducible apply gO); exact rfl; (exact bF (by omega)) | (with_reducible apply ia); exact rfl; (exact b5 (by omega)))
  ((refine bY rfl (bD rfl bf) ?_))
  exact ai.bo.refl _
abbrev hr (a b : Int) : Int := if b < a then b else a
abbrev hq (a b : Int) : Int := if b > a then b else a
theorem adD {a1 a2 b1 b2 : Int} : aY aj 275 [bi a1 a2, bi b1 b2] (jw (hr a1 b1) (hr a2 b2) (hq a1 b1) (hq a2 b2)) := by
 refine cq (f := 275) Tryz.func275 rfl rfl rfl rfl ?_;(repeat first | (with_reducible apply az); exact rfl | (with_reducible apply xn); (iterate 4 exact rfl) | (with_reducible apply tN); (iterate 4 exact rfl) | (with_reducible first | apply bQ | apply bI | apply bO | apply aA | apply cf))
 ((refine bY rfl (fc rfl rfl rfl bf) ?_))
 exact ai.bo.refl _
def fG (l1 l2 h1 h2 p1 p2 : Int) : Bool := decide (l1 ≤ p1) && decide (p1 ≤ h1) && decide (l2 ≤ p2) && decide (p2 ≤ h2)
theorem Yt {l1 l2 h1 h2 p1 p2 : Int} : fG l1 l2 h1 h2 p1 p2 = true ↔ l1 ≤ p1 ∧ p1 ≤ h1 ∧ l2 ≤ p2 ∧ p2 ≤ h2 := by unfold fG; simp only [eh, cL, and_assoc]
theorem adN {l1 l2 h1 h2 p1 p2 : Int} {b : Bool} (ab : fG l1 l2 h1 h2 p1 p2 = b) : aY aj 274 [jw l1 l2 h1 h2, bi p1 p2] (bG b) := by
 have cs : (l1 ≤ p1 ∧ p1 ≤ h1 ∧ l2 ≤ p2 ∧ p2 ≤ h2 ∧ b = true) ∨ (l1 ≤ p1 ∧ p1 ≤ h1 ∧ l2 ≤ p2 ∧ ¬ p2 ≤ h2 ∧ b = false) ∨ (l1 ≤ p1 ∧ p1 ≤ h1 ∧ ¬ l2 ≤ p2 ∧ b = false) ∨ (l1 ≤ p1 ∧ ¬ p1 ≤ h1 ∧ b = false) ∨ (¬ l1 ≤ p1 ∧ b = false) := by
  rw [← ab]; unfold fG
  by_cases q1 : l1 ≤ p1 <;> by_cases q2 : p1 ≤ h1 <;> by_cases cr : l2 ≤ p2 <;> by_cases eE : p2 ≤ h2 <;> simp [q1, q2, cr, eE]
 clear ab;rcases cs with ⟨q1, q2, cr, eE, rfl⟩ | ⟨q1, q2, cr, eE, rfl⟩ | ⟨q1, q2, cr, rfl⟩ | ⟨q1, q2, rfl⟩ | ⟨q1, rfl⟩
 all_goals
  refine cq (f := 274) Tryz.func274 rfl rfl rfl rfl ?_;(repeat first | (with_reducible apply az); exact rfl | (with_reducible apply dO (c := true)); exact rfl; exact rfl; (exact bF (by omega)) | (with_reducible apply dO (c := false)); exact rfl; exact rfl; (exact b5 (by omega)) | (with_reducible first | apply bQ | apply bI | apply bO | apply aA | apply cf))
  ((refine bY rfl (bD rfl bf) ?_))
  first | exact ai.bo.refl _ | exact ai.bo.of_eq (by rw [bF eE]; rfl) | exact ai.bo.of_eq (by rw [b5 eE]; rfl)
def E2 (p1 p2 a1 a2 b1 b2 : Int) : Bool := ev p1 p2 && ev a1 a2 && ev b1 b2 && fG (hr a1 b1) (hr a2 b2) (hq a1 b1) (hq a2 b2) p1 p2 && decide (ct a1 a2 b1 b2 p1 p2 = 0)
theorem agb {n : Int} : rR n = 0 ↔ n = 0 := by unfold rR; repeat' split <;> omega
theorem adW {p1 p2 a1 a2 b1 b2 : Int} {b : Bool} (ab : E2 p1 p2 a1 a2 b1 b2 = b) : aY aj 244 [bi p1 p2, bi a1 a2, bi b1 b2] (bG b) := by
 have bl := td (x := p1) (y := p2) rfl;have eZ := td (x := a1) (y := a2) rfl;have ko := td (x := b1) (y := b2) rfl;have H1 := adD (a1 := a1) (a2 := a2) (b1 := b1) (b2 := b2);have bZ := adN (l1 := hr a1 b1) (l2 := hr a2 b2) (h1 := hq a1 b1) (h2 := hq a2 b2) (p1 := p1) (p2 := p2) rfl;have qZ := ad3 (o1 := a1) (o2 := a2) (a1 := b1) (a2 := b2) (b1 := p1) (b2 := p2);unfold E2 at ab
 have cs : (ev p1 p2 = false ∧ b = false) ∨ (ev p1 p2 = true ∧ ev a1 a2 = false ∧ b = false) ∨ (ev p1 p2 = true ∧ ev a1 a2 = true ∧ ev b1 b2 = false ∧ b = false)
   ∨ (ev p1 p2 = true ∧ ev a1 a2 = true ∧ ev b1 b2 = true ∧ fG (hr a1 b1) (hr a2 b2) (hq a1 b1) (hq a2 b2) p1 p2 = false ∧ b = false)
   ∨ (ev p1 p2 = true ∧ ev a1 a2 = true ∧ ev b1 b2 = true ∧ fG (hr a1 b1) (hr a2 b2) (hq a1 b1) (hq a2 b2) p1 p2 = true ∧ b = decide (rR (sv a1 a2 b1 b2 p1 p2) = 0)) := by
  have e : decide (rR (sv a1 a2 b1 b2 p1 p2) = 0) = decide (sv a1 a2 b1 b2 p1 p2 = 0) := by rw [mC, cL, cL, agb]
  rw [e];unfold sv;generalize ct a1 a2 b1 b2 p1 p2 = c at *;generalize ev p1 p2 = c0 at *;generalize ev a1 a2 = dm at *;generalize ev b1 b2 = la at *;generalize fG _ _ _ _ p1 p2 = nQ at *;cases c0 <;> cases dm <;> cases la <;> cases nQ <;> simp_all
 clear ab;generalize fG _ _ _ _ p1 p2 = nQ at *;generalize hr a1 b1 = i1 at *;generalize hr a2 b2 = i2 at *;generalize hq a1 b1 = i3 at *;generalize hq a2 b2 = i4 at *;generalize rR (sv a1 a2 b1 b2 p1 p2) = t at *;rcases cs with ⟨h1, rfl⟩ | ⟨h1, h2, rfl⟩ | ⟨h1, h2, ao, rfl⟩ | ⟨h1, h2, ao, rfl, rfl⟩ | ⟨h1, h2, ao, rfl, rfl⟩ <;> simp only [*] at bl eZ ko
 all_goals
  refine cq (f := 244) Tryz.func244 rfl rfl rfl rfl ?_;(repeat first | (with_reducible apply az); exact rfl | refine e2 rfl rfl rfl (by (first | exact bl | exact eZ | exact ko)) rfl ?_ | refine dP rfl rfl rfl rfl (by (first | exact H1 | exact bZ)) rfl ?_ | refine kt rfl rfl rfl rfl rfl (by (exact qZ)) rfl ?_ | (with_reducible apply iJ); kernel_rfl | (with_reducible apply iL); kernel_rfl; kernel_rfl; exact rfl | (with_reducible first | apply bQ | apply bI | apply bO | apply aA | apply cf))
  ((refine bY rfl (bD rfl bf) ?_))
  exact ai.bo.refl _
end Go.Proofs.YtpochbhajmbfdaaGreat
namespace Go.Proofs.YtpochbhajmbfdaaGreat
def cG (x y : Int) : Bool := decide (x ≤ 134217728) && decide (y ≤ 134217728) && decide (-134217728 ≤ x) && decide (-134217728 ≤ y)
theorem tm {x y : Int} : cG x y = true ↔ (-134217728 ≤ x ∧ x ≤ 134217728) ∧ -134217728 ≤ y ∧ y ≤ 134217728 := by
  unfold cG;simp only [eh, cL];omega
def dy (a1 a2 b1 b2 : Int) : Prop := a1 < b1 ∨ (a1 = b1 ∧ a2 ≤ b2)
instance (a1 a2 b1 b2 : Int) : Decidable (dy a1 a2 b1 b2) := by unfold dy; exact inferInstance
theorem dy.J5 {a1 a2 : Int} : dy a1 a2 a1 a2 := .inr ⟨rfl, nM _⟩
theorem dy.trans {a1 a2 b1 b2 c1 c2 : Int} (h : dy a1 a2 b1 b2) (k : dy b1 b2 c1 c2) : dy a1 a2 c1 c2 := by unfold dy at *; omega
theorem dy.total (a1 a2 b1 b2 : Int) : dy a1 a2 b1 b2 ∨ dy b1 b2 a1 a2 := by unfold dy; omega
theorem dy.CH {a1 a2 b1 b2 : Int} (h : dy a1 a2 b1 b2) (k : dy b1 b2 a1 a2) : a1 = b1 ∧ a2 = b2 := by unfold dy at *; omega
def sX (p1 p2 a1 a2 b1 b2 : Int) : Prop := hr a1 b1 ≤ p1 ∧ p1 ≤ hq a1 b1 ∧ hr a2 b2 ≤ p2 ∧ p2 ≤ hq a2 b2
theorem LZ {s1 s2 t1 t2 p1 p2 : Int} (jn : dy s1 s2 t1 t2) (ak : ct s1 s2 t1 t2 p1 p2 = 0) : sX p1 p2 s1 s2 t1 t2 ↔ dy s1 s2 p1 p2 ∧ dy p1 p2 t1 t2 := by
  unfold ct at ak;have nA : (t1 - s1) * (p2 - s2) = (t2 - s2) * (p1 - s1) := by omega
  unfold sX hr hq dy at *
  by_cases h1 : s1 = t1
  · subst h1
    have e : (t2 - s2) * (p1 - s1) = 0 := by rw [← nA]; simp
    rcases th.1 e with e | e
    · constructor
      · intro h; split at h <;> (try split at h) <;> (try split at h) <;> (try split at h) <;> omega
      · intro h; split <;> (try split) <;> (try split) <;> (try split) <;> omega
    · constructor
      · intro h; split at h <;> (try split at h) <;> (try split at h) <;> (try split at h) <;> omega
      · intro h; split <;> (try split) <;> (try split) <;> (try split) <;> omega
  · have h2 : s1 < t1 := by omega
    have hd : 0 < t1 - s1 := by omega
    rw [if_neg (show ¬ t1 < s1 by omega), if_pos (show t1 > s1 by omega)]
   
    have key : s1 ≤ p1 → p1 ≤ t1 → (if t2 < s2 then t2 else s2) ≤ p2 ∧ p2 ≤ (if t2 > s2 then t2 else s2) := by
      intro bC cd
      by_cases g : t2 < s2
      · rw [if_pos g, if_neg (by omega)]
        have a1 : (t2 - s2) * (t1 - s1) ≤ (t2 - s2) * (p1 - s1) := Int.mul_le_mul_of_nonpos_left (by omega) (by omega);have a2 : (t2 - s2) * (p1 - s1) ≤ 0 := Int.mul_nonpos_of_nonpos_of_nonneg (by omega) (by omega);rw [← nA] at a1 a2;rw [kf (t2 - s2)] at a1;have b1 := Int.le_of_mul_le_mul_left a1 hd
        have b2 : p2 - s2 ≤ 0 := by
          have : (t1 - s1) * (p2 - s2) ≤ (t1 - s1) * 0 := by omega
          exact Int.le_of_mul_le_mul_left this hd
        omega
      · rw [if_neg g]
        have a1 : (t2 - s2) * (p1 - s1) ≤ (t2 - s2) * (t1 - s1) := qA (by omega) (by omega);have a2 : 0 ≤ (t2 - s2) * (p1 - s1) := il (by omega) (by omega);rw [← nA] at a1 a2;rw [kf (t2 - s2)] at a1;have b1 := Int.le_of_mul_le_mul_left a1 hd
        have b2 : 0 ≤ p2 - s2 := by
          have : (t1 - s1) * 0 ≤ (t1 - s1) * (p2 - s2) := by omega
          exact Int.le_of_mul_le_mul_left this hd
        split <;> omega
    constructor
    · rintro ⟨bC, cd, ie, jI⟩
      constructor
      · by_cases g : s1 < p1
        · exact .inl g
        · right
          have : p1 = s1 := by omega
          subst this;have : (t1 - p1) * (p2 - s2) = 0 := by rw [nA]; simp
          rcases th.1 this with e | e <;> omega
      · by_cases g : p1 < t1
        · exact .inl g
        · right
          have : p1 = t1 := by omega
          subst this;rw [kf (t2 - s2)] at nA;have := Int.eq_of_mul_eq_mul_left (show p1 - s1 ≠ 0 by omega) nA;omega
    · rintro ⟨bC, cd⟩
      have IX : s1 ≤ p1 := by omega
      have IY : p1 ≤ t1 := by omega
      exact ⟨IX, IY, (key IX IY).1, (key IX IY).2⟩
def dx (p1 p2 s1 s2 t1 t2 : Int) : Prop := ct s1 s2 t1 t2 p1 p2 = 0 ∧ sX p1 p2 s1 s2 t1 t2
theorem wI {s1 s2 t1 t2 p1 p2 : Int} (jn : dy s1 s2 t1 t2) : dx p1 p2 s1 s2 t1 t2 ↔ ct s1 s2 t1 t2 p1 p2 = 0 ∧ dy s1 s2 p1 p2 ∧ dy p1 p2 t1 t2 := by
  unfold dx
  constructor
  · rintro ⟨h, k⟩; exact ⟨h, (LZ jn h).1 k⟩
  · rintro ⟨h, k⟩; exact ⟨h, (LZ jn h).2 k⟩
theorem G0 (a1 a2 b1 b2 : Int) : ct a1 a2 b1 b2 a1 a2 = 0 := by unfold ct; grind
theorem Ml (a1 a2 b1 b2 : Int) : ct a1 a2 b1 b2 b1 b2 = 0 := by unfold ct; grind
theorem uV {s1 s2 t1 t2 : Int} (jn : dy s1 s2 t1 t2) : dx s1 s2 s1 s2 t1 t2 := (wI jn).2 ⟨G0 .., .J5, jn⟩
theorem uU {s1 s2 t1 t2 : Int} (jn : dy s1 s2 t1 t2) : dx t1 t2 s1 s2 t1 t2 := (wI jn).2 ⟨Ml .., jn, .J5⟩
theorem Ba {p1 p2 s1 s2 : Int} (h : dx p1 p2 s1 s2 s1 s2) : p1 = s1 ∧ p2 = s2 := by
  obtain ⟨_, h1, h2⟩ := (wI dy.J5).1 h;have := dy.CH h1 h2; omega
def pu (s1 s2 bU bX t1 t2 t3 t4 : Int) : Int := (bU - s1) * (t4 - t2) - (bX - s2) * (t3 - t1)
theorem uX {s1 s2 bU bX t1 t2 t3 t4 p1 p2 cN cJ : Int} (hs : dy s1 s2 bU bX) (aF : dy t1 t2 t3 t4) (hw : pu s1 s2 bU bX t1 t2 t3 t4 = 0)
    (ps : dx p1 p2 s1 s2 bU bX) (pw : dx p1 p2 t1 t2 t3 t4) (ts : dx cN cJ s1 s2 bU bX) (iD : dy t1 t2 cN cJ) (afd : dy cN cJ t3 t4) : dx cN cJ t1 t2 t3 t4 := by
  by_cases hd : s1 = bU ∧ s2 = bX
  · obtain ⟨rfl, rfl⟩ := hd
    obtain ⟨rfl, rfl⟩ := Ba ps;obtain ⟨rfl, rfl⟩ := Ba ts;exact pw
  · refine (wI aF).2 ⟨?_, iD, afd⟩
    have a := ps.1;have b := pw.1;have c := ts.1;unfold ct pu at *;have d1 : (bU - s1) * ((t3 - t1) * (cJ - t2) - (t4 - t2) * (cN - t1)) = 0 := by grind
    have d2 : (bX - s2) * ((t3 - t1) * (cJ - t2) - (t4 - t2) * (cN - t1)) = 0 := by grind
    rcases th.1 d1 with e | e
    · rcases th.1 d2 with f | f
      · omega
      · exact f
    · exact e
theorem L0 {x y A B D : Int} (kR : 0 < D) (e : D = A - B) : (hr x y * D ≤ y * A - x * B ∧ y * A - x * B ≤ hq x y * D) ↔ (x = y ∨ (B ≤ 0 ∧ 0 ≤ A)) := by
  subst e;unfold hr hq
  by_cases h : x = y
  · subst h
    have : x * (A - B) = x * A - x * B := Int.mul_sub ..;simp [this]
  · have pos : ∀ {u v : Int}, 0 < u → (0 ≤ u * v ↔ 0 ≤ v) := by
      intro u v hu
      constructor
      · intro k
        have k' : u * 0 ≤ u * v := by omega
        exact Int.le_of_mul_le_mul_left k' hu
      · intro k; exact il (by omega) k
    by_cases g : x < y
    · rw [if_neg (by omega), if_pos (show y > x from g)]
      have hu : 0 < y - x := by omega
      have aG : y * A - x * B - x * (A - B) = (y - x) * A := by grind
      have aM : y * (A - B) - (y * A - x * B) = (y - x) * (-B) := by grind
      have p1 := pos (v := A) hu;have p2 := pos (v := -B) hu;omega
    · rw [if_pos (by omega), if_neg (by omega)]
      have hu : 0 < x - y := by omega
      have aG : x * (A - B) - (y * A - x * B) = (x - y) * A := by grind
      have aM : y * A - x * B - y * (A - B) = (x - y) * (-B) := by grind
      have p1 := pos (v := A) hu;have p2 := pos (v := -B) hu;omega
def lf (n d a b : Int) : Prop := hr a b * d ≤ n ∧ n ≤ hq a b * d
theorem CQ {x y u v A B D : Int} (kR : 0 < D) (e : D = A - B) (ca : ¬ (x = y ∧ u = v)) : (lf (y * A - x * B) D x y ∧ lf (v * A - u * B) D u v) ↔ (B ≤ 0 ∧ 0 ≤ A) := by
  unfold lf;rw [L0 kR e, L0 kR e];omega
theorem sr {n d a b : Int} : lf n d a b ↔ lf n d b a := by
  unfold lf hr hq
  by_cases h : a = b
  · subst h; rfl
  · by_cases g : a < b
    · rw [if_neg (by omega), if_pos (show b > a from g), if_pos g, if_neg (by omega)]
    · rw [if_pos (show b < a by omega), if_neg (by omega), if_neg g, if_pos (by omega)]
structure fU where
  k : Int
  n : Int
  d : Int
  m : Int
  e : Int
  p1 : Int
  p2 : Int
  q1 : Int
  q2 : Int
def ig : fU := ⟨0, 0, 0, 0, 0, 0, 0, 0, 0⟩
def jr (n d m e : Int) : fU := ⟨1, n, d, m, e, 0, 0, 0, 0⟩
def tJ (p1 p2 q1 q2 : Int) : fU := ⟨2, 0, 0, 0, 0, p1, p2, q1, q2⟩
def jJ (n d : Int) : Int := if d < 0 then -n else n
def iR (d : Int) : Int := if d < 0 then -d else d
theorem rB {d : Int} (h : d ≠ 0) (n : Int) : jJ (-n) (-d) = jJ n d := by unfold jJ; split <;> split <;> omega
theorem A8 (d : Int) : iR (-d) = iR d := by unfold iR; split <;> split <;> omega
theorem Qk {d : Int} (h : d ≠ 0) : 0 < iR d := by unfold iR; split <;> omega
def kb (a1 a2 b1 b2 c1 c2 d1 d2 : Int) : Int := ((b2 - a2) * a1 + (a1 - b1) * a2) * (c1 - d1) - (a1 - b1) * ((d2 - c2) * c1 + (c1 - d1) * c2)
def kc (a1 a2 b1 b2 c1 c2 d1 d2 : Int) : Int := (b2 - a2) * ((d2 - c2) * c1 + (c1 - d1) * c2) - ((b2 - a2) * a1 + (a1 - b1) * a2) * (d2 - c2)
def c5 (a1 a2 b1 b2 c1 c2 d1 d2 : Int) : Int := (b2 - a2) * (c1 - d1) - (a1 - b1) * (d2 - c2)
theorem SD (a1 a2 b1 b2 c1 c2 d1 d2 : Int) : c5 a1 a2 b1 b2 c1 c2 d1 d2 = pu a1 a2 b1 b2 c1 c2 d1 d2 := by unfold c5 pu; grind
section
variable (a1 a2 b1 b2 c1 c2 d1 d2 : Int)
theorem FZ : c5 b1 b2 a1 a2 c1 c2 d1 d2 = - c5 a1 a2 b1 b2 c1 c2 d1 d2 := by unfold c5; grind
theorem BN : c5 a1 a2 b1 b2 d1 d2 c1 c2 = - c5 a1 a2 b1 b2 c1 c2 d1 d2 := by unfold c5; grind
theorem yM : c5 c1 c2 d1 d2 a1 a2 b1 b2 = - c5 a1 a2 b1 b2 c1 c2 d1 d2 := by unfold c5; grind
theorem acC : kb b1 b2 a1 a2 c1 c2 d1 d2 = - kb a1 a2 b1 b2 c1 c2 d1 d2 := by unfold kb; grind
theorem acD : kb a1 a2 b1 b2 d1 d2 c1 c2 = - kb a1 a2 b1 b2 c1 c2 d1 d2 := by unfold kb; grind
theorem P0 : kb c1 c2 d1 d2 a1 a2 b1 b2 = - kb a1 a2 b1 b2 c1 c2 d1 d2 := by unfold kb; grind
theorem acE : kc b1 b2 a1 a2 c1 c2 d1 d2 = - kc a1 a2 b1 b2 c1 c2 d1 d2 := by unfold kc; grind
theorem acF : kc a1 a2 b1 b2 d1 d2 c1 c2 = - kc a1 a2 b1 b2 c1 c2 d1 d2 := by unfold kc; grind
theorem P1 : kc c1 c2 d1 d2 a1 a2 b1 b2 = - kc a1 a2 b1 b2 c1 c2 d1 d2 := by unfold kc; grind
theorem Jz : c1 * ct a1 a2 b1 b2 d1 d2 - d1 * ct a1 a2 b1 b2 c1 c2 = kb a1 a2 b1 b2 c1 c2 d1 d2 := by unfold kb ct; grind
theorem JA : c2 * ct a1 a2 b1 b2 d1 d2 - d2 * ct a1 a2 b1 b2 c1 c2 = kc a1 a2 b1 b2 c1 c2 d1 d2 := by unfold kc ct; grind
theorem KA : ct a1 a2 b1 b2 d1 d2 - ct a1 a2 b1 b2 c1 c2 = c5 a1 a2 b1 b2 c1 c2 d1 d2 := by unfold c5 ct; grind
end
def four (a1 a2 b1 b2 c1 c2 d1 d2 x y d : Int) : Prop := lf x d a1 b1 ∧ lf y d a2 b2 ∧ lf x d c1 d1 ∧ lf y d c2 d2
instance (n d a b : Int) : Decidable (lf n d a b) := by unfold lf; exact inferInstance
instance (a1 a2 b1 b2 c1 c2 d1 d2 x y d : Int) : Decidable (four a1 a2 b1 b2 c1 c2 d1 d2 x y d) := by unfold four; exact inferInstance
theorem yb {α : Type} {p q : Prop} [Decidable p] [Decidable q] {a b : α} (h : p ↔ q) : (if p then a else b) = if q then a else b := by
  by_cases k : p
  · rw [if_pos k, if_pos (h.1 k)]
  · rw [if_neg k, if_neg fun g => k (h.2 g)]
def uN (a1 a2 b1 b2 c1 c2 d1 d2 x y d : Int) : fU := if four a1 a2 b1 b2 c1 c2 d1 d2 x y d then jr x d y d else ig
def nb (a1 a2 b1 b2 c1 c2 d1 d2 : Int) : fU :=
  uN a1 a2 b1 b2 c1 c2 d1 d2 (jJ (kb a1 a2 b1 b2 c1 c2 d1 d2) (c5 a1 a2 b1 b2 c1 c2 d1 d2)) (jJ (kc a1 a2 b1 b2 c1 c2 d1 d2) (c5 a1 a2 b1 b2 c1 c2 d1 d2)) (iR (c5 a1 a2 b1 b2 c1 c2 d1 d2))
theorem acg {a1 a2 b1 b2 c1 c2 d1 d2 : Int} (h : c5 a1 a2 b1 b2 c1 c2 d1 d2 ≠ 0) : nb b1 b2 a1 a2 c1 c2 d1 d2 = nb a1 a2 b1 b2 c1 c2 d1 d2 := by
  unfold nb;rw [FZ, acC, acE, rB h, rB h, A8];unfold uN four;exact yb (by rw [sr (a := b1), sr (a := b2)])
theorem ach {a1 a2 b1 b2 c1 c2 d1 d2 : Int} (h : c5 a1 a2 b1 b2 c1 c2 d1 d2 ≠ 0) : nb a1 a2 b1 b2 d1 d2 c1 c2 = nb a1 a2 b1 b2 c1 c2 d1 d2 := by
  unfold nb;rw [BN, acD, acF, rB h, rB h, A8];unfold uN four;exact yb (by rw [sr (a := d1), sr (a := d2)])
theorem PD {a1 a2 b1 b2 c1 c2 d1 d2 : Int} (h : c5 a1 a2 b1 b2 c1 c2 d1 d2 ≠ 0) : nb c1 c2 d1 d2 a1 a2 b1 b2 = nb a1 a2 b1 b2 c1 c2 d1 d2 := by
  unfold nb;rw [yM, P0, P1, rB h, rB h, A8];unfold uN four;refine yb ?_
  constructor
  · rintro ⟨h1, h2, ao, aH⟩; exact ⟨ao, aH, h1, h2⟩
  · rintro ⟨h1, h2, ao, aH⟩; exact ⟨ao, aH, h1, h2⟩
def same (m n : Int) : Prop := (0 < m ∧ 0 < n) ∨ (m < 0 ∧ n < 0)
instance (m n : Int) : Decidable (same m n) := by unfold same; exact inferInstance
theorem SC {a1 a2 b1 b2 c1 c2 d1 d2 : Int} (h : c5 a1 a2 b1 b2 c1 c2 d1 d2 ≠ 0) : ¬ (a1 = b1 ∧ a2 = b2) ∧ ¬ (c1 = d1 ∧ c2 = d2) := by
  refine ⟨?_, ?_⟩
  · rintro ⟨rfl, rfl⟩; apply h; unfold c5; simp
  · rintro ⟨rfl, rfl⟩; apply h; unfold c5; simp
theorem R9 {a1 a2 b1 b2 c1 c2 d1 d2 : Int} (h : c5 a1 a2 b1 b2 c1 c2 d1 d2 ≠ 0) :
    (lf (jJ (kb a1 a2 b1 b2 c1 c2 d1 d2) (c5 a1 a2 b1 b2 c1 c2 d1 d2)) (iR (c5 a1 a2 b1 b2 c1 c2 d1 d2)) c1 d1 ∧ lf (jJ (kc a1 a2 b1 b2 c1 c2 d1 d2) (c5 a1 a2 b1 b2 c1 c2 d1 d2)) (iR (c5 a1 a2 b1 b2 c1 c2 d1 d2)) c2 d2) ↔ ¬ same (ct a1 a2 b1 b2 c1 c2) (ct a1 a2 b1 b2 d1 d2) := by
  have ca := (SC h).2;have aG := Jz a1 a2 b1 b2 c1 c2 d1 d2;have aM := JA a1 a2 b1 b2 c1 c2 d1 d2;have cD := KA a1 a2 b1 b2 c1 c2 d1 d2;generalize kb a1 a2 b1 b2 c1 c2 d1 d2 = X at *;generalize kc a1 a2 b1 b2 c1 c2 d1 d2 = Y at *;generalize c5 a1 a2 b1 b2 c1 c2 d1 d2 = w at *;generalize ct a1 a2 b1 b2 c1 c2 = C at *;generalize ct a1 a2 b1 b2 d1 d2 = D at *;unfold jJ iR same
  by_cases g : w < 0
  · rw [if_pos g, if_pos g, if_pos g, sr (a := c1), sr (a := c2)]
    have aW := CQ (x := d1) (y := c1) (u := d2) (v := c2) (A := -D) (B := -C) (D := -w) (by omega) (by omega) (by omega);have f1 : c1 * -D - d1 * -C = -X := by rw [← aG]; simp only [Int.mul_neg]; omega
    have f2 : c2 * -D - d2 * -C = -Y := by rw [← aM]; simp only [Int.mul_neg]; omega
    rw [f1, f2] at aW;rw [aW]; omega
  · rw [if_neg g, if_neg g, if_neg g, sr (a := c1), sr (a := c2)]
    have aW := CQ (x := d1) (y := c1) (u := d2) (v := c2) (A := D) (B := C) (D := w) (by omega) (by omega) (by omega);rw [aG, aM] at aW;rw [aW]; omega
theorem agk {a1 a2 b1 b2 c1 c2 d1 d2 : Int} (h : c5 a1 a2 b1 b2 c1 c2 d1 d2 ≠ 0) :
    (lf (jJ (kb a1 a2 b1 b2 c1 c2 d1 d2) (c5 a1 a2 b1 b2 c1 c2 d1 d2)) (iR (c5 a1 a2 b1 b2 c1 c2 d1 d2)) a1 b1 ∧ lf (jJ (kc a1 a2 b1 b2 c1 c2 d1 d2) (c5 a1 a2 b1 b2 c1 c2 d1 d2)) (iR (c5 a1 a2 b1 b2 c1 c2 d1 d2)) a2 b2) ↔ ¬ same (ct c1 c2 d1 d2 a1 a2) (ct c1 c2 d1 d2 b1 b2) := by
  have ar : c5 c1 c2 d1 d2 a1 a2 b1 b2 ≠ 0 := by rw [yM]; omega
  have := R9 ar;rw [P0, P1, yM, rB h, rB h, A8] at this;exact this
theorem XJ {a1 a2 b1 b2 c1 c2 d1 d2 : Int} (h : c5 a1 a2 b1 b2 c1 c2 d1 d2 ≠ 0) :
    four a1 a2 b1 b2 c1 c2 d1 d2 (jJ (kb a1 a2 b1 b2 c1 c2 d1 d2) (c5 a1 a2 b1 b2 c1 c2 d1 d2)) (jJ (kc a1 a2 b1 b2 c1 c2 d1 d2) (c5 a1 a2 b1 b2 c1 c2 d1 d2)) (iR (c5 a1 a2 b1 b2 c1 c2 d1 d2)) ↔ ¬ (same (ct a1 a2 b1 b2 c1 c2) (ct a1 a2 b1 b2 d1 d2) ∨ same (ct c1 c2 d1 d2 a1 a2) (ct c1 c2 d1 d2 b1 b2)) := by
  unfold four;have p := R9 h;have q := agk h
  constructor
  · rintro ⟨h1, h2, ao, aH⟩ (g | g)
    · exact p.1 ⟨ao, aH⟩ g
    · exact q.1 ⟨h1, h2⟩ g
  · intro g
    obtain ⟨ao, aH⟩ := p.2 fun k => g (.inl k);obtain ⟨h1, h2⟩ := q.2 fun k => g (.inr k);exact ⟨h1, h2, ao, aH⟩
def eS (a1 a2 b1 b2 : Int) : Int := if dy a1 a2 b1 b2 then a1 else b1
def eA (a1 a2 b1 b2 : Int) : Int := if dy a1 a2 b1 b2 then a2 else b2
def eC (a1 a2 b1 b2 : Int) : Int := if dy a1 a2 b1 b2 then b1 else a1
def ef (a1 a2 b1 b2 : Int) : Int := if dy a1 a2 b1 b2 then b2 else a2
theorem nF (a1 a2 b1 b2 : Int) : (eS a1 a2 b1 b2 = a1 ∧ eA a1 a2 b1 b2 = a2 ∧ eC a1 a2 b1 b2 = b1 ∧ ef a1 a2 b1 b2 = b2 ∧ dy a1 a2 b1 b2) ∨ (eS a1 a2 b1 b2 = b1 ∧ eA a1 a2 b1 b2 = b2 ∧ eC a1 a2 b1 b2 = a1 ∧ ef a1 a2 b1 b2 = a2 ∧ dy b1 b2 a1 a2) := by
  unfold eS eA eC ef
  by_cases h : dy a1 a2 b1 b2
  · simp [h]
  · simp [h, (dy.total a1 a2 b1 b2).resolve_left h]
theorem yd (a1 a2 b1 b2 : Int) : dy (eS a1 a2 b1 b2) (eA a1 a2 b1 b2) (eC a1 a2 b1 b2) (ef a1 a2 b1 b2) := by
  rcases nF a1 a2 b1 b2 with ⟨h1, h2, ao, aH, h⟩ | ⟨h1, h2, ao, aH, h⟩ <;> rw [h1, h2, ao, aH] <;> exact h
theorem Ey (a1 a2 b1 b2 : Int) : eS b1 b2 a1 a2 = eS a1 a2 b1 b2 ∧ eA b1 b2 a1 a2 = eA a1 a2 b1 b2 ∧ eC b1 b2 a1 a2 = eC a1 a2 b1 b2 ∧ ef b1 b2 a1 a2 = ef a1 a2 b1 b2 := by
  rcases nF a1 a2 b1 b2 with ⟨h1, h2, ao, aH, h⟩ | ⟨h1, h2, ao, aH, h⟩ <;> rcases nF b1 b2 a1 a2 with ⟨bC, cd, ie, jI, k⟩ | ⟨bC, cd, ie, jI, k⟩ <;> rw [h1, h2, ao, aH, bC, cd, ie, jI] <;> (try have := dy.CH h k) <;> simp_all
theorem A9 {p1 p2 a1 a2 b1 b2 : Int} : dx p1 p2 b1 b2 a1 a2 ↔ dx p1 p2 a1 a2 b1 b2 := by
  unfold dx sX;have e : ct b1 b2 a1 a2 p1 p2 = - ct a1 a2 b1 b2 p1 p2 := by unfold ct; grind
  have m : ∀ x y : Int, hr x y = hr y x := fun x y => by unfold hr; split <;> split <;> omega
  have n : ∀ x y : Int, hq x y = hq y x := fun x y => by unfold hq; split <;> split <;> omega
  rw [e, m a1, m a2, n a1, n a2]
  constructor <;> rintro ⟨h, k⟩ <;> exact ⟨by omega, k⟩
instance (p1 p2 a1 a2 b1 b2 : Int) : Decidable (sX p1 p2 a1 a2 b1 b2) := by unfold sX; exact inferInstance
instance (p1 p2 a1 a2 b1 b2 : Int) : Decidable (dx p1 p2 a1 a2 b1 b2) := by unfold dx; exact inferInstance
theorem Bb {p1 p2 a1 a2 b1 b2 : Int} : dx p1 p2 (eS a1 a2 b1 b2) (eA a1 a2 b1 b2) (eC a1 a2 b1 b2) (ef a1 a2 b1 b2) ↔ dx p1 p2 a1 a2 b1 b2 := by
  rcases nF a1 a2 b1 b2 with ⟨h1, h2, ao, aH, h⟩ | ⟨h1, h2, ao, aH, h⟩ <;> rw [h1, h2, ao, aH];exact A9
theorem aeH {s1 s2 bU bX t1 t2 t3 t4 : Int} : pu t1 t2 t3 t4 s1 s2 bU bX = - pu s1 s2 bU bX t1 t2 t3 t4 := by unfold pu; grind
theorem Pk {s1 s2 bU bX t1 t2 t3 t4 p1 p2 : Int} (hs : dy s1 s2 bU bX) (aF : dy t1 t2 t3 t4) (hw : pu s1 s2 bU bX t1 t2 t3 t4 = 0) (ps : dx p1 p2 s1 s2 bU bX) (pw : dx p1 p2 t1 t2 t3 t4) :
    dx (eC s1 s2 t1 t2) (ef s1 s2 t1 t2) s1 s2 bU bX ∧ dx (eC s1 s2 t1 t2) (ef s1 s2 t1 t2) t1 t2 t3 t4 ∧ dx (eS bU bX t3 t4) (eA bU bX t3 t4) s1 s2 bU bX ∧ dx (eS bU bX t3 t4) (eA bU bX t3 t4) t1 t2 t3 t4
    ∧ dy (eC s1 s2 t1 t2) (ef s1 s2 t1 t2) p1 p2 ∧ dy p1 p2 (eS bU bX t3 t4) (eA bU bX t3 t4) := by
  obtain ⟨_, eH, yF⟩ := (wI hs).1 ps;obtain ⟨_, t0, t9⟩ := (wI aF).1 pw;have lu : pu t1 t2 t3 t4 s1 s2 bU bX = 0 := by rw [aeH]; omega
  rcases nF s1 s2 t1 t2 with ⟨_, _, ao, aH, h⟩ | ⟨_, _, ao, aH, h⟩ <;> rcases nF bU bX t3 t4 with ⟨bC, cd, _, _, k⟩ | ⟨bC, cd, _, _, k⟩ <;> rw [ao, aH, bC, cd]
  · exact ⟨uX aF hs lu pw ps (uV aF) h (t0.trans yF), uV aF, uU hs, uX hs aF hw ps pw (uU hs) (t0.trans yF) k, t0, yF⟩
  · exact ⟨uX aF hs lu pw ps (uV aF) h (t0.trans yF), uV aF, uX aF hs lu pw ps (uU aF) (eH.trans t9) k, uU aF, t0, t9⟩
  · exact ⟨uV hs, uX hs aF hw ps pw (uV hs) h (eH.trans t9), uU hs, uX hs aF hw ps pw (uU hs) (t0.trans yF) k, eH, yF⟩
  · exact ⟨uV hs, uX hs aF hw ps pw (uV hs) h (eH.trans t9), uX aF hs lu pw ps (uU aF) (eH.trans t9) k, uU aF, eH, t9⟩
def wu (f1 f2 g1 g2 : Int) : fU := if f1 = g1 ∧ f2 = g2 then jr f1 1 f2 1 else tJ f1 f2 g1 g2
def inl (s1 s2 bU bX t1 t2 t3 t4 : Int) : fU :=
  if dx (eC s1 s2 t1 t2) (ef s1 s2 t1 t2) s1 s2 bU bX ∧ dx (eC s1 s2 t1 t2) (ef s1 s2 t1 t2) t1 t2 t3 t4 then wu (eC s1 s2 t1 t2) (ef s1 s2 t1 t2) (eS bU bX t3 t4) (eA bU bX t3 t4) else ig
theorem aaG (s1 s2 bU bX t1 t2 t3 t4 : Int) : inl t1 t2 t3 t4 s1 s2 bU bX = inl s1 s2 bU bX t1 t2 t3 t4 := by
  unfold inl;obtain ⟨_, _, h1, h2⟩ := Ey s1 s2 t1 t2;obtain ⟨ao, aH, _, _⟩ := Ey bU bX t3 t4;rw [h1, h2, ao, aH];exact yb and_comm
def uH (a1 a2 b1 b2 c1 c2 d1 d2 : Int) : fU := inl (eS a1 a2 b1 b2) (eA a1 a2 b1 b2) (eC a1 a2 b1 b2) (ef a1 a2 b1 b2) (eS c1 c2 d1 d2) (eA c1 c2 d1 d2) (eC c1 c2 d1 d2) (ef c1 c2 d1 d2)
def hL (a1 a2 b1 b2 c1 c2 d1 d2 : Int) : fU := if c5 a1 a2 b1 b2 c1 c2 d1 d2 = 0 then uH a1 a2 b1 b2 c1 c2 d1 d2 else nb a1 a2 b1 b2 c1 c2 d1 d2
theorem Jj (a1 a2 b1 b2 c1 c2 d1 d2 : Int) : hL b1 b2 a1 a2 c1 c2 d1 d2 = hL a1 a2 b1 b2 c1 c2 d1 d2 := by
  unfold hL;obtain ⟨h1, h2, ao, aH⟩ := Ey a1 a2 b1 b2
  by_cases h : c5 a1 a2 b1 b2 c1 c2 d1 d2 = 0
  · rw [if_pos (by rw [FZ]; omega), if_pos h]; unfold uH; rw [h1, h2, ao, aH]
  · rw [if_neg (by rw [FZ]; omega), if_neg h, acg h]
theorem Jk (a1 a2 b1 b2 c1 c2 d1 d2 : Int) : hL a1 a2 b1 b2 d1 d2 c1 c2 = hL a1 a2 b1 b2 c1 c2 d1 d2 := by
  unfold hL;obtain ⟨h1, h2, ao, aH⟩ := Ey c1 c2 d1 d2
  by_cases h : c5 a1 a2 b1 b2 c1 c2 d1 d2 = 0
  · rw [if_pos (by rw [BN]; omega), if_pos h]; unfold uH; rw [h1, h2, ao, aH]
  · rw [if_neg (by rw [BN]; omega), if_neg h, ach h]
theorem ack (a1 a2 b1 b2 c1 c2 d1 d2 : Int) : hL c1 c2 d1 d2 a1 a2 b1 b2 = hL a1 a2 b1 b2 c1 c2 d1 d2 := by
  unfold hL
  by_cases h : c5 a1 a2 b1 b2 c1 c2 d1 d2 = 0
  · rw [if_pos (by rw [yM]; omega), if_pos h]; unfold uH; rw [aaG]
  · rw [if_neg (by rw [yM]; omega), if_neg h, PD h]
theorem acj (a1 a2 b1 b2 c1 c2 d1 d2 : Int) : hL (eS a1 a2 b1 b2) (eA a1 a2 b1 b2) (eC a1 a2 b1 b2) (ef a1 a2 b1 b2) (eS c1 c2 d1 d2) (eA c1 c2 d1 d2) (eC c1 c2 d1 d2) (ef c1 c2 d1 d2) = hL a1 a2 b1 b2 c1 c2 d1 d2 := by
  rcases nF a1 a2 b1 b2 with ⟨h1, h2, ao, aH, _⟩ | ⟨h1, h2, ao, aH, _⟩ <;> rcases nF c1 c2 d1 d2 with ⟨bC, cd, ie, jI, _⟩ | ⟨bC, cd, ie, jI, _⟩ <;> rw [h1, h2, ao, aH, bC, cd, ie, jI]
  · rw [Jk]
  · rw [Jj]
  · rw [Jj, Jk]
def Ji (s1 s2 bU bX t1 t2 t3 t4 A B C D : Int) : fU :=
  if A = B then inl s1 s2 bU bX t1 t2 t3 t4
  else if same A B ∨ same C D then ig
  else jr (jJ (t3 * A - t1 * B) (A - B)) (iR (A - B)) (jJ (t4 * A - t2 * B) (A - B)) (iR (A - B))
theorem Px {s1 s2 bU bX : Int} (h : dy s1 s2 bU bX) : eS s1 s2 bU bX = s1 ∧ eA s1 s2 bU bX = s2 ∧ eC s1 s2 bU bX = bU ∧ ef s1 s2 bU bX = bX := by
  unfold eS eA eC ef; simp [h]
theorem aci {s1 s2 bU bX t1 t2 t3 t4 : Int} (hs : dy s1 s2 bU bX) (aF : dy t1 t2 t3 t4) :
    Ji s1 s2 bU bX t1 t2 t3 t4 (ct s1 s2 bU bX t1 t2) (ct s1 s2 bU bX t3 t4) (ct t1 t2 t3 t4 s1 s2) (ct t1 t2 t3 t4 bU bX) = hL s1 s2 bU bX t1 t2 t3 t4 := by
  have aG := Jz s1 s2 bU bX t1 t2 t3 t4;have aM := JA s1 s2 bU bX t1 t2 t3 t4;have cD := KA s1 s2 bU bX t1 t2 t3 t4;unfold Ji hL
  by_cases h : c5 s1 s2 bU bX t1 t2 t3 t4 = 0
  · rw [if_pos (by omega), if_pos h]
    unfold uH;obtain ⟨h1, h2, ao, aH⟩ := Px hs;obtain ⟨bC, cd, ie, jI⟩ := Px aF;rw [h1, h2, ao, aH, bC, cd, ie, jI]
  · rw [if_neg (by omega), if_neg h]
    have f := XJ h;have g1 : t3 * ct s1 s2 bU bX t1 t2 - t1 * ct s1 s2 bU bX t3 t4 = - kb s1 s2 bU bX t1 t2 t3 t4 := by omega
    have g2 : t4 * ct s1 s2 bU bX t1 t2 - t2 * ct s1 s2 bU bX t3 t4 = - kc s1 s2 bU bX t1 t2 t3 t4 := by omega
    have g3 : ct s1 s2 bU bX t1 t2 - ct s1 s2 bU bX t3 t4 = - c5 s1 s2 bU bX t1 t2 t3 t4 := by omega
    rw [g1, g2, g3, rB h, rB h, A8];unfold nb uN
    by_cases q : same (ct s1 s2 bU bX t1 t2) (ct s1 s2 bU bX t3 t4) ∨ same (ct t1 t2 t3 t4 s1 s2) (ct t1 t2 t3 t4 bU bX)
    · rw [if_pos q, if_neg fun k => f.1 k q]
    · rw [if_neg q, if_pos (f.2 q)]
structure h6 where
 n : Int
 d : Int
 own : Bool
structure Pa where
 f : h6
 t : h6
def hT (x y : h6) : Int := gj (x.n * y.d) (y.n * x.d)
def rv (x y : h6) : h6 := if 0 < hT x y ∨ (hT x y = 0 ∧ y.own = true) then x else y
def q9 (x y : h6) : h6 := if hT x y < 0 ∨ (hT x y = 0 ∧ y.own = true) then x else y
def ou (p : Pa) (u v : Int) (own : Bool) : Pa :=
 if 0 < v - u then ⟨rv p.f ⟨-u, v - u, own⟩, p.t⟩
 else if v - u < 0 then ⟨p.f, q9 p.t ⟨u, -(v - u), own⟩⟩
 else if u < 0 ∨ (u = 0 ∧ own = false) then ⟨⟨1, 1, false⟩, ⟨0, 1, false⟩⟩ else p
def xp (p : Pa) : Bool := decide (hT p.f p.t < 0) || (decide (hT p.f p.t = 0) && p.f.own && p.t.own)
def vz : Pa := ⟨⟨0, 1, true⟩, ⟨1, 1, true⟩⟩
theorem aaw (x y : Int) : gj x y < 0 ↔ x < y := by unfold gj; split <;> (try split) <;> omega
theorem aav (x y : Int) : 0 < gj x y ↔ y < x := by unfold gj; split <;> (try split) <;> omega
theorem aau (x y : Int) : gj x y = 0 ↔ x = y := by unfold gj; split <;> (try split) <;> omega
def qS (x : h6) (n d : Int) : Prop := x.n * d < n * x.d ∨ (x.own = true ∧ x.n * d = n * x.d)
def qT (y : h6) (n d : Int) : Prop := n * y.d < y.n * d ∨ (y.own = true ∧ n * y.d = y.n * d)
def pM (p : Pa) (n d : Int) : Prop := qS p.f n d ∧ qT p.t n d
theorem pj {a b c : Int} (h : a < b) (ak : 0 < c) : a * c < b * c := Int.mul_lt_mul_of_pos_right h ak
theorem lt_mul {a b c : Int} (h : a * c < b * c) (ak : 0 < c) : a < b := Int.lt_of_mul_lt_mul_right h (by omega)
theorem eq_mul {a b c : Int} (h : a * c = b * c) (ak : 0 < c) : a = b := Int.eq_of_mul_eq_mul_right (by omega) h
theorem vR {a b c d e f : Int} (ab : 0 < b) (hd : 0 < d) (aw : 0 < f) (h : a * d < c * b) (k : c * f < e * d) : a * f < e * b := by
 have h1 := pj h aw;have h2 := pj k ab;refine lt_mul (c := d) ?_ hd;have aG : a * d * f = a * f * d := by grind
 have aM : c * b * f = c * f * b := by grind
 have cD : e * d * b = e * b * d := by grind
 omega
theorem xK {a b c d e f : Int} (ab : 0 < b) (hd : 0 < d) (aw : 0 < f) (h : a * d = c * b) (k : c * f < e * d) : a * f < e * b := by
 have h2 := pj k ab;refine lt_mul (c := d) ?_ hd;have aG : a * d * f = a * f * d := by grind
 have aM : c * b * f = c * f * b := by grind
 have cD : e * d * b = e * b * d := by grind
 have h1 : a * d * f = c * b * f := by rw [h]
 omega
theorem xL {a b c d e f : Int} (ab : 0 < b) (hd : 0 < d) (aw : 0 < f) (h : a * d < c * b) (k : c * f = e * d) : a * f < e * b := by
 have h1 := pj h aw;refine lt_mul (c := d) ?_ hd;have aG : a * d * f = a * f * d := by grind
 have aM : c * b * f = c * f * b := by grind
 have cD : e * d * b = e * b * d := by grind
 have h2 : c * f * b = e * d * b := by rw [k]
 omega
theorem Hq {a b c d e f : Int} (ab : 0 < b) (hd : 0 < d) (aw : 0 < f) (h : a * d = c * b) (k : c * f = e * d) : a * f = e * b := by
 refine eq_mul (c := d) ?_ hd;have aG : a * d * f = a * f * d := by grind
 have aM : c * b * f = c * f * b := by grind
 have cD : e * d * b = e * b * d := by grind
 have h1 : a * d * f = c * b * f := by rw [h]
 have h2 : c * f * b = e * d * b := by rw [k]
 omega
theorem C0 (x y : h6) : (x.n * y.d < y.n * x.d ∧ hT x y < 0) ∨ (x.n * y.d = y.n * x.d ∧ hT x y = 0) ∨ (y.n * x.d < x.n * y.d ∧ 0 < hT x y) := by
 have h1 := aaw (x.n * y.d) (y.n * x.d);have h2 := aav (x.n * y.d) (y.n * x.d);have ao := aau (x.n * y.d) (y.n * x.d);unfold hT;omega
theorem Pd (x y : h6) : (rv x y = x ∧ (0 < hT x y ∨ (hT x y = 0 ∧ y.own = true))) ∨ (rv x y = y ∧ ¬ (0 < hT x y ∨ (hT x y = 0 ∧ y.own = true))) := by
 unfold rv
 split
 ·rename_i h; exact .inl ⟨rfl, h⟩
 ·rename_i h; exact .inr ⟨rfl, h⟩
theorem MJ (x y : h6) : (q9 x y = x ∧ (hT x y < 0 ∨ (hT x y = 0 ∧ y.own = true))) ∨ (q9 x y = y ∧ ¬ (hT x y < 0 ∨ (hT x y = 0 ∧ y.own = true))) := by
 unfold q9
 split
 ·rename_i h; exact .inl ⟨rfl, h⟩
 ·rename_i h; exact .inr ⟨rfl, h⟩
theorem Uv {x y : h6} {n d : Int} (aa : 0 < x.d) (ag : 0 < y.d) (hd : 0 < d) : qS (rv x y) n d ↔ qS x n d ∧ qS y n d := by
 unfold qS;rcases Pd x y with ⟨e, h⟩ | ⟨e, h⟩ <;> rw [e] <;> rcases C0 x y with ⟨t, c⟩ | ⟨t, c⟩ | ⟨t, c⟩
 ·omega
 ·have aB : y.own = true := by rcases h with h | ⟨_, h⟩ <;> first | exact h | (exfalso; omega)
  refine ⟨fun k => ⟨k, ?_⟩, fun k => k.1⟩;rcases k with k | ⟨_, k⟩
  ·exact .inl (xK ag aa hd t.symm k)
  ·exact .inr ⟨aB, Hq ag aa hd t.symm k⟩
 ·refine ⟨fun k => ⟨k, ?_⟩, fun k => k.1⟩;rcases k with k | ⟨_, k⟩
  ·exact .inl (vR ag aa hd t k)
  ·exact .inl (xL ag aa hd t k)
 ·refine ⟨fun k => ⟨?_, k⟩, fun k => k.2⟩;rcases k with k | ⟨_, k⟩
  ·exact .inl (vR aa ag hd t k)
  ·exact .inl (xL aa ag hd t k)
 ·refine ⟨fun k => ⟨?_, k⟩, fun k => k.2⟩;have aB : ¬ y.own = true := fun q => h (.inr ⟨c, q⟩);rcases k with k | ⟨q, k⟩
  ·exact .inl (xK aa ag hd t k)
  ·exact absurd q aB
 ·omega
theorem Vs {x y : h6} {n d : Int} (aa : 0 < x.d) (ag : 0 < y.d) (hd : 0 < d) : qT (q9 x y) n d ↔ qT x n d ∧ qT y n d := by
 unfold qT;rcases MJ x y with ⟨e, h⟩ | ⟨e, h⟩ <;> rw [e] <;> rcases C0 x y with ⟨t, c⟩ | ⟨t, c⟩ | ⟨t, c⟩
 ·refine ⟨fun k => ⟨k, ?_⟩, fun k => k.1⟩;rcases k with k | ⟨_, k⟩
  ·exact .inl (vR hd aa ag k t)
  ·exact .inl (xK hd aa ag k t)
 ·have aB : y.own = true := by rcases h with h | ⟨_, h⟩ <;> first | exact h | (exfalso; omega)
  refine ⟨fun k => ⟨k, ?_⟩, fun k => k.1⟩;rcases k with k | ⟨_, k⟩
  ·exact .inl (xL hd aa ag k t)
  ·exact .inr ⟨aB, Hq hd aa ag k t⟩
 ·omega
 ·omega
 ·refine ⟨fun k => ⟨?_, k⟩, fun k => k.2⟩;have aB : ¬ y.own = true := fun q => h (.inr ⟨c, q⟩);rcases k with k | ⟨q, k⟩
  ·exact .inl (xL hd ag aa k t.symm)
  ·exact absurd q aB
 ·refine ⟨fun k => ⟨?_, k⟩, fun k => k.2⟩;rcases k with k | ⟨_, k⟩
  ·exact .inl (vR hd ag aa k t)
  ·exact .inl (xK hd ag aa k t)
def iH (u v : Int) (own : Bool) (n d : Int) : Prop := 0 < u * (d - n) + v * n ∨ (own = true ∧ u * (d - n) + v * n = 0)
theorem Ew {p : Pa} {u v n d : Int} {own : Bool} (aw : 0 < p.f.d) (aF : 0 < p.t.d) (hd : 0 < d) : pM (ou p u v own) n d ↔ pM p n d ∧ iH u v own n d := by
 have dl : u * (d - n) + v * n = (v - u) * n + u * d := by grind
 unfold ou
 by_cases h1 : 0 < v - u
 ·rw [if_pos h1];unfold pM;rw [Uv aw h1 hd]
  have : qS ⟨-u, v - u, own⟩ n d ↔ iH u v own n d := by
   unfold qS iH;simp only;have aG : -u * d = -(u * d) := by grind
   have aM : n * (v - u) = (v - u) * n := by grind
   rw [dl, aG, aM]
   constructor
   ·rintro (k | ⟨k, l⟩)
    ·exact .inl (by omega)
    ·exact .inr ⟨k, by omega⟩
   ·rintro (k | ⟨k, l⟩)
    ·exact .inl (by omega)
    ·exact .inr ⟨k, by omega⟩
  rw [this]
  constructor
  ·rintro ⟨⟨a, b⟩, c⟩; exact ⟨⟨a, c⟩, b⟩
  ·rintro ⟨⟨a, c⟩, b⟩; exact ⟨⟨a, b⟩, c⟩
 ·rw [if_neg h1]
  by_cases h2 : v - u < 0
  ·rw [if_pos h2];unfold pM;have an : (0 : Int) < -(v - u) := by omega
   rw [Vs aF an hd]
   have : qT ⟨u, -(v - u), own⟩ n d ↔ iH u v own n d := by
    unfold qT iH;simp only;have aM : n * -(v - u) = -((v - u) * n) := by grind
    rw [dl, aM]
    constructor
    ·rintro (k | ⟨k, l⟩)
     ·exact .inl (by omega)
     ·exact .inr ⟨k, by omega⟩
    ·rintro (k | ⟨k, l⟩)
     ·exact .inl (by omega)
     ·exact .inr ⟨k, by omega⟩
   rw [this]
   constructor
   ·rintro ⟨a, b, c⟩; exact ⟨⟨a, b⟩, c⟩
   ·rintro ⟨⟨a, b⟩, c⟩; exact ⟨a, b, c⟩
  ·rw [if_neg h2];have cD : v - u = 0 := by omega
   have eR : u * (d - n) + v * n = u * d := by rw [dl, cD]; omega
   by_cases ao : u < 0 ∨ (u = 0 ∧ own = false)
   ·rw [if_pos ao]
    have fY : ¬ iH u v own n d := by
     unfold iH;rw [eR];rcases ao with ao | ⟨rfl, rfl⟩
     ·have := pj ao hd;omega
     ·simp
    refine ⟨fun k => absurd k ?_, fun k => absurd k.2 fY⟩;unfold pM qS qT;simp;omega
   ·rw [if_neg ao]
    have aaq : iH u v own n d := by
     unfold iH;rw [eR]
     by_cases aH : u = 0
     ·subst aH;right;refine ⟨?_, by simp⟩;cases own with
      | true => rfl
      | false => exact absurd (.inr ⟨rfl, rfl⟩) ao
     ·left;have : 0 < u := by omega
      have := pj this hd;omega
    exact ⟨fun k => ⟨k, aaq⟩, fun k => k.1⟩
theorem abB {x y : h6} (aa : 0 < x.d) (ag : 0 < y.d) : 0 < (rv x y).d := by unfold rv; split <;> assumption
theorem WZ {x y : h6} (aa : 0 < x.d) (ag : 0 < y.d) : 0 < (q9 x y).d := by unfold q9; split <;> assumption
theorem wy {p : Pa} {u v : Int} {own : Bool} (aw : 0 < p.f.d) (aF : 0 < p.t.d) : 0 < (ou p u v own).f.d ∧ 0 < (ou p u v own).t.d := by
 unfold ou
 by_cases h1 : 0 < v - u
 ·rw [if_pos h1]; exact ⟨abB aw h1, aF⟩
 ·rw [if_neg h1]
  by_cases h2 : v - u < 0
  ·rw [if_pos h2]; exact ⟨aw, WZ aF (by simp only; omega)⟩
  ·rw [if_neg h2]
   split
   ·exact ⟨by decide, by decide⟩
   ·exact ⟨aw, aF⟩
def PM (x y : h6) : Int := x.n * y.d + y.n * x.d
def Jl (x y : h6) : Int := x.d * y.d + x.d * y.d
theorem acq {p : Pa} (aw : 0 < p.f.d) (aF : 0 < p.t.d) (h : p.f.n * p.t.d < p.t.n * p.f.d) : 0 < Jl p.f p.t ∧ pM p (PM p.f p.t) (Jl p.f p.t) := by
 unfold PM Jl pM qS qT;have hm : 0 < p.f.d * p.t.d := Int.mul_pos aw aF;refine ⟨by omega, .inl ?_, .inl ?_⟩
 ·have := pj h aw;grind
 ·have := pj h aF;grind
theorem Vg {p : Pa} (aw : 0 < p.f.d) (aF : 0 < p.t.d) : xp p = true ↔ ∃ n d, 0 < d ∧ pM p n d := by
 unfold xp;simp only [rK, eh, cL]
 constructor
 ·intro h;rcases C0 p.f p.t with ⟨t, c⟩ | ⟨t, c⟩ | ⟨t, c⟩
  ·obtain ⟨h1, h2⟩ := acq aw aF t;exact ⟨_, _, h1, h2⟩
  ·rcases h with h | ⟨⟨_, h1⟩, h2⟩
   ·omega
   ·exact ⟨p.f.n, p.f.d, aw, .inr ⟨h1, rfl⟩, .inr ⟨h2, t⟩⟩
  ·rcases h with h | ⟨⟨h, _⟩, _⟩ <;> omega
 ·rintro ⟨n, d, hd, h1, h2⟩;rcases C0 p.f p.t with ⟨t, c⟩ | ⟨t, c⟩ | ⟨t, c⟩
  ·exact .inl c
  ·right;refine ⟨⟨c, ?_⟩, ?_⟩
   ·rcases h1 with h1 | ⟨h1, _⟩
    ·exfalso;rcases h2 with h2 | ⟨_, h2⟩
     ·have := vR aw hd aF h1 h2; omega
     ·have := xL aw hd aF h1 h2; omega
    ·exact h1
   ·rcases h2 with h2 | ⟨h2, _⟩
    ·exfalso;rcases h1 with h1 | ⟨_, h1⟩
     ·have := vR aw hd aF h1 h2; omega
     ·have := xK aw hd aF h1 h2; omega
    ·exact h2
  ·exfalso;rcases h1 with h1 | ⟨_, h1⟩ <;> rcases h2 with h2 | ⟨_, h2⟩
   ·have := vR aw hd aF h1 h2; omega
   ·have := xL aw hd aF h1 h2; omega
   ·have := xK aw hd aF h1 h2; omega
   ·have := Hq aw hd aF h1 h2; omega
def tW (cH v1 cC v2 im v3 kh v4 : Int) (o p : Bool) : Pa := ou (ou (ou (ou vz cH v1 o) cC v2 o) im v3 p) kh v4 p
theorem Wf (cH v1 cC v2 im v3 kh v4 : Int) (o p : Bool) : 0 < (tW cH v1 cC v2 im v3 kh v4 o p).f.d ∧ 0 < (tW cH v1 cC v2 im v3 kh v4 o p).t.d := by
 unfold tW;have h1 := wy (p := vz) (u := cH) (v := v1) (own := o) (by decide) (by decide);have h2 := wy (u := cC) (v := v2) (own := o) h1.1 h1.2;have ao := wy (u := im) (v := v3) (own := p) h2.1 h2.2;exact wy (u := kh) (v := v4) (own := p) ao.1 ao.2
theorem UW {n d : Int} (hd : 0 < d) : pM vz n d ↔ 0 ≤ n ∧ n ≤ d := by
 unfold pM qS qT vz;simp;omega
theorem Mo {cH v1 cC v2 im v3 kh v4 n d : Int} {o p : Bool} (hd : 0 < d) : pM (tW cH v1 cC v2 im v3 kh v4 o p) n d ↔ (0 ≤ n ∧ n ≤ d) ∧ iH cH v1 o n d ∧ iH cC v2 o n d ∧ iH im v3 p n d ∧ iH kh v4 p n d := by
 unfold tW;have h1 := wy (p := vz) (u := cH) (v := v1) (own := o) (by decide) (by decide);have h2 := wy (u := cC) (v := v2) (own := o) h1.1 h1.2;have ao := wy (u := im) (v := v3) (own := p) h2.1 h2.2;rw [Ew ao.1 ao.2 hd, Ew h2.1 h2.2 hd, Ew h1.1 h1.2 hd, Ew (by decide) (by decide) hd, UW hd];simp only [and_assoc]
def Met (cH v1 cC v2 im v3 kh v4 : Int) (o p : Bool) : Prop := ∃ n d, 0 < d ∧ (0 ≤ n ∧ n ≤ d) ∧ iH cH v1 o n d ∧ iH cC v2 o n d ∧ iH im v3 p n d ∧ iH kh v4 p n d
theorem We (cH v1 cC v2 im v3 kh v4 : Int) (o p : Bool) : xp (tW cH v1 cC v2 im v3 kh v4 o p) = true ↔ Met cH v1 cC v2 im v3 kh v4 o p := by
 obtain ⟨h1, h2⟩ := Wf cH v1 cC v2 im v3 kh v4 o p;rw [Vg h1 h2]
 constructor
 ·rintro ⟨n, d, hd, h⟩; exact ⟨n, d, hd, (Mo hd).1 h⟩
 ·rintro ⟨n, d, hd, h⟩; exact ⟨n, d, hd, (Mo hd).2 h⟩
def xc (X Y W a1 a2 b1 b2 : Int) : Prop := ∃ n d, 0 < d ∧ (0 ≤ n ∧ n ≤ d) ∧ X * d = W * (a1 * (d - n) + b1 * n) ∧ Y * d = W * (a2 * (d - n) + b2 * n)
theorem QG {p1 p2 a1 a2 b1 b2 : Int} (h : dx p1 p2 a1 a2 b1 b2) : xc p1 p2 1 a1 a2 b1 b2 := by
 obtain ⟨aJ, h1, h2, ao, aH⟩ := h;unfold ct at aJ;unfold hr at h1 ao;unfold hq at h2 aH;rcases Int.lt_trichotomy a1 b1 with g | g | g
 ·rw [if_neg (by omega)] at h1; rw [if_pos (show b1 > a1 from g)] at h2;exact ⟨p1 - a1, b1 - a1, by omega, by omega, by grind, by grind⟩
 ·subst g;rcases Int.lt_trichotomy a2 b2 with g | g | g
  ·rw [if_neg (by omega)] at ao; rw [if_pos (show b2 > a2 from g)] at aH;have : p1 = a1 := by split at h1 <;> split at h2 <;> omega
   exact ⟨p2 - a2, b2 - a2, by omega, by omega, by grind, by grind⟩
  ·subst g;have aG : p1 = a1 := by split at h1 <;> split at h2 <;> omega
   have aM : p2 = a2 := by split at ao <;> split at aH <;> omega
   exact ⟨0, 1, by omega, by omega, by grind, by grind⟩
  ·rw [if_pos g] at ao; rw [if_neg (by omega)] at aH;have : p1 = a1 := by split at h1 <;> split at h2 <;> omega
   exact ⟨a2 - p2, a2 - b2, by omega, by omega, by grind, by grind⟩
 ·rw [if_pos g] at h1; rw [if_neg (by omega)] at h2;exact ⟨a1 - p1, a1 - b1, by omega, by omega, by grind, by grind⟩
theorem Kk {v W : Int} (e9 : 0 < W) (h : 0 ≤ v * W) : 0 ≤ v := by
 refine Int.not_lt.1 fun bh => ?_;have := Int.mul_lt_mul_of_pos_right bh e9;omega
theorem aga {v W : Int} (e9 : 0 < W) (h : 0 < v * W) : 0 < v := by
 refine Int.not_le.1 fun hle => ?_;have := qB hle (show 0 ≤ W by omega);omega
theorem Rm {X Y W a1 a2 b1 b2 l1 l2 h1 h2 : Int} (e9 : 0 < W) (h : xc X Y W a1 a2 b1 b2) (g1 : l1 * W ≤ 2 * X) (g2 : l2 * W ≤ 2 * Y) (g3 : 2 * X < h1 * W) (g4 : 2 * Y < h2 * W) :
  Met (2 * a1 - l1) (2 * b1 - l1) (2 * a2 - l2) (2 * b2 - l2) (h1 - 2 * a1) (h1 - 2 * b1) (h2 - 2 * a2) (h2 - 2 * b2) true false := by
 obtain ⟨n, d, hd, aD, aG, aM⟩ := h
 have low : ∀ {X a b l : Int}, X * d = W * (a * (d - n) + b * n) → l * W ≤ 2 * X → iH (2 * a - l) (2 * b - l) true n d := fun {X a b l} e g => by
  have k := il (show 0 ≤ d by omega) (show 0 ≤ 2 * X - l * W by omega);have bu : ((2 * a - l) * (d - n) + (2 * b - l) * n) * W = d * (2 * X - l * W) := by grind
  rw [← bu] at k;rcases Int.lt_or_eq_of_le (Kk e9 k) with h | h
  ·exact .inl h
  ·exact .inr ⟨rfl, h.symm⟩
 have high : ∀ {X a b l : Int}, X * d = W * (a * (d - n) + b * n) → 2 * X < l * W → iH (l - 2 * a) (l - 2 * b) false n d := fun {X a b l} e g => by
  have k := Int.mul_pos hd (show 0 < l * W - 2 * X by omega);have bu : ((l - 2 * a) * (d - n) + (l - 2 * b) * n) * W = d * (l * W - 2 * X) := by grind
  rw [← bu] at k;exact .inl (aga e9 k)
 exact ⟨n, d, hd, aD, low aG g1, low aM g2, high aG g3, high aM g4⟩
theorem Rl {X Y W a1 a2 b1 b2 : Int} (h : xc X Y W a1 a2 b1 b2) : (b1 - a1) * (Y - a2 * W) = (b2 - a2) * (X - a1 * W) := by
 obtain ⟨n, d, hd, aD, aG, aM⟩ := h;have : d * ((b1 - a1) * (Y - a2 * W) - (b2 - a2) * (X - a1 * W)) = 0 := by grind
 rcases th.1 this with h | h
 ·omega
 ·omega
theorem PC {a1 a2 b1 b2 c1 c2 d1 d2 X Y W bn : Int} (h : c5 a1 a2 b1 b2 c1 c2 d1 d2 ≠ 0) (e : nb a1 a2 b1 b2 c1 c2 d1 d2 = jr X W Y bn) : bn = W ∧ 0 < W ∧ xc X Y W c1 c2 d1 d2 := by
 obtain ⟨_, ca⟩ := SC h;unfold nb uN at e
 split at e
 ·rename_i aH;obtain ⟨_, _, bC, cd⟩ := aH;have aG := congrArg fU.n e;have aM := congrArg fU.d e;have cD := congrArg fU.m e;have eR := congrArg fU.e e;simp only [jr] at aG aM cD eR;have HR := Jz a1 a2 b1 b2 c1 c2 d1 d2;have NE := JA a1 a2 b1 b2 c1 c2 d1 d2;have hw := KA a1 a2 b1 b2 c1 c2 d1 d2;rw [← aM, ← eR];refine ⟨rfl, Qk h, ?_⟩;rw [sr] at bC cd;unfold jJ at aG cD bC cd;unfold iR at bC cd ⊢
  by_cases hs : c5 a1 a2 b1 b2 c1 c2 d1 d2 < 0
  ·rw [if_pos hs] at aG cD bC cd ⊢;rw [if_pos hs] at bC cd
   have := (CQ (x := d1) (y := c1) (u := d2) (v := c2) (A := -ct a1 a2 b1 b2 d1 d2) (B := -ct a1 a2 b1 b2 c1 c2) (D := -c5 a1 a2 b1 b2 c1 c2 d1 d2) (by omega) (by omega) (by omega)).1 ⟨by
    rw [show c1 * -ct a1 a2 b1 b2 d1 d2 - d1 * -ct a1 a2 b1 b2 c1 c2 = -kb a1 a2 b1 b2 c1 c2 d1 d2 by grind]; exact bC, by
    rw [show c2 * -ct a1 a2 b1 b2 d1 d2 - d2 * -ct a1 a2 b1 b2 c1 c2 = -kc a1 a2 b1 b2 c1 c2 d1 d2 by grind]; exact cd⟩
   exact ⟨ct a1 a2 b1 b2 c1 c2, -c5 a1 a2 b1 b2 c1 c2 d1 d2, by omega, by omega, by rw [← aG]; grind, by rw [← cD]; grind⟩
  ·rw [if_neg hs] at aG cD bC cd ⊢;rw [if_neg hs] at bC cd
   have := (CQ (x := d1) (y := c1) (u := d2) (v := c2) (A := ct a1 a2 b1 b2 d1 d2) (B := ct a1 a2 b1 b2 c1 c2) (D := c5 a1 a2 b1 b2 c1 c2 d1 d2) (by omega) (by omega) (by omega)).1 ⟨by
    rw [HR]; exact bC, by
    rw [NE]; exact cd⟩
   exact ⟨-ct a1 a2 b1 b2 c1 c2, c5 a1 a2 b1 b2 c1 c2 d1 d2, by omega, by omega, by rw [← aG]; grind, by rw [← cD]; grind⟩
 ·have := congrArg fU.k e;simp [ig, jr] at this
theorem EH {a1 a2 b1 b2 c1 c2 d1 d2 X Y W bn : Int} (e : hL a1 a2 b1 b2 c1 c2 d1 d2 = jr X W Y bn) : bn = W ∧ 0 < W ∧ xc X Y W a1 a2 b1 b2 ∧ xc X Y W c1 c2 d1 d2 ∧ (∀ p1 p2, dx p1 p2 a1 a2 b1 b2 → dx p1 p2 c1 c2 d1 d2 → X = p1 * W ∧ Y = p2 * W) := by
 unfold hL at e
 split at e
 ·rename_i hw;unfold uH inl at e
  split at e
  ·rename_i mV;obtain ⟨o1, o2⟩ := mV;unfold wu at e
   split at e
   ·rename_i xW;have aG := congrArg fU.n e;have aM := congrArg fU.d e;have cD := congrArg fU.m e;have eR := congrArg fU.e e;simp only [jr] at aG aM cD eR;subst aM; subst eR;rw [Bb] at o1 o2;rw [aG, cD] at o1 o2;refine ⟨rfl, by decide, QG o1, QG o2, fun p1 p2 hp an => ?_⟩
    have ZS : pu (eS a1 a2 b1 b2) (eA a1 a2 b1 b2) (eC a1 a2 b1 b2) (ef a1 a2 b1 b2) (eS c1 c2 d1 d2) (eA c1 c2 d1 d2) (eC c1 c2 d1 d2) (ef c1 c2 d1 d2) = 0 := by
     rw [SD] at hw;rcases nF a1 a2 b1 b2 with ⟨h1, h2, ao, aH, _⟩ | ⟨h1, h2, ao, aH, _⟩ <;> rcases nF c1 c2 d1 d2 with ⟨bC, cd, ie, jI, _⟩ | ⟨bC, cd, ie, jI, _⟩ <;> rw [h1, h2, ao, aH, bC, cd, ie, jI] <;> unfold pu at hw ⊢ <;> grind
    obtain ⟨_, _, _, _, l1, l2⟩ := Pk (yd a1 a2 b1 b2) (yd c1 c2 d1 d2) ZS (Bb.2 hp) (Bb.2 an);rw [← xW.1, ← xW.2] at l2;have := dy.CH l1 l2;omega
   ·have := congrArg fU.k e;simp [tJ, jr] at this
  ·have := congrArg fU.k e;simp [ig, jr] at this
 ·rename_i hw;obtain ⟨g1, g2, g3⟩ := PC hw e;have lu : c5 c1 c2 d1 d2 a1 a2 b1 b2 ≠ 0 := by rw [yM]; omega
  obtain ⟨_, _, g4⟩ := PC lu (by rw [PD hw]; exact e);refine ⟨g1, g2, g4, g3, fun p1 p2 hp an => ?_⟩;have l1 := Rl g4;have l2 := Rl g3;have q1 := hp.1;have q2 := an.1;unfold ct at q1 q2
  have line : ∀ {a1 a2 b1 b2 : Int}, (b1 - a1) * (Y - a2 * W) = (b2 - a2) * (X - a1 * W) → (b1 - a1) * (p2 - a2) - (b2 - a2) * (p1 - a1) = 0 → (b1 - a1) * (Y - p2 * W) = (b2 - a2) * (X - p1 * W) := fun {a1 a2 b1 b2} l q => by
   have z : (b1 - a1) * (Y - p2 * W) - (b2 - a2) * (X - p1 * W) = ((b1 - a1) * (Y - a2 * W) - (b2 - a2) * (X - a1 * W)) - ((b1 - a1) * (p2 - a2) - (b2 - a2) * (p1 - a1)) * W := by grind
   rw [q, l, Int.zero_mul] at z;omega
  have m1 := line l1 q1;have m2 := line l2 q2
  have kk : c5 a1 a2 b1 b2 c1 c2 d1 d2 * (X - p1 * W) = 0 := by
   have z : c5 a1 a2 b1 b2 c1 c2 d1 d2 * (X - p1 * W) = (b1 - a1) * ((d2 - c2) * (X - p1 * W)) - (d1 - c1) * ((b2 - a2) * (X - p1 * W)) := by unfold c5; grind
   rw [z, ← m1, ← m2, Int.mul_left_comm];omega
  have z2 : c5 a1 a2 b1 b2 c1 c2 d1 d2 * (Y - p2 * W) = 0 := by
   have z : c5 a1 a2 b1 b2 c1 c2 d1 d2 * (Y - p2 * W) = (d2 - c2) * ((b1 - a1) * (Y - p2 * W)) - (b2 - a2) * ((d1 - c1) * (Y - p2 * W)) := by unfold c5; grind
   rw [z, m1, m2, Int.mul_left_comm];omega
  have l8 := (th.1 kk).resolve_left hw;have rW := (th.1 z2).resolve_left hw;omega
def y0 (S : Int) (p q x : Int × Int) : Prop := Met (2 * (S * p.1) - (2 * (S * x.1) - S)) (2 * (S * q.1) - (2 * (S * x.1) - S)) (2 * (S * p.2) - (2 * (S * x.2) - S)) (2 * (S * q.2) - (2 * (S * x.2) - S)) (2 * (S * x.1) + S - 2 * (S * p.1)) (2 * (S * x.1) + S - 2 * (S * q.1)) (2 * (S * x.2) + S - 2 * (S * p.2)) (2 * (S * x.2) + S - 2 * (S * q.2)) true false
def Ci (S X Y W : Int) (x : Int × Int) : Prop := ((2 * (S * x.1) - S) * W ≤ 2 * X ∧ 2 * X < (2 * (S * x.1) + S) * W) ∧ (2 * (S * x.2) - S) * W ≤ 2 * Y ∧ 2 * Y < (2 * (S * x.2) + S) * W
abbrev K0 (S : Int) (x p q : Int × Int) : Prop := dx (S * x.1) (S * x.2) (S * p.1) (S * p.2) (S * q.1) (S * q.2)
theorem QD (S : Int) (p q : Int × Int) : K0 S p p q := by
 refine ⟨G0 .., ?_⟩;unfold sX hr hq
 split <;> split <;> split <;> split <;> omega
theorem QE (S : Int) (p q : Int × Int) : K0 S q p q := by
 refine ⟨Ml .., ?_⟩;unfold sX hr hq
 split <;> split <;> split <;> split <;> omega
theorem acn {S : Int} (hS : 0 < S) {p q dA bT x : Int × Int} {X Y W bn : Int} (e : hL (S * p.1) (S * p.2) (S * q.1) (S * q.2) (S * dA.1) (S * dA.2) (S * bT.1) (S * bT.2) = jr X W Y bn) (aa : Ci S X Y W x) (h1 : y0 S p q x → x = p ∨ x = q) (h2 : y0 S dA bT x → x = dA ∨ x = bT) :
  (x = p ∨ x = q) ∧ (x = dA ∨ x = bT) ∧ X = S * x.1 * W ∧ Y = S * x.2 * W := by
 obtain ⟨_, e9, g1, g2, g3⟩ := EH e;obtain ⟨⟨b1, b2⟩, ey, dQ⟩ := aa;have bC := h1 (Rm e9 g1 b1 ey b2 dQ);have cd := h2 (Rm e9 g2 b1 ey b2 dQ);refine ⟨bC, cd, g3 _ _ ?_ ?_⟩
 ·rcases bC with rfl | rfl
  ·exact QD ..
  ·exact QE ..
 ·rcases cd with rfl | rfl
  ·exact QD ..
  ·exact QE ..
end Go.Proofs.YtpochbhajmbfdaaGreat
namespace Go.Proofs.YtpochbhajmbfdaaGreat.bt
abbrev h9 := Int × Int
abbrev PB (S : Int) (l m : h9 × h9) : fU := hL (S * l.1.1) (S * l.1.2) (S * l.2.1) (S * l.2.2) (S * m.1.1) (S * m.1.2) (S * m.2.1) (S * m.2.2)
def vu (l m : h9 × h9) : Prop := l.1 = m.1 ∨ l.1 = m.2 ∨ l.2 = m.1 ∨ l.2 = m.2
structure y5 (S : Int) (o : bN h9) : Prop where
 pos : 0 < S
 Zv : ∀ p q x, o.DT p q x = true → y0 S p q x
 NW : ∀ p q x, o.hk p → o.hk q → o.hk x → y0 S p q x → o.DT p q x = true
 Mn : ∀ l m x, o.cut l m = some x → ¬ vu l m ∧ ∃ X Y W bn, PB S l m = jr X W Y bn ∧ Ci S X Y W x
 Wd : ∀ l m, o.hk l.1 → o.hk l.2 → o.hk m.1 → o.hk m.2 → o.cut l m = none → (PB S l m).k = 1 → vu l m
theorem y5.own {S : Int} {o : bN h9} (h : y5 S o) {hot : List h9} (ax : ∀ y ∈ hot, o.hk y) {p q x : h9} (hp : p ∈ hot) (an : q ∈ hot) (aa : x ∈ hot) (hs : nv o hot p q) (hm : y0 S p q x) : x = p ∨ x = q := by
 have h1 := hs x aa;have h2 := h.NW p q x (ax _ hp) (ax _ an) (ax _ aa) hm;unfold fF at h1;rw [h2, Bool.and_true, Bool.and_eq_false_iff] at h1;rcases h1 with h1 | h1
 ·exact .inl (by simpa using h1)
 ·exact .inr (by simpa using h1)
theorem y5.Wi {S : Int} {o : bN h9} (h : y5 S o) (hot : List h9) (p q dA bT x : h9) (ax : ∀ y ∈ hot, o.hk y) (hp : p ∈ hot) (an : q ∈ hot) (mW : dA ∈ hot) (og : bT ∈ hot) (hs : nv o hot p q) (gA : nv o hot dA bT) (ak : o.cut (p, q) (dA, bT) = some x) : x ∉ hot := fun aa => by
 obtain ⟨aD, X, Y, W, bn, e, ha⟩ := h.Mn _ _ _ ak;obtain ⟨g1, g2, _⟩ := acn h.pos e ha (h.own ax hp an aa hs) (h.own ax mW og aa gA);refine aD ?_;unfold vu;rcases g1 with rfl | rfl <;> rcases g2 with g2 | g2
 ·exact .inl g2
 ·exact .inr (.inl g2)
 ·exact .inr (.inr (.inl g2))
 ·exact .inr (.inr (.inr g2))
end Go.Proofs.YtpochbhajmbfdaaGreat.bt
namespace Go.Proofs.YtpochbhajmbfdaaGreat
def gD (S X W : Int) : Int := (2 * X + S * W) / (2 * (S * W))
theorem Fe {S W : Int} (hS : 0 < S) (e9 : 0 < W) (X : Int) : (2 * (S * gD S X W) - S) * W ≤ 2 * X ∧ 2 * X < (2 * (S * gD S X W) + S) * W := by
 have YD := Int.mul_pos hS e9;unfold gD;have h1 := ti (2 * X + S * W) (2 * (S * W));have h2 := pz (2 * X + S * W) (show 2 * (S * W) ≠ 0 by omega);have ao := oE (2 * X + S * W) (show 0 < 2 * (S * W) by omega);generalize (2 * X + S * W) / (2 * (S * W)) = g at *;generalize (2 * X + S * W) % (2 * (S * W)) = m at *;have aG : (2 * (S * g) - S) * W = 2 * (S * W) * g - S * W := by grind
 have aM : (2 * (S * g) + S) * W = 2 * (S * W) * g + S * W := by grind
 omega
theorem aaD {S X Y W : Int} (hS : 0 < S) (e9 : 0 < W) : Ci S X Y W (gD S X W, gD S Y W) := ⟨Fe hS e9 X, Fe hS e9 Y⟩
theorem Rs {S X W n d p q g : Int} (hS : 0 < S) (e9 : 0 < W) (hd : 0 < d) (aD : 0 ≤ n ∧ n ≤ d) (e : X * d = W * (S * p * (d - n) + S * q * n)) (h1 : (2 * (S * g) - S) * W ≤ 2 * X) (h2 : 2 * X < (2 * (S * g) + S) * W) : (p ≤ q → p ≤ g ∧ g ≤ q) ∧ (q ≤ p → q ≤ g ∧ g ≤ p) := by
 have YD := Int.mul_pos hS e9
 have abZ : ∀ {b : Int}, b ≤ p → b ≤ q → S * W * b ≤ X := fun {b} bC cd => by
  have m1 := il (show 0 ≤ S * W by omega) (il (show 0 ≤ p - b by omega) (show 0 ≤ d - n by omega));have m2 := il (show 0 ≤ S * W by omega) (il (show 0 ≤ q - b by omega) aD.1);have bu : (X - S * W * b) * d = S * W * ((p - b) * (d - n)) + S * W * ((q - b) * n) := by grind
  have := Kk (v := X - S * W * b) hd (by rw [bu]; omega);omega
 have Zu : ∀ {b : Int}, p ≤ b → q ≤ b → X ≤ S * W * b := fun {b} bC cd => by
  have m1 := il (show 0 ≤ S * W by omega) (il (show 0 ≤ b - p by omega) (show 0 ≤ d - n by omega));have m2 := il (show 0 ≤ S * W by omega) (il (show 0 ≤ b - q by omega) aD.1);have bu : (S * W * b - X) * d = S * W * ((b - p) * (d - n)) + S * W * ((b - q) * n) := by grind
  have := Kk (v := S * W * b - X) hd (by rw [bu]; omega);omega
 have low : ∀ {b : Int}, b ≤ p → b ≤ q → b ≤ g := fun {b} bC cd => by
  have HR := abZ bC cd;refine Int.not_lt.1 fun bh => ?_;have m := qA (show g + 1 ≤ b by omega) (show 0 ≤ S * W by omega);have aM : (2 * (S * g) + S) * W = 2 * (S * W * (g + 1)) - S * W := by grind
  omega
 have high : ∀ {b : Int}, p ≤ b → q ≤ b → g ≤ b := fun {b} bC cd => by
  have HR := Zu bC cd;refine Int.not_lt.1 fun bh => ?_;have m := qA (show b + 1 ≤ g by omega) (show 0 ≤ S * W by omega);have aG : (2 * (S * g) - S) * W = 2 * (S * W * g) - S * W := by grind
  have cD : S * W * (b + 1) = S * W * b + S * W := by grind
  omega
 exact ⟨fun h => ⟨low (nM _) h, high h (nM _)⟩, fun h => ⟨low h (nM _), high (nM _) h⟩⟩
def e5 (lt : Int × Int → Int × Int → Bool) : List (Int × Int) → List (Int × Int) → List (Int × Int)
 | [], b => b
 | x :: a, [] => x :: a
 | x :: a, y :: b => if lt y x then y :: e5 lt (x :: a) b else x :: e5 lt a (y :: b)
termination_by a b => a.length + b.length
theorem Jt (lt : Int × Int → Int × Int → Bool) (a : List (Int × Int)) : e5 lt a [] = a := by cases a <;> simp [e5]
theorem acu (lt : Int × Int → Int × Int → Bool) (a : List (Int × Int)) : e5 lt [] a = a := by simp [e5]
theorem Js (lt : Int × Int → Int × Int → Bool) : ∀ a b, (e5 lt a b).length = a.length + b.length := by
 intro a b
 induction a, b using e5.induct lt with
 | case1 b => simp [e5]
 | case2 x a => simp [e5]
 | case3 x a y b h bW => rw [e5, if_pos h, lB, bW]; simp; omega
 | case4 x a y b h bW => rw [e5, if_neg h, lB, bW]; simp; omega
def ja (lt : Int × Int → Int × Int → Bool) (l : List (Int × Int)) : List (Int × Int) :=
 if h : l.length < 2 then l else e5 lt (ja lt (l.take (l.length / 2))) (ja lt (l.drop (l.length / 2)))
termination_by l.length
decreasing_by all_goals (simp; omega)
theorem FL (lt : Int × Int → Int × Int → Bool) : ∀ (N : Nat) (l : List (Int × Int)), l.length ≤ N → (ja lt l).length = l.length
 | 0, l, h => by rw [ja, dif_pos (by omega)]
 | N + 1, l, h => by
  rw [ja]
  split
  ·rfl
  ·rw [Js, FL lt N _ (by simp; omega), FL lt N _ (by simp; omega)];simp; omega
end Go.Proofs.YtpochbhajmbfdaaGreat
namespace Go.Proofs.YtpochbhajmbfdaaGreat
open Go.RowKit
structure KT where
 v : Value
 n : Nat
 xs : List Value
section
variable {P : Program} {B l9 : e8} {A dW : Nat → Prop} {s s' : aE} {ad : Nat → Nat} {a : Act} {w w' : World}
theorem Rel.zh (h : Rel B A s ad a w) (dJ : ∀ b, A b → b < w.heap.size → dW b ∧ w'.heap[b]? = w.heap[b]?) (ez : ∀ k cs, s.mem k = some cs → w'.heap[ad k]? = w.heap[ad k]? ∧ ¬ l9.F (ad k)) (YU : km l9 w') (IE : ∀ b, l9.W.heap.size ≤ b → dW b) (HU : vc l9 s ad) (wa : l9.marks = B.marks := by rfl) : Rel l9 dW s ad a w' := by
 have NC : ∀ b, s.free A ad b → b < w.heap.size → s.free dW ad b ∧ w'.heap[b]? = w.heap[b]? := fun b ab ap => ⟨⟨(dJ b ab.1 ap).1, ab.2⟩, (dJ b ab.1 ap).2⟩;refine ⟨h.qx.trans wa.symm, h.size, fun t av aF => ?_, fun k cs ae => ?_, h.inj, YU, IE, HU⟩
 ·obtain ⟨v, h1, h2⟩ := h.hA t av aF;exact ⟨v, h1, h2.map NC fun _ _ => rfl⟩
 ·obtain ⟨vs, ty, h1, h2, ao⟩ := h.dG k cs ae;exact ⟨vs, ty, by rw [(ez k cs ae).1]; exact h1, h2.map NC fun _ _ _ _ => rfl, (ez k cs ae).2⟩
theorem Rel.RG {d : Nat} {av bv : ai} (h : Rel B A s ad a w) (hd : s.tmps d = some bv) (hv : ∀ v, a.tmps[d]? = some v → dn (s.free A ad) ad w bv v → dn (s.free A ad) ad w av v) : Rel B A (s.put (some d) av) ad a w := by
 refine ⟨h.qx, h.size, fun t cv aF => ?_, h.dG, h.inj, h.below, h.up, h.ku⟩;simp only [aE.put] at aF
 by_cases e : t = d
 ·subst e;rw [cw] at aF;cases aF;obtain ⟨v, h1, h2⟩ := h.hA t bv hd;exact ⟨v, h1, hv v h1 h2⟩
 ·rw [cl _ _ e] at aF;exact h.hA t cv aF
def n8 (B : e8) (s : aE) (ad : Nat → Nat) (w : World) : e8 := ⟨w, fun b => b < w.heap.size ∧ ∀ k cs, s.mem k = some cs → ad k ≠ b, fun _ h => h.1, fun k => if s.n ≤ k then some (ad k) else none, B.marks⟩
theorem xS {B : e8} (s : aE) (ad : Nat → Nat) (w : World) : vc (n8 B s ad w) s ad := fun k b ae => by
 simp only [n8] at ae
 split at ae
 ·rename_i h; exact ⟨h, mD ae⟩
 ·cases ae
theorem Vh {bq : e8} {s s' : aE} {ad bg : Nat → Nat} {w w' : World} {A : Nat → Prop} {a' : Act} (h : vc bq s ad) (cE : Rel (n8 bq s ad w) A s' bg a' w') : vc bq s' bg := fun k b ae => by
 obtain ⟨h1, h2⟩ := h k b ae;obtain ⟨ao, aH⟩ := cE.ku k (ad k) (by simp [n8, h1]);exact ⟨ao, aH.trans h2⟩
theorem Rel.hot (h : Rel B A s ad a w) (IE : ∀ b, w.heap.size ≤ b → A b) : Rel (n8 B s ad w) A s ad a w :=
 h.zh (fun b h _ => ⟨h, rfl⟩) (fun k cs ae => ⟨rfl, fun aw => aw.2 k cs ae rfl⟩) (km.refl _) IE (xS _ _ _)
theorem QL {base : Nat} {e : TypeId} {sz : Nat} {v : Value} {n : Nat} {xs : List Value} (h : w.ownsRow base e sz v n xs) (ax : ∀ g, v.ownBlock = some g → w'.heap[g]? = w.heap[g]?) : w'.ownsRow base e sz v n xs := by
 refine ⟨h.1, ?_⟩;rcases h.2 with aD | ⟨g, cap, cur, rfl, ab, ux, rest⟩
 ·exact .inl aD
 ·exact .inr ⟨g, cap, cur, rfl, ab, (ax g rfl).trans ux, rest⟩
end
section
variable {P : Program} {e sz : Nat} {t : KT} {s : aE} {Q : Exit → KT → aE → Prop} {x y c : Code}
theorem RV (w : World) (base : Nat) (t ty e : TypeId) (i : TypeInfo) (z : Value) (size bytes : Nat) (aF : P.underlying t = some (.slice e)) (hi : P.info? e = some i) (a6 : i.zero = some z)
  (hY : i.size = size) (lp : i.bytes = bytes) (pa : z.cells.size = size) (b4 : 0 < size)
  (v : Value) (n : Nat) (xs : List Value) (ez : w.ownsRow base e size v n xs)
  (a : Addr) (m c : Nat) (news : List Value) (ap : news.length = m * size) (ls : ∀ j u, news[j]? = some u → w.cell? (a.add j) = some u) (h1 : ∀ u ∈ news, u.oneCell' = true)
  (HE : n + m ≤ maxLen) (HW : (n + m) * bytes ≤ 140737488355328) (n8 : base ≤ w.heap.size) (hm : 0 < m) :
  ∃ a7 w', (Builtin.append_ #[t, t] ty #[v, .slice (some a) m c]).run P w = .ok a7 w' ∧ w'.ownsRow base e size a7 (n + m) (xs ++ news) ∧ w.grownBy w' v.ownBlock ∧ (∀ g, a7.ownBlock = some g → v.ownBlock = some g ∨ w.heap.size ≤ g) ∧ a7.oneCell' = true := by
 obtain ⟨a7, w', al, h2, ao, aH⟩ := run_append_own (P := P) w base t ty e i z size bytes aF hi a6 hY lp pa b4 v n xs ez a m c news ap ls h1 HE HW n8;refine ⟨a7, w', al, h2, ao, ?_, ?_⟩
 ·have ajf : n + m ≤ 9223372036854775807 := by simp only [maxLen] at HE; omega
  rcases ez.2 with ⟨rfl, rfl⟩ | ⟨g, cap, cur, rfl, ri, ax, eX, j3, eL, om⟩
  ·have aa : xs = [] := mE (by simpa using ez.1);subst aa;have := run_append_nil (P := P) w t ty e i z aF hi a6 a m c news (by rw [hY]; exact ap) ls hm (by omega) (by rw [lp]; simp only [ju] at HW; omega);rw [this] at al;cases al;intro g ax;simp [Value.ownBlock] at ax;exact .inr (by omega)
  ·by_cases mr : n + m ≤ cap
   ·have xX : n * i.size + news.length ≤ cur.size := by rw [hY, ap, eL, ← kB]; exact kC _ mr
    have := run_append_room (P := P) w t ty e i aF hi g n cap cur ax a m c news (by rw [hY]; exact ap) ls h1 mr xX;rw [this] at al;cases al;intro jD eM;exact .inl eM
   ·have holds : ∀ j u, xs[j]? = some u → w.cell? ((⟨g, 0, none⟩ : Addr).add j) = some u := ez.cells (g := g) rfl;have := run_append_grow (P := P) w t ty e i z aF hi a6 ⟨g, 0, none⟩ n cap xs (by rw [hY]; exact ez.1) holds a m c news (by rw [hY]; exact ap) ls (by omega) (by omega) (growslice_fits (by omega) (by rw [lp]; exact HW));rw [this] at al;cases al;intro jD eM;simp [Value.ownBlock] at eM;exact .inr (by omega)
 ·rcases h2.2 with ⟨rfl, _⟩ | ⟨g, cap, cur, rfl, _⟩ <;> rfl
def wN (P : Program) (tt e sz bytes : Nat) : Bool := match P.underlying tt, P.info? e with
 | some (.slice bu), some i => match i.zero with
  | some z => Nat.beq bu e && Nat.beq i.size sz && Nat.beq i.bytes bytes && Nat.beq z.cells.size sz && Nat.blt 0 sz
  | none => false
 | _, _ => false
class nu (P : Program) (tt : TypeId) (e sz bytes : outParam Nat) : Prop where
 h : wN P tt e sz bytes = true
theorem rP {tt e sz bytes : Nat} (h : wN P tt e sz bytes = true) : ∃ (i : TypeInfo) (z : Value), P.underlying tt = some (.slice e) ∧ P.info? e = some i ∧ i.zero = some z ∧ i.size = sz ∧ i.bytes = bytes ∧ z.cells.size = sz ∧ 0 < sz := by
 unfold wN at h
 split at h
 ·rename_i bu i hu hi
  split at h
  ·rename_i z a6;simp only [eh] at h;obtain ⟨⟨⟨⟨h1, h2⟩, ao⟩, aH⟩, cM⟩ := h;rw [hP h1] at hu;exact ⟨i, z, hu, hi, a6, hP h2, hP ao, hP aH, by simpa [Nat.blt_eq] using cM⟩
  ·cases h
 ·cases h
end
structure bS where
 e : Nat
 sz : Nat
 v : Value
 n : Nat
 aZ : List AC
abbrev aL := Nat → Option bS
def gw : aL := fun _ => none
def bH (i : Nat) (r : bS) : aL := bJ gw i r
def bL (R aC : aL) : Prop := ∀ i r, R i = some r → aC i = some r
theorem bL.refl (R : aL) : bL R R := fun _ _ h => h
theorem ni (f : aL) (i : Nat) (r : bS) : bL (bH i r) (bJ f i r) := by
 intro j q h
 by_cases e : j = i
 ·subst e; rw [bH, cw] at h; rw [cw]; exact h
 ·rw [bH, cl _ _ e] at h; cases h
def jQ (v : Value) (off : Nat) : Value := match v with
 | .slice (some a) _ _ => .pointer (some (a.add off))
 | _ => .pointer none
def hz (v : Value) (z lo hi : Nat) : Value := match v with
 | .slice A _ c => sliced A lo hi c z
 | _ => v
def bS.own (r : bS) (b : Nat) : Prop := r.v.ownBlock = some b ∨ (r.sz = 0 ∧ ∃ S w, r.aZ = [.p S] ∧ S.holds w r.v ∧ S.lS w r.v b)
def bS.ok (U : Nat → Prop) (ad : Nat → Nat) (w : World) (r : bS) : Prop :=
 (0 < r.sz ∧ ∃ xs, w.ownsRow 0 r.e r.sz r.v r.n xs ∧ b3 U ad w r.aZ xs) ∨ (r.sz = 0 ∧ r.n = 0 ∧ r.v.ownBlock = none ∧ (∃ S, r.aZ = [.p S] ∧ S.holds w r.v) ∧ ∀ b, r.own b → b < w.heap.size)
theorem bS.pq {r : bS} {b : Nat} (h : r.own b) (hs : 0 < r.sz) : r.v.ownBlock = some b := by
 rcases h with h | ⟨h, _⟩
 ·exact h
 ·omega
theorem bS.ok.row {U : Nat → Prop} {ad : Nat → Nat} {w : World} {r : bS} (h : r.ok U ad w) (hs : 0 < r.sz) : ∃ xs, w.ownsRow 0 r.e r.sz r.v r.n xs ∧ b3 U ad w r.aZ xs := by
 rcases h with ⟨_, h⟩ | ⟨h, _⟩
 ·exact h
 ·omega
theorem bS.ok.pos {U : Nat → Prop} {ad : Nat → Nat} {w : World} {r : bS} (h : r.ok U ad w) (aD : 0 < r.n) : 0 < r.sz := by
 rcases h with ⟨h, _⟩ | ⟨_, h, _⟩
 ·exact h
 ·omega
theorem bS.ok.lt {U : Nat → Prop} {ad : Nat → Nat} {w : World} {r : bS} (h : r.ok U ad w) {g : Nat} (ax : r.own g) : g < w.heap.size := by
 rcases h with ⟨hs, xs, aB, _⟩ | ⟨_, _, _, _, h⟩
 ·exact (aB.lt g (ax.elim id fun h => by omega)).2
 ·exact h g ax
theorem bS.ok.kept {U cK : Nat → Prop} {ad bg : Nat → Nat} {w w' : World} {r : bS} (h : r.ok U ad w) (ak : ∀ y ∈ r.aZ, y.bd = true) (ae : ∀ g, r.own g → w'.heap[g]? = w.heap[g]?) (b4 : w.heap.size ≤ w'.heap.size) (dJ : ∀ b, U b → b < w.heap.size → cK b ∧ w'.heap[b]? = w.heap[b]?) : r.ok cK bg w' := by
 rcases h with ⟨hs, xs, aB, ap⟩ | ⟨hs, aD, hv, ⟨S, hS, aW⟩, bh⟩
 ·exact .inl ⟨hs, xs, QL aB fun g q => ae g (.inl q), ap.map dJ fun j x aa af => absurd af (AC.dI (ak x aa) j)⟩
 ·exact .inr ⟨hs, aD, hv, ⟨S, hS, (S.frame w w' r.v aW fun b ab => ae b (.inr ⟨hs, S, w, hS, aW, ab⟩)).1⟩, fun b ab => u2 (bh b ab) b4⟩
structure vq (bq : e8) (A : Nat → Prop) (s : aE) (ad : Nat → Nat) (w : World) (r : bS) : Prop where
 ok : r.ok (s.free A ad) ad w
 p5 : ∀ y ∈ r.aZ, y.bd = true
 own : ∀ g, r.own g → ¬ A g ∧ ∀ k cs, s.mem k = some cs → ad k ≠ g
theorem vq.cells {bq : e8} {A : Nat → Prop} {s : aE} {ad : Nat → Nat} {w : World} {r : bS} (h : vq bq A s ad w r) (hs : 0 < r.sz) : ∃ xs, w.ownsRow 0 r.e r.sz r.v r.n xs ∧ b3 (s.free A ad) ad w r.aZ xs := h.ok.row hs
structure eJ (bq : e8) (b0 : Nat → Prop) (R : aL) (s : aE) (a : Act) (w : World) (A : Nat → Prop) (ad : Nat → Nat) : Prop where
 up : ∀ b, bq.W.heap.size ≤ b → b0 b
 sub : ∀ b, A b → b0 b
 rel : Rel (n8 bq s ad w) A s ad a w
 pg : ∀ k cs, s.mem k = some cs → ¬ bq.F (ad k)
 below : km bq w
 rows : ∀ i r, R i = some r → vq bq A s ad w r
 apart : ∀ i j r q, R i = some r → R j = some q → i ≠ j → ∀ g, r.own g → ¬ q.own g
 hot : ∀ i r g, R i = some r → r.own g → ¬ bq.F g ∧ b0 g
 ku : vc bq s ad
def pR (bq : e8) (b0 : Nat → Prop) (R : aL) (s : aE) (a : Act) (w : World) : Prop := ∃ A ad, eJ bq b0 R s a w A ad
section
variable {P : Program} {bq : e8} {b0 A : Nat → Prop} {R : aL} {s s' : aE} {a a' : Act} {w w' : World} {ad bg : Nat → Nat} {o bm bk : Oper} {ops : Array Oper}
theorem b3.xA {U cK : Nat → Prop} {xs : List AC} {vs : List Value} (h : b3 U ad w xs vs) (ak : ∀ y ∈ xs, y.bd = true) (dJ : ∀ b, U b → b < w.heap.size → cK b ∧ w'.heap[b]? = w.heap[b]?) : b3 cK bg w' xs vs :=
 h.map dJ fun j x aa af => absurd af (AC.dI (ak x aa) j)
theorem eJ.next (h : eJ bq b0 R s a w A ad) (cE : Rel (n8 bq s ad w) A s' bg a' w') : eJ bq b0 R s' a' w' A bg := by
 have HY : ∀ k cs, s'.mem k = some cs → w.heap.size ≤ bg k ∨ ∃ j cs, s.mem j = some cs ∧ ad j = bg k := by
  intro k cs ae;obtain ⟨_, _, _, _, hF⟩ := cE.dG k cs ae;rcases jt (bg k) w.heap.size with ap | ap
  ·exact .inr (Classical.byContradiction fun aD => hF ⟨ap, fun j cs af e => aD ⟨j, cs, af, e⟩⟩)
  ·exact .inl ap
 have j4 : ∀ b, s.free A ad b → b < w.heap.size → s'.free A bg b ∧ w'.heap[b]? = w.heap[b]? := fun b ab ap => by
  refine ⟨⟨ab.1, fun k cs ae e => ?_⟩, cE.below.block b ⟨ap, fun k cs ae => ab.2 k cs ae⟩⟩;rcases HY k cs ae with h1 | ⟨j, au, af, bu⟩
  ·omega
  ·exact ab.2 j au af (bu.trans e)
 refine ⟨h.up, h.sub, cE.hot fun b ab => cE.up b (lC cE.below.size ab), fun k cs ae aw => ?_, ⟨cE.below.os.trans h.below.os, cE.below.tape.trans h.below.tape, cE.below.output.trans h.below.output, lC h.below.size cE.below.size, fun b aw => ?_⟩, fun i r hi => ?_, h.apart, h.hot, Vh h.ku cE⟩
 ·rcases HY k cs ae with h1 | ⟨j, au, af, e⟩
  ·have := bq.lt _ aw; have := h.below.size; omega
  ·rw [← e] at aw; exact h.pg j au af aw
 ·exact (cE.below.block b ⟨u2 (bq.lt b aw) h.below.size, fun k cs ae e => h.pg k cs ae (by rw [e]; exact aw)⟩).trans (h.below.block b aw)
 ·obtain ⟨lU, ak, ax⟩ := h.rows i r hi;refine ⟨lU.kept ak (fun g q => cE.below.block g ⟨lU.lt q, (ax g q).2⟩) cE.below.size j4, ak, fun g q => ⟨(ax g q).1, fun k cs ae he => ?_⟩⟩;rcases HY k cs ae with h1 | ⟨j, au, af, e⟩
  ·have := lU.lt q; omega
  ·exact (ax g q).2 j au af (e.trans he)
theorem eJ.put {d : Option Nat} {av : ai} {v : Value} (h : eJ bq b0 R s a w A ad) (hd : ∀ d', d = some d' → d' < s.n) (hv : dn (s.free A ad) ad w av v) : eJ bq b0 R (s.put d av) (a.put d v) w A ad := h.next (h.rel.put hd hv)
theorem eJ.le {aC : aL} (h : eJ bq b0 R s a w A ad) (l : bL aC R) : eJ bq b0 aC s a w A ad :=
 ⟨h.up, h.sub, h.rel, h.pg, h.below, fun i r hi => h.rows i r (l i r hi), fun i j r q hi af => h.apart i j r q (l i r hi) (l j q af), fun i r g hi => h.hot i r g (l i r hi), h.ku⟩
theorem eJ.Pj (h : eJ bq b0 R s a w A ad) (l : s.bo s') : eJ bq b0 R s' a w A ad := h.next (h.rel.le l)
inductive lc (P : Program) (R : aL) (look : Operand → Option ai) (o : Oper) : ai → Prop
 | len (i : Nat) (r : bS) (t z : Nat) (x : Operand) (hi : R i = some r) (b4 : 0 < r.sz) (aB : o.op = .call ⟨.builtin .len, #[x], #[t]⟩) (aa : look x = some (aU r.v)) (aF : tx P t = some z) : lc P R look o (aR r.n)
 | idx (i : Nat) (r : bS) (t : Nat) (x y : Operand) (ho : IntKind) (j : Int) (hi : R i = some r) (aB : o.op = .indexAddr t x y) (aa : look x = some (aU r.v)) (ag : look y = some (aU (.int ho j))) (aJ : 0 ≤ j) (h1 : j < r.n) (aF : tx P t = some r.sz) : lc P R look o (aU (jQ r.v (j.toNat * r.sz)))
 | n7 (i : Nat) (r : bS) (off t f iw : Nat) (x : Operand) (hi : R i = some r) (aD : 0 < r.n) (aB : o.op = .fieldAddr t x f) (aa : look x = some (aU (jQ r.v off))) (aF : ug P t f = some iw) : lc P R look o (aU (jQ r.v (off + iw)))
 | load (i : Nat) (r : bS) (off lt : Nat) (x : Operand) (av : bK) (hi : R i = some r) (aD : 0 < r.n) (aB : o.op = .load lt x) (aa : look x = some (aU (jQ r.v off))) (hv : pick P lt r.aZ off = some av) : lc P R look o (.w av)
 | sl (i : Nat) (r : bS) (t lo hi : Nat) (x : Operand) (vb tE : Option Operand) (c3 : R i = some r) (b4 : 0 < r.sz) (aB : o.op = .slice t x vb tE none) (aa : look x = some (aU r.v)) (ap : (vb = none ∧ lo = 0 ∧ tE ≠ none) ∨ ∃ y, vb = some y ∧ look y = some (aU (.int .i64 lo))) (aW : (tE = none ∧ hi = r.n) ∨ ∃ y, tE = some y ∧ look y = some (aU (.int .i64 hi))) (h1 : lo ≤ hi) (h2 : hi ≤ r.n) (aF : tx P t = some r.sz) : lc P R look o (aU (hz r.v r.sz lo hi))
 | AQ (i : Nat) (r : bS) (t z lo hi : Nat) (x : Operand) (c3 : R i = some r) (b4 : 0 < r.sz) (aB : o.op = .call ⟨.builtin .len, #[x], #[t]⟩) (aa : look x = some (aU (hz r.v r.sz lo hi))) (aF : tx P t = some z) : lc P R look o (aR ((hi - lo : Nat) : Int))
 | AF (i : Nat) (r : bS) (t lo hi : Nat) (x y : Operand) (ho : IntKind) (j : Int) (c3 : R i = some r) (aB : o.op = .indexAddr t x y) (aa : look x = some (aU (hz r.v r.sz lo hi))) (ag : look y = some (aU (.int ho j))) (aJ : 0 ≤ j) (h1 : j < ((hi - lo : Nat) : Int)) (h2 : hi ≤ r.n) (aF : tx P t = some r.sz) : lc P R look o (aU (jQ r.v ((lo + j.toNat) * r.sz)))
theorem lc.congr {look gR : Operand → Option ai} {av : ai} (h : lc P R look o av) (e : ∀ x ∈ o.op.operands, gR x = look x) : lc P R gR o av := by
 cases h with
 | len i r t z x hi b4 aB aa aF => exact .len i r t z x hi b4 aB (by rw [e x (by simp [aB, Op.operands, Call.operands])]; exact aa) aF
 | idx i r t x y ho j hi aB aa ag aJ h1 aF => exact .idx i r t x y ho j hi aB (by rw [e x (by simp [aB, Op.operands])]; exact aa) (by rw [e y (by simp [aB, Op.operands])]; exact ag) aJ h1 aF
 | n7 i r off t f iw x hi aD aB aa aF => exact .n7 i r off t f iw x hi aD aB (by rw [e x (by simp [aB, Op.operands])]; exact aa) aF
 | load i r off lt x av hi aD aB aa hv => exact .load i r off lt x av hi aD aB (by rw [e x (by simp [aB, Op.operands])]; exact aa) hv
 | sl i r t lo hi x vb tE c3 b4 aB aa ap aW h1 h2 aF =>
  refine .sl i r t lo hi x vb tE c3 b4 aB (by rw [e x (by simp [aB, Op.operands])]; exact aa) ?_ ?_ h1 h2 aF
  ·rcases ap with h | ⟨y, rfl, h⟩
   ·exact .inl h
   ·exact .inr ⟨y, rfl, by rw [e y (by simp [aB, Op.operands])]; exact h⟩
  ·rcases aW with h | ⟨y, rfl, h⟩
   ·exact .inl h
   ·exact .inr ⟨y, rfl, by rw [e y (by simp [aB, Op.operands])]; exact h⟩
 | AQ i r t z lo hi x c3 b4 aB aa aF => exact .AQ i r t z lo hi x c3 b4 aB (by rw [e x (by simp [aB, Op.operands, Call.operands])]; exact aa) aF
 | AF i r t lo hi x y ho j c3 aB aa ag aJ h1 h2 aF => exact .AF i r t lo hi x y ho j c3 aB (by rw [e x (by simp [aB, Op.operands])]; exact aa) (by rw [e y (by simp [aB, Op.operands])]; exact ag) aJ h1 h2 aF
theorem lc.rows {aC : aL} {look : Operand → Option ai} {av : ai} (h : lc P R look o av) (l : bL R aC) : lc P aC look o av := by
 cases h with
 | len i r t z x hi b4 aB aa aF => exact .len i r t z x (l _ _ hi) b4 aB aa aF
 | idx i r t x y ho j hi aB aa ag aJ h1 aF => exact .idx i r t x y ho j (l _ _ hi) aB aa ag aJ h1 aF
 | n7 i r off t f iw x hi aD aB aa aF => exact .n7 i r off t f iw x (l _ _ hi) aD aB aa aF
 | load i r off lt x av hi aD aB aa hv => exact .load i r off lt x av (l _ _ hi) aD aB aa hv
 | sl i r t lo hi x vb tE c3 b4 aB aa ap aW h1 h2 aF => exact .sl i r t lo hi x vb tE (l _ _ c3) b4 aB aa ap aW h1 h2 aF
 | AQ i r t z lo hi x c3 b4 aB aa aF => exact .AQ i r t z lo hi x (l _ _ c3) b4 aB aa aF
 | AF i r t lo hi x y ho j c3 aB aa ag aJ h1 h2 aF => exact .AF i r t lo hi x y ho j (l _ _ c3) aB aa ag aJ h1 h2 aF
theorem aeQ {U : Nat → Prop} {ty : TypeId} {aZ : List AC} {off : Nat} {av : bK} {xs : List Value} {b : Addr} (hv : pick P ty aZ off = some av) (ap : b3 U ad w aZ xs) (ak : ∀ j u, xs[j]? = some u → w.cell? (b.add j) = some u) :
  ∃ v, (loadVar ty (b.add off)).run P w = .ok v w ∧ hh U ad w av v := by
 unfold pick at hv
 have key : ∀ d, P.underlying ty = some d → ((∃ fs, d = .struct fs) ∨ ∃ n e, d = .array n e) → ((P.info? ty).bind fun i => if off + i.size ≤ aZ.length then some (bK.agg ((aZ.drop off).take i.size)) else none) = some av → ∃ v, (loadVar ty (b.add off)).run P w = .ok v w ∧ hh U ad w av v := by
  intro d hu hd h;cases hi : P.info? ty with
  | none => rw [hi] at h; cases h
  | some i =>
   rw [hi] at h;simp only [kE] at h
   split at h
   ·rename_i hle;cases h;have hs := ap.sub off i.size;have hlen : ((xs.drop off).take i.size).length = i.size := by have := ap.1; simp; omega
    refine ⟨_, Kb hu hd hi hlen (fun j v af => ?_), _, rfl, hs⟩;have kw : j < i.size := by rw [← hlen]; exact (bP.1 af).1
    rw [gl kw, gF] at af;rw [za];exact ak _ v af
   ·cases h
 have I6 : ∀ d, P.underlying ty = some d → (∀ fs, d ≠ .struct fs) → (∀ n e, d ≠ .array n e) → (aZ[off]?).map bK.one = some av → ∃ v, (loadVar ty (b.add off)).run P w = .ok v w ∧ hh U ad w av v := by
  intro d hu h1 h2 h;cases aa : aZ[off]? with
  | none => rw [aa] at h; cases h
  | some x =>
   rw [aa] at h;cases h;have bh : off < xs.length := by rw [← ap.1]; exact (bP.1 aa).1
   have hv := cj bh;exact ⟨_, Kc hu h1 h2 (ak off _ hv), ap.2 off x _ aa hv⟩
 cases hu : P.underlying ty with
 | none => rw [hu] at hv; cases hv
 | some d =>
  rw [hu] at hv;cases d <;> first | exact key _ hu (.inl ⟨_, rfl⟩) hv | exact key _ hu (.inr ⟨_, _, rfl⟩) hv | exact I6 _ hu (fun _ h => by cases h) (fun _ _ h => by cases h) hv
theorem vq.slice {r : bS} (h : vq bq A s ad w r) (b4 : 0 < r.sz) : ∃ e7 c, r.v = .slice e7 r.n c ∧ (0 < r.n → ∃ g, e7 = some ⟨g, 0, none⟩) := by
 obtain ⟨xs, aB, _⟩ := h.cells b4;rcases aB.2 with ⟨e, dl⟩ | ⟨g, cap, cur, e, _⟩
 ·exact ⟨none, 0, by rw [e, dl], fun h => by omega⟩
 ·exact ⟨_, _, e, fun _ => ⟨g, rfl⟩⟩
theorem vq.FF {r : bS} (h : vq bq A s ad w r) (b4 : 0 < r.sz) : ∃ e7 c, r.v = .slice e7 r.n c ∧ r.n ≤ c ∧ (0 < r.n → ∃ g, e7 = some ⟨g, 0, none⟩) := by
 obtain ⟨xs, aB, _⟩ := h.cells b4;rcases aB.2 with ⟨e, dl⟩ | ⟨g, cap, cur, e, _, _, eX, _⟩
 ·exact ⟨none, 0, by rw [e, dl], by omega, fun h => by omega⟩
 ·exact ⟨_, _, e, eX, fun _ => ⟨g, rfl⟩⟩
theorem RM {g n c z lo hi : Nat} (h1 : lo < hi) (h2 : hi ≤ c) : hz (.slice (some ⟨g, 0, none⟩) n c) z lo hi = .slice (some ((⟨g, 0, none⟩ : Addr).add (lo * z))) (hi - lo) (c - lo) := by
 unfold hz sliced;simp only;rw [if_neg (by omega)]; rfl
theorem lc.sound {av : ai} (h : lc P R s.look o av) (ay : eJ bq b0 R s a w A ad) : ∃ v, (execOp a.eval o).run P w = .ok (.value v) w ∧ dn (s.free A ad) ad w av v := by
 cases h with
 | len i r t z x hi b4 aB aa aF =>
  obtain ⟨e7, c, e, _⟩ := (ay.rows i r hi).slice b4;have hv : a.eval x = r.v := (ay.rel.look aa).1;obtain ⟨el, eP, hu, _, _⟩ := nj aF;have fk : P.underlying t = some (.slice (P.elem t)) := by rw [kP hu]; exact hu
  refine ⟨.int .i64 r.n, ?_, rfl, rfl⟩;have em : (#[x] : Array Operand).map a.eval = #[.slice e7 r.n c] := by simp [hv, e]
  simp only [execOp, aB, resolve, em, Sem.run_bind, Sem.run_pure, Result.andThen_ok, invoke, builtin];rw [run_len_slice w t _ e7 r.n c fk];rfl
 | idx i r t x y ho j hi aB aa ag aJ h1 aF =>
  obtain ⟨e7, c, e, ej⟩ := (ay.rows i r hi).slice ((ay.rows i r hi).ok.pos (by omega));obtain ⟨g, rfl⟩ := ej (by omega);have hv : a.eval x = r.v := (ay.rel.look aa).1;have af : a.eval y = .int ho j := (ay.rel.look ag).1;obtain ⟨el, eP, hu, c3, hs⟩ := nj aF;refine ⟨jQ r.v (j.toNat * r.sz), ?_, rfl, by rw [e]; rfl⟩;rw [e] at hv ⊢;simp only [execOp, aB, Instr.indexAt, hv, af, asIntOf, Sem.run_bind, Sem.run_pure, Result.andThen_ok, run_underlying hu, h5 c3, if_pos (And.intro aJ h1), hs, jQ]
 | n7 i r off t f iw x hi aD aB aa aF =>
  obtain ⟨e7, c, e, ej⟩ := (ay.rows i r hi).slice ((ay.rows i r hi).ok.pos (by omega));obtain ⟨g, rfl⟩ := ej aD;have hv : a.eval x = jQ r.v off := (ay.rel.look aa).1;rw [e] at hv ⊢;unfold ug at aF
  split at aF
  ·rename_i fs hu;cases aw : fs[f]? with
   | none => rw [aw] at aF; cases aF
   | some fd =>
    rw [aw] at aF;simp only [kE] at aF;cases hi : P.info? fd.type with
    | none => rw [hi] at aF; cases aF
    | some eP =>
     rw [hi] at aF;simp only [kE] at aF
     split at aF
     ·cases aF
     ·rename_i ca;cases aF;refine ⟨_, ?_, rfl, rfl⟩;simp only [execOp, aB, Instr.fieldAt, hv, jQ, Instr.sureAddr, Sem.run_bind, Sem.run_pure, Result.andThen_ok, run_underlying hu, aw, fieldPlace, h5 hi, if_neg ca, za]
  ·cases aF
 | load i r off lt x av hi aD aB aa hv =>
  have dK := ay.rows i r hi;obtain ⟨e7, c, e, ej⟩ := dK.slice (dK.ok.pos aD);obtain ⟨g, rfl⟩ := ej aD;have Ed : a.eval x = jQ r.v off := (ay.rel.look aa).1;obtain ⟨xs, hn, ap⟩ := dK.cells (dK.ok.pos aD);obtain ⟨v, h1, h2⟩ := aeQ hv ap (hn.cells (g := g) (by rw [e]; rfl));rw [e] at Ed;refine ⟨v, ?_, h2⟩;simp only [execOp, aB, Instr.loadAt, Ed, jQ, Instr.sureAddr, Sem.run_bind, Sem.run_pure, Result.andThen_ok, h1]
 | sl i r t lo hi x vb tE c3 b4 aB aa ap aW h1 h2 aF =>
  obtain ⟨e7, c, e, eX, _⟩ := (ay.rows i r c3).FF b4;have hv : a.eval x = r.v := (ay.rel.look aa).1;rw [e] at hv;obtain ⟨el, eP, hu, fj, hs⟩ := nj aF;have fk : P.underlying t = some (.slice (P.elem t)) := by rw [kP hu]; exact hu
  have oe : (hz r.v r.sz lo hi).oneCell' = true := by rw [e]; rfl
  refine ⟨_, ?_, rfl, oe⟩;rw [e];rcases ap with ⟨rfl, rfl, ca⟩ | ⟨y, rfl, ag⟩
  ·rcases aW with ⟨rfl, _⟩ | ⟨y, rfl, ag⟩
   ·exact absurd rfl ca
   ·have kQ : a.eval y = .int .i64 hi := (ay.rel.look ag).1;simp only [execOp, aB, hv, hy, tj, kQ, Sem.run_bind, run_sliceAt_slice w t _ _ _ _ fk, run_slice_h w t e7 r.n c fk .i64 hi (by omega) (by omega), kP hu, h5 fj, Result.andThen_ok, hs, Sem.run_pure, k6, hz]
  ·have kQ : a.eval y = .int .i64 lo := (ay.rel.look ag).1;rcases aW with ⟨rfl, rfl⟩ | ⟨y', rfl, IJ⟩
   ·simp only [execOp, aB, hv, hy, tj, kQ, Sem.run_bind, run_sliceAt_slice w t _ _ _ _ fk, run_slice_l w t e7 r.n c fk .i64 lo (by omega) (by omega), kP hu, h5 fj, Result.andThen_ok, hs, Sem.run_pure, k6, hz]
   ·have Xl : a.eval y' = .int .i64 hi := (ay.rel.look IJ).1;simp only [execOp, aB, hv, hy, tj, kQ, Xl, Sem.run_bind, run_sliceAt_slice w t _ _ _ _ fk, run_slice_lh w t e7 r.n c fk .i64 .i64 lo hi (by omega) (by omega) (by omega), kP hu, h5 fj, Result.andThen_ok, hs, Sem.run_pure, k6, hz]
 | AQ i r t z lo hi x c3 b4 aB aa aF =>
  obtain ⟨e7, c, e, _, _⟩ := (ay.rows i r c3).FF b4;have hv : a.eval x = hz r.v r.sz lo hi := (ay.rel.look aa).1;obtain ⟨el, eP, hu, _, _⟩ := nj aF;have fk : P.underlying t = some (.slice (P.elem t)) := by rw [kP hu]; exact hu
  refine ⟨.int .i64 ((hi - lo : Nat) : Int), ?_, rfl, rfl⟩;rw [e] at hv;unfold hz sliced at hv;simp only at hv;have em : (#[x] : Array Operand).map a.eval = #[.slice (if c = lo then e7 else e7.map (·.add (lo * r.sz))) (hi - lo) (c - lo)] := by simp only [List.map_toArray, k5, List.map_nil, hv]
  simp only [execOp, aB, resolve, em, Sem.run_bind, Sem.run_pure, Result.andThen_ok, invoke, builtin];rw [run_len_slice w t _ _ _ _ fk];rfl
 | AF i r t lo hi x y ho j c3 aB aa ag aJ h1 h2 aF =>
  obtain ⟨e7, c, e, eX, ej⟩ := (ay.rows i r c3).FF ((ay.rows i r c3).ok.pos (by omega));obtain ⟨g, rfl⟩ := ej (by omega);have hv : a.eval x = hz r.v r.sz lo hi := (ay.rel.look aa).1;have af : a.eval y = .int ho j := (ay.rel.look ag).1;obtain ⟨el, eP, hu, fj, hs⟩ := nj aF;rw [e, RM (by omega) (by omega)] at hv;refine ⟨jQ r.v ((lo + j.toNat) * r.sz), ?_, rfl, by rw [e]; rfl⟩;rw [e];simp only [execOp, aB, Instr.indexAt, hv, af, asIntOf, Sem.run_bind, Sem.run_pure, Result.andThen_ok, run_underlying hu, h5 fj, if_pos (And.intro aJ h1), hs, jQ, za, kB]
theorem afT (w : World) (tX BA ty elem : TypeId) (g o q8 zu z : Nat) (a : Addr) (rQ Bz : Nat) (cur : Array Value) (t : TypeId) (cs : List Value)
  (hu : P.underlying tX = some (.slice elem)) (hs : (P.info? elem).map (·.size) = some z)
  (ax : w.heap[g]? = some (.cells cur t (0, 0))) (aD : cs.length = Nat.min rQ q8 * z)
  (IC : ∀ j v, cs[j]? = some v → w.cell? (a.add j) = some v) (xX : o + cs.length ≤ cur.size) (h1 : ∀ v ∈ cs, v.oneCell' = true) :
  (Builtin.copy_ #[tX, BA] ty #[.slice (some ⟨g, o, none⟩) q8 zu, .slice (some a) rQ Bz]).run P w =
   .ok (goInt (Nat.min rQ q8)) (w.setRow g (cur.toList.take o ++ cs ++ cur.toList.drop (o + cs.length)).toArray) := by
 have ap := run_loadCells_list (P := P) w a cs IC;have jn := run_storeCells_at P g o t cs 0 cur w ax (by simpa using xX) h1;cases an : P.info? elem with
 | none => simp [an] at hs
 | some i =>
  have hi : i.size = z := by simpa [an] using hs
  simp [Builtin.copy_, run_underlying hu, Builtin.lenOf, Builtin.firstCells, sizeOf, typeInfo, an, hi, ← aD, ap, jn]
theorem afS (w : World) (tX BA ty elem : TypeId) (d a : Option Addr) (q8 zu rQ Bz z : Nat) (hu : P.underlying tX = some (.slice elem)) (hs : (P.info? elem).map (·.size) = some z) (aD : Nat.min rQ q8 = 0) :
  (Builtin.copy_ #[tX, BA] ty #[.slice d q8 zu, .slice a rQ Bz]).run P w = .ok (goInt 0) w := by
 cases an : P.info? elem with
 | none => simp [an] at hs
 | some i =>
  have ap : ∀ (x : Addr), (loadCells x 0).run P w = .ok #[] w := fun x => by simpa using run_loadCells_list (P := P) w x [] (by simp)
  cases d <;> cases a <;> simp [Builtin.copy_, run_underlying hu, Builtin.lenOf, Builtin.firstCells, sizeOf, typeInfo, an, aD, storeCells, ap]
theorem agU {cur us : List Value} {off N : Nat} (h : off + us.length ≤ N) (kS : N ≤ cur.length) : (cur.take off ++ us ++ cur.drop (off + us.length)).take N = (cur.take N).take off ++ us ++ (cur.take N).drop (off + us.length) := by
 apply List.ext_getElem?;intro j;have t1 : (cur.take off).length = off := by rw [eu]; omega
 have t2 : ((cur.take N).take off).length = off := by rw [eu, eu]; omega
 by_cases af : j < N
 ·rw [gl af]
  by_cases rr : j < off
  ·rw [iV, gG (by rw [t1]; exact rr), gl rr, iV, gG (by rw [t2]; exact rr), gl rr, gl af]
  ·by_cases Em : j < off + us.length
   ·rw [iV, gf (by omega), gG (by omega), iV, gf (by omega), gG (by omega), t1, t2]
   ·rw [gf (by simp only [cX, t1]; omega), gf (by simp only [cX, t2]; omega), gF, gF];simp only [cX, t1, t2];rw [gl (by omega)]
 ·rw [rJ (by rw [eu]; omega), rJ];simp only [cX, eu, iC];omega
abbrev Cs : Value → Prop := fun v => v.oneCell' = true
def jf (v : Value) (z lo hi : Nat) (u : Value) : Prop := (∃ e7 c, u = .slice e7 (hi - lo) c) ∧ (lo < hi → ∃ g n c, v = .slice (some ⟨g, 0, none⟩) n c ∧ hi ≤ c ∧ u = .slice (some ⟨g, lo * z, none⟩) (hi - lo) (c - lo))
theorem CD (g o k : Nat) : (⟨g, o, none⟩ : Addr).add k = ⟨g, o + k, none⟩ := by unfold Addr.add; split <;> simp_all
theorem jf.all {A : Option Addr} {n c : Nat} (z : Nat) (h1 : n ≤ c) (h2 : 0 < n → ∃ g, A = some ⟨g, 0, none⟩) : jf (.slice A n c) z 0 n (.slice A n c) :=
 ⟨⟨A, c, rfl⟩, fun h => by obtain ⟨g, rfl⟩ := h2 h; exact ⟨g, n, c, rfl, h1, by simp⟩⟩
theorem jf.sl {v u : Value} {z lo hi k m : Nat} (h : jf v z lo hi u) (hm : hi - lo = m) (ae : k ≤ m) (ap : lo ≤ hi) : jf v z (lo + k) hi (hz u z k m) := by
 subst hm;obtain ⟨⟨e7, c, e⟩, h2⟩ := h;refine ⟨⟨_, _, by rw [e]; unfold hz sliced; rw [Nat.sub_sub]⟩, fun bh => ?_⟩;obtain ⟨g, n, c', aG, ao, aM⟩ := h2 (by omega);refine ⟨g, n, c', aG, ao, ?_⟩;rw [aM];unfold hz sliced;simp only;rw [if_neg (by omega), hy, CD, Nat.sub_sub, Nat.sub_sub, kB]
theorem jf.agu {v u : Value} {z lo hi k : Nat} (h : jf v z lo hi u) (ae : lo + k ≤ hi) : jf v z lo (lo + k) (hz u z 0 k) := by
 obtain ⟨⟨e7, c, e⟩, h2⟩ := h;refine ⟨⟨_, _, by rw [e]; unfold hz sliced; rw [show lo + k - lo = k - 0 by omega]⟩, fun bh => ?_⟩;obtain ⟨g, n, c', aG, ao, aM⟩ := h2 (by omega);refine ⟨g, n, c', aG, by omega, ?_⟩;rw [aM];unfold hz sliced;simp only;rw [if_neg (by omega), hy, CD];simp
def B7 (R : aL) (look : Operand → Option ai) (y : Operand) (z m : Nat) (news : List AC) : Prop :=
 look y = some (cT z m news) ∨ ∃ j q lo u, R j = some q ∧ q.sz = z ∧ look y = some (aU u) ∧ jf q.v z lo (lo + m) u ∧ lo + m ≤ q.n ∧ news = (q.aZ.drop (lo * z)).take (m * z)
inductive ld (P : Program) (R : aL) (look : Operand → Option ai) (o : Oper) : (Value → aL) → (Value → Prop) → Prop
 | vA (i : Nat) (r : bS) (tt bytes m : Nat) (jT kj : Operand) (news : List AC) (hi : R i = some r) (aB : o.op = .call ⟨.builtin .append, #[jT, kj], #[tt, tt]⟩) (aF : wN P tt r.e r.sz bytes = true) (aa : look jT = some (aU r.v)) (ag : look kj = some (cT r.sz m news)) (h1 : r.n + m ≤ maxLen) (h2 : (r.n + m) * bytes ≤ 140737488355328) (ak : ∀ y ∈ news, y.bd = true) :
   ld P R look o (fun a7 => bJ R i ⟨r.e, r.sz, a7, r.n + m, r.aZ ++ news⟩) Cs
 | new (i t n e sz bytes : Nat) (parts : List (Nat × Operand)) (vs : List Value) (zs : List (Nat × bK)) (r : List AC) (hi : R i = none) (aB : o.op = .buildSlice t n parts.toArray) (aF : wN P t e sz bytes = true) (dR : yG P t = some vs) (a6 : nG look parts = some zs) (ab : q7 (yt n sz) (ir n sz vs) zs = some r)
   (h1 : (vs.all fun v => v.oneCell') = true) (hs : vs.length = sz) (h2 : n * sz ≤ 16777216) (ao : n ≤ maxLen) (al : r.length = n * sz) (cW : ∀ y ∈ r, y.bd = true) : ld P R look o (fun a7 => bJ R i ⟨e, sz, a7, n, r⟩) Cs
 | make (i t l c e sz bytes : Nat) (x y : Operand) (pd qv : IntKind) (vs : List Value) (hi : R i = none) (aB : o.op = .makeSlice t x y) (aF : wN P t e sz bytes = true) (dR : yG P t = some vs) (aa : look x = some (aU (.int pd l))) (ag : look y = some (aU (.int qv c))) (ap : l ≤ c) (h1 : (vs.all fun v => v.oneCell') = true) (hs : vs.length = sz) (h2 : bytes * c ≤ 281474976710656) (ao : c ≤ maxLen) : ld P R look o (fun a7 => bJ R i ⟨e, sz, a7, l, ir l sz vs⟩) Cs
 | copy (i : Nat) (r : bS) (tt t2 m lo hi : Nat) (x y : Operand) (news : List AC) (c3 : R i = some r) (b4 : 0 < r.sz) (aB : o.op = .call ⟨.builtin .copy, #[x, y], #[tt, t2]⟩) (aF : tx P tt = some r.sz) (aa : (look x = some (aU r.v) ∧ lo = 0 ∧ hi = r.n) ∨ look x = some (aU (hz r.v r.sz lo hi)) ∨ ∃ u, look x = some (aU u) ∧ jf r.v r.sz lo hi u) (ag : B7 R look y r.sz m news) (h1 : lo ≤ hi) (h2 : hi ≤ r.n) (ak : ∀ y ∈ news, y.bd = true) :
   ld P R look o (fun _ => bJ R i ⟨r.e, r.sz, r.v, r.n, eO r.aZ (lo * r.sz) (news.take (Nat.min m (hi - lo) * r.sz))⟩) (fun a7 => a7 = .int .i64 ((Nat.min m (hi - lo) : Nat) : Int))
theorem Pr {look gR : Operand → Option ai} : ∀ (parts : List (Nat × Operand)), (∀ p ∈ parts, gR p.2 = look p.2) → nG gR parts = nG look parts
 | [], _ => rfl
 | (i, x) :: parts, h => by
  simp only [nG];rw [h (i, x) (by simp), Pr parts fun p hp => h p (by simp [hp])]
theorem ld.congr {look gR : Operand → Option ai} {f : Value → aL} {iS : Value → Prop} (h : ld P R look o f iS) (e : ∀ x ∈ o.op.operands, gR x = look x) : ld P R gR o f iS := by
 cases h with
 | vA i r tt bytes m jT kj news hi aB aF aa ag h1 h2 ak =>
  exact .vA i r tt bytes m jT kj news hi aB aF (by rw [e jT (by simp [aB, Op.operands, Call.operands])]; exact aa) (by rw [e kj (by simp [aB, Op.operands, Call.operands])]; exact ag) h1 h2 ak
 | new i t n el sz bytes parts vs zs r hi aB aF dR a6 ab h1 hs h2 ao al cW =>
  refine .new i t n el sz bytes parts vs zs r hi aB aF dR ?_ ab h1 hs h2 ao al cW;rw [Pr parts fun p hp => e p.2 ?_]
  ·exact a6
  ·simp only [aB, Op.operands, List.mem_toArray, iW];exact ⟨p, hp, rfl⟩
 | make i t l c el sz bytes x y pd qv vs hi aB aF dR aa ag ap h1 hs h2 ao =>
  exact .make i t l c el sz bytes x y pd qv vs hi aB aF dR (by rw [e x (by simp [aB, Op.operands])]; exact aa) (by rw [e y (by simp [aB, Op.operands])]; exact ag) ap h1 hs h2 ao
 | copy i r tt t2 m lo hi x y news c3 b4 aB aF aa ag h1 h2 ak =>
  exact .copy i r tt t2 m lo hi x y news c3 b4 aB aF (by rw [e x (by simp [aB, Op.operands, Call.operands])]; exact aa) (by unfold B7; rw [e y (by simp [aB, Op.operands, Call.operands])]; exact ag) h1 h2 ak
theorem b3.append {U : Nat → Prop} {xs aZ : List AC} {vs us : List Value} (h : b3 U ad w xs vs) (k : b3 U ad w aZ us) : b3 U ad w (xs ++ aZ) (vs ++ us) := by
 refine ⟨by rw [cX, cX, h.1, k.1], fun i x v aa hv => ?_⟩;rcases jt i xs.length with ap | ap
 ·rw [gG ap] at aa;rw [gG (by rw [← h.1]; exact ap)] at hv;exact h.2 i x v aa hv
 ·rw [gf ap] at aa;rw [gf (by rw [← h.1]; exact ap), ← h.1] at hv;exact k.2 _ x v aa hv
theorem eJ.HA {i : Nat} {r : bS} {w2 : World} {xs : List Value} (h : eJ bq b0 R s a w A ad) (iT : Option Nat) (hold : ∀ g, iT = some g → ∃ q, R i = some q ∧ q.own g) (b4 : 0 < r.sz) (jj : w.grownBy w2 iT)
  (al : w2.ownsRow 0 r.e r.sz r.v r.n xs) (o0 : ∀ g, r.v.ownBlock = some g → iT = some g ∨ w.heap.size ≤ g) (ap : b3 (s.free A ad) ad w r.aZ xs) (ak : ∀ y ∈ r.aZ, y.bd = true) :
  ∃ dW, eJ bq b0 (bJ R i r) s a w2 dW ad := by
 have qo : ∀ b, s.free A ad b → b < w.heap.size → w2.heap[b]? = w.heap[b]? := fun b ab fb => jj.block b fb fun e => by
  obtain ⟨q, an, ax⟩ := hold b e.symm;exact ((h.rows i q an).own b ax).1 ab.1
 have qm : ∀ k cs, s.mem k = some cs → w2.heap[ad k]? = w.heap[ad k]? := fun k cs ae => jj.block _ (h.rel.lt ae) fun e => by
  obtain ⟨q, an, ax⟩ := hold _ e.symm;exact ((h.rows i q an).own _ ax).2 k cs ae rfl
 have Yp : Rel (n8 bq s ad w2) (fun b => (A b ∧ b < w.heap.size) ∨ (w2.heap.size ≤ b)) s ad a w2 :=
  h.rel.zh (fun b cV fb => ⟨.inl ⟨cV, fb⟩, jj.block b fb fun e => by
   obtain ⟨q, an, ax⟩ := hold b e.symm;exact ((h.rows i q an).own b ax).1 cV⟩) (fun k cs ae => ⟨qm k cs ae, fun aw => aw.2 k cs ae rfl⟩) (km.refl _) (fun b ab => .inr ab) (xS _ _ _)
 have j4 : ∀ b, s.free A ad b → b < w.heap.size → s.free (fun b => (A b ∧ b < w.heap.size) ∨ w2.heap.size ≤ b) ad b ∧ w2.heap[b]? = w.heap[b]? := fun b ab fb => ⟨⟨.inl ⟨ab.1, fb⟩, ab.2⟩, qo b ab fb⟩
 have main : eJ bq b0 (bJ R i r) s a w2 (fun b => (A b ∧ b < w.heap.size) ∨ w2.heap.size ≤ b) ad := by
  refine ⟨h.up, ?_, Yp, h.pg, ⟨jj.os.trans h.below.os, jj.tape.trans h.below.tape, jj.output.trans h.below.output, lC h.below.size jj.size, fun b aw => ?_⟩, fun j q af => ?_, fun j k q bT af ae lq g ax => ?_, fun j q g af ax => ?_, h.ku⟩
  ·rintro b (ab | ab)
   ·exact h.sub b ab.1
   ·exact h.up b (by have := h.below.size; have := jj.size; omega)
  ·refine (jj.block b (u2 (bq.lt b aw) h.below.size) fun e => ?_).trans (h.below.block b aw);obtain ⟨q, an, ax⟩ := hold b e.symm;exact (h.hot i q b an ax).1 aw
  ·by_cases e : j = i
   ·subst e;rw [cw] at af;cases af;refine ⟨.inl ⟨b4, xs, al, ap.xA ak j4⟩, ak, fun g ax => ?_⟩
    replace ax := bS.pq ax b4
    refine ⟨?_, fun k cs ae => ?_⟩
    ·rintro (ab | ab)
     ·rcases o0 g ax with q | q
      ·obtain ⟨p, hp, qp⟩ := hold g q;exact ((h.rows j p hp).own g qp).1 ab.1
      ·omega
     ·have := (al.lt g ax).2; omega
    ·rcases o0 g ax with q | q
     ·obtain ⟨p, hp, qp⟩ := hold g q;exact ((h.rows j p hp).own g qp).2 k cs ae
     ·have := h.rel.lt ae; omega
   ·rw [cl _ _ e] at af;obtain ⟨lU, Ov, Ow⟩ := h.rows j q af;refine ⟨lU.kept Ov (fun g ax => jj.block g (lU.lt ax) fun bu => ?_) jj.size j4, Ov, fun g ax => ⟨?_, (Ow g ax).2⟩⟩
    ·obtain ⟨p, hp, qp⟩ := hold g bu.symm;exact h.apart j i q p af hp e g ax qp
    ·rintro (ab | ab)
     ·exact (Ow g ax).1 ab.1
     ·have := lU.lt ax; have := jj.size; omega
  ·have QC : ∀ j q, R j = some q → ∀ g, q.own g → g < w.heap.size := fun j q af g ax => (h.rows j q af).ok.lt ax
   by_cases e : j = i
   ·subst e;rw [cw] at af;cases af;rw [cl _ _ (Ne.symm lq)] at ae;intro eM;rcases o0 g (bS.pq ax b4) with p | p
    ·obtain ⟨dA, hp, qp⟩ := hold g p;exact h.apart j k dA bT hp ae lq g qp eM
    ·have := QC k bT ae g eM; omega
   ·rw [cl _ _ e] at af
    by_cases aM : k = i
    ·subst aM;rw [cw] at ae;cases ae;intro eM;rcases o0 g (bS.pq eM b4) with p | p
     ·obtain ⟨dA, hp, qp⟩ := hold g p;exact h.apart j k q dA af hp lq g ax qp
     ·have := QC j q af g ax; omega
    ·rw [cl _ _ aM] at ae;exact h.apart j k q bT af ae lq g ax
  ·by_cases e : j = i
   ·subst e;rw [cw] at af;cases af;rcases o0 g (bS.pq ax b4) with p | p
    ·obtain ⟨dA, hp, qp⟩ := hold g p;exact h.hot j dA g hp qp
    ·exact ⟨fun aw => by have := bq.lt g aw; have := h.below.size; omega, h.up g (by have := h.below.size; omega)⟩
   ·rw [cl _ _ e] at af;exact h.hot j q g af ax
 exact ⟨_, main⟩
theorem eJ.grown {i : Nat} {r : bS} {w2 : World} {xs : List Value} (h : eJ bq b0 R s a w A ad) (iT : Option Nat) (hold : ∀ g, iT = some g → ∃ q, R i = some q ∧ q.own g) (b4 : 0 < r.sz) (jj : w.grownBy w2 iT) (oe : r.v.oneCell' = true)
  (al : w2.ownsRow 0 r.e r.sz r.v r.n xs) (o0 : ∀ g, r.v.ownBlock = some g → iT = some g ∨ w.heap.size ≤ g) (ap : b3 (s.free A ad) ad w r.aZ xs) (ak : ∀ y ∈ r.aZ, y.bd = true) {d : Nat} (hd : d < s.n) :
  ∃ dW, eJ bq b0 (bJ R i r) (s.put (some d) (aU r.v)) (a.put (some d) r.v) w2 dW ad := by
 obtain ⟨dW, main⟩ := h.HA iT hold b4 jj al o0 ap ak;exact ⟨dW, main.put (d := some d) (fun d' e => by cases e; exact hd) ⟨rfl, oe⟩⟩
theorem cx.GV {U : Nat → Prop} {z n : Nat} {xs : List AC} {v : Value} (h : dn U ad w (cT z n xs) v) (aD : 0 < n) : ∃ b c vs, v = .slice (some b) n c ∧ n ≤ c ∧ xs.length = n * z ∧ (∀ (j : Nat) u, vs[j]? = some u → w.cell? (b.add j) = some u) ∧ b3 U ad w xs vs := by
 obtain ⟨⟨e7, c, e, ak, ap, ej⟩, dJ⟩ := h;obtain ⟨b, vs, rfl, eL⟩ := ej aD;exact ⟨b, c, vs, e, ak, ap, eL.at_, eL.J9 fun bR cV => dJ bR ⟨c, b, e, aD, cV⟩⟩
theorem B7.spec {y : Operand} {z m : Nat} {news : List AC} (h : B7 R s.look y z m news) (a6 : 0 < z) (ay : eJ bq b0 R s a w A ad) : (∃ vd zt, a.eval y = .slice vd m zt) ∧ news.length = m * z ∧
  (0 < m → ∃ b c vs, a.eval y = .slice (some b) m c ∧ (∀ (j : Nat) u, vs[j]? = some u → w.cell? (b.add j) = some u) ∧ b3 (s.free A ad) ad w news vs) := by
 rcases h with ag | ⟨j, q, lo, u, af, rfl, ag, ⟨⟨e7, c, sy⟩, hu⟩, aD, rfl⟩
 ·have AB := ay.rel.look ag;obtain ⟨⟨vd, zt, ex, DJ, lr, Ys⟩, YI⟩ := id AB;refine ⟨⟨vd, zt, ex⟩, lr, fun hm => ?_⟩;obtain ⟨b, c, vs, uc, _, _, fq, qq⟩ := cx.GV AB hm;exact ⟨b, c, vs, uc, fq, qq⟩
 ·have uc : a.eval y = u := (ay.rel.look ag).1;obtain ⟨xs, aB, ap⟩ := (ay.rows j q af).cells a6;have ajd : q.aZ.length = q.n * q.sz := by rw [ap.1]; exact aB.1
  have xX : lo * q.sz + m * q.sz ≤ q.n * q.sz := by rw [← kB]; exact kC _ aD
  refine ⟨⟨e7, c, by rw [uc, sy, Nat.add_sub_cancel_left]⟩, by rw [eu, iC]; omega, fun hm => ?_⟩;obtain ⟨g, n', c', aG, ao, aM⟩ := hu (by omega);refine ⟨⟨g, lo * q.sz, none⟩, _, (xs.drop (lo * q.sz)).take (m * q.sz), by rw [uc, aM, Nat.add_sub_cancel_left], fun i x aa => ?_, ap.sub _ _⟩
  have hi : i < m * q.sz := by
   have := (bP.1 aa).1;rw [eu] at this;omega
  rw [gl hi, gF] at aa;have := aB.cells (g := g) (by rw [aG]; rfl) _ x aa;rw [CD] at this ⊢;simpa using this
theorem ld.out {f : Value → aL} {iS : Value → Prop} (h : ld P R s.look o f iS) : ∃ a7, iS a7 := by
 cases h with
 | copy => exact ⟨_, rfl⟩
 | _ => exact ⟨.bool false, rfl⟩
theorem ld.sound {f : Value → aL} {iS : Value → Prop} {d : Nat} (h : ld P R s.look o f iS) (ay : eJ bq b0 R s a w A ad) (hd : d < s.n) : ∃ a7 w2 dW, (execOp a.eval o).run P w = .ok (.value a7) w2 ∧ iS a7 ∧ eJ bq b0 (f a7) (s.put (some d) (aU a7)) (a.put (some d) a7) w2 dW ad := by
 cases h with
 | vA i r tt bytes m jT kj news hi aB aF aa ag h1 h2 ak =>
  obtain ⟨eP, z, hu, fj, a6, hY, lp, pa, b4⟩ := rP aF;obtain ⟨o5, oh, x6⟩ := ay.rows i r hi;obtain ⟨xs, jl, j8⟩ := o5.row b4;have ic : a.eval jT = r.v := (ay.rel.look aa).1;have Oy : r.v.oneCell' = true := (ay.rel.look aa).2;have AB := ay.rel.look ag;rcases u3 m with rfl | D1
  ·obtain ⟨⟨vd, zt, ex, DJ, lr, Ys⟩, YI⟩ := AB;have ls : news = [] := by simpa using lr
   subst ls;refine ⟨r.v, w, A, ?_, Oy, ?_⟩
   ·rw [show (execOp a.eval o) = (do pure (.value (← Builtin.append_ #[tt, tt] o.type #[a.eval jT, a.eval kj])) : Sem Next) by
     simp only [execOp, aB, resolve, invoke, builtin, List.map_toArray, k5, List.map_nil];rfl]
    simp only [Sem.run_bind];rw [ic, ex]
    obtain ⟨e7, cap, hv, eX⟩ : ∃ e7 cap, r.v = .slice e7 r.n cap ∧ r.n ≤ cap := by
     rcases jl.2 with ⟨e, dl⟩ | ⟨g, cap, cur, hv, ri, ux, eX, _⟩
     ·exact ⟨none, 0, by rw [e, dl], by omega⟩
     ·exact ⟨_, cap, hv, eX⟩
    rw [hv];cases e7 with
    | none =>
     cases vd with
     | none => simp [Builtin.append_, run_underlying hu, sizeOf, typeInfo, fj, Builtin.lenOf, Builtin.firstCells, eX, storeCells]
     | some Vn => simp [Builtin.append_, run_underlying hu, sizeOf, typeInfo, fj, Builtin.lenOf, Builtin.firstCells, eX, storeCells, loadCells, loadCellsFrom]
    | some ahE =>
     cases vd with
     | none => simp [Builtin.append_, run_underlying hu, sizeOf, typeInfo, fj, Builtin.lenOf, Builtin.firstCells, eX, storeCells]
     | some Vn => simp [Builtin.append_, run_underlying hu, sizeOf, typeInfo, fj, Builtin.lenOf, Builtin.firstCells, eX, storeCells, loadCells, loadCellsFrom]
   ·have e : bJ R i ⟨r.e, r.sz, r.v, r.n + 0, r.aZ ++ []⟩ = R := by
     funext j
     by_cases e : j = i
     ·subst e; rw [cw, hi]; simp
     ·rw [cl _ _ e]
    show eJ bq b0 (bJ R i ⟨r.e, r.sz, r.v, r.n + 0, r.aZ ++ []⟩) _ _ _ _ _;rw [e];exact ay.put (d := some d) (fun d' e => by cases e; exact hd) ⟨rfl, Oy⟩
  ·obtain ⟨b, c, vs, uc, DJ, lr, fq, qq⟩ := cx.GV AB D1
   have oe : ∀ u ∈ vs, u.oneCell' = true := fun u fk => by
    obtain ⟨j, af⟩ := kA fk;have bh : j < news.length := by rw [qq.1]; exact (bP.1 af).1
    exact (qq.2 j _ u (cj bh) af).cell
   obtain ⟨a7, w2, hc, x3, jj, o0, N9⟩ := RV (P := P) w 0 tt o.type r.e eP z r.sz bytes hu fj a6 hY lp pa b4 r.v r.n xs jl b m c vs (by rw [← qq.1]; exact lr) fq oe h1 h2 (eF _) D1
   obtain ⟨dW, cE⟩ := ay.grown (i := i) (r := ⟨r.e, r.sz, a7, r.n + m, r.aZ ++ news⟩) r.v.ownBlock (fun g ax => ⟨r, hi, .inl ax⟩) b4 jj N9 x3 o0 (j8.append qq) (fun y ag => by
    rcases kD.1 ag with h | h
    ·exact oh y h
    ·exact ak y h) hd
   refine ⟨a7, w2, dW, ?_, N9, cE⟩;have Z1 : (Builtin.append_ #[tt, tt] o.type #[a.eval jT, a.eval kj]).run P w = .ok a7 w2 := by rw [ic, uc]; exact hc
   simp only [execOp, aB, resolve, invoke, builtin, Sem.run_bind, Sem.run_pure, Result.andThen_ok, List.map_toArray, k5, List.map_nil, Z1]
 | new i t n e sz bytes parts vs zs r hi aB aF dR a6 ab h1 hs h2 ao al cW =>
  obtain ⟨eP, z, hu, fj, h0, hY, lp, pa, b4⟩ := rP aF;unfold yG at dR;rw [hu] at dR;simp only at dR;unfold zeroOf at dR;rw [fj] at dR;simp only [kE] at dR;rw [h0] at dR;cases dR;have hlen : z.cells.toList.length = sz := hs;have sV : (zeroValue e).run P w = .ok z w := by simp [zeroValue, typeInfo, program, Sem.run_bind, Sem.run, fj, Result.andThen, h0]
  have j8 : b3 (s.free A ad) ad w (ir n sz z.cells.toList) ((List.range (n * sz)).map fun j => z.cells[j % z.cells.size]!) := by
   refine ⟨by simp [ir], fun j x v aa hv => ?_⟩;have af : j < n * sz := by have := (bP.1 hv).1; simpa using this
   simp only [ir, eG, wL af, hy, gE] at aa hv;subst aa; subst hv;have bh : j % z.cells.size < z.cells.size := Nat.mod_lt _ (by omega);have aM : z.cells.toList.toArray[j % z.cells.toList.length]! = z.cells[j % z.cells.size]! := by simp
   refine ⟨aM.symm, ?_⟩;rw [aM, getElem!_pos z.cells _ bh];exact cB.1 h1 _ (by simp)
  obtain ⟨us, g1, g2⟩ := zK (U := s.free A ad) (ad := ad) (W := w) (ps := yt n sz) (place := fun i => some (i * sz, sz)) (fun i q an => by
    simp only [yt, eG] at an;cases al : (List.range n)[i]? with
    | none => rw [al] at an; cases an
    | some m =>
     rw [al] at an;cases an;have := bP.1 al;obtain ⟨ao, aH⟩ := this;simp at aH;rw [aH]) (look := s.look) (env := a.eval) parts _ _ zs r j8 a6 (fun p hp av aI => ay.rel.look aI) ab
  have x7 : us.length = n * sz := by rw [← g2.1]; exact al
  have hc : (execOp a.eval o).run P w = .ok (.value (.slice (some ⟨w.heap.size, 0, none⟩) n n)) (w.alloc (.cells us.toArray e)) := by
   have uC : (parts.toArray.map fun (i, x) => (i, a.eval x)).toList = parts.map fun p => (p.1, a.eval p.2) := by simp
   have cD : (Array.range (n * sz)).map (fun j => z.cells[j % z.cells.size]!) = ((List.range (n * sz)).map fun j => z.cells[j % z.cells.size]!).toArray := by simp [← List.toArray_range]
   simp only [execOp, aB, Instr.buildSlice, Sem.run_bind, run_underlying hu, Result.andThen_ok, h5 fj, hY];rw [if_neg (by omega)]
   by_cases aJ : n * sz = 0
   ·rw [if_pos aJ];have eR : (Array.range (n * sz)).map (fun j => (#[] : Array Value)[j % (#[] : Array Value).size]!) = ((List.range (n * sz)).map fun j => z.cells[j % z.cells.size]!).toArray := by rw [aJ]; simp
    simp only [Sem.run_bind, Sem.run_pure, Result.andThen_ok, eR, uC, g1, newRow, newObj, Sem.run];rfl
   ·rw [if_neg aJ];simp only [Sem.run_bind, Sem.run_pure, sV, Result.andThen_ok, cD, uC, g1, newRow, newObj, Sem.run];rfl
  have Ip : (w.alloc (.cells us.toArray e)).heap[w.heap.size]? = some (.cells us.toArray e (0, 0)) := by show (w.heap.push _)[w.heap.size]? = _; simp
  obtain ⟨dW, cE⟩ := ay.grown (i := i) (r := ⟨e, sz, .slice (some ⟨w.heap.size, 0, none⟩) n n, n, r⟩) (xs := us) none (fun g ax => by cases ax) b4 (World.grownBy_alloc w _ none) rfl ⟨x7, .inr ⟨w.heap.size, n, us.toArray, rfl, eF _, Ip, eb _, ao, by simpa using x7, by simp [← x7]⟩⟩ (fun g ax => by simp [Value.ownBlock] at ax; exact .inr (by omega)) g2 cW hd;exact ⟨_, _, dW, hc, rfl, cE⟩
 | make i t l c e sz bytes x y pd qv vs hi aB aF dR aa ag Ij h1 hs h2 ao =>
  obtain ⟨eP, z, hu, fj, h0, hY, lp, pa, b4⟩ := rP aF;unfold yG at dR;rw [hu] at dR;simp only at dR;unfold zeroOf at dR;rw [fj] at dR;simp only [kE] at dR;rw [h0] at dR;cases dR;have hlen : z.cells.toList.length = sz := hs;have ZC : z.cells.size = sz := by simpa using hlen
  have Ed : a.eval x = .int pd l := (ay.rel.look aa).1;have aai : a.eval y = .int qv c := (ay.rel.look ag).1;have Yo : (c : Int) ≤ 9223372036854775807 := by have h := ao; simp only [maxLen] at h; omega
  have cV : (eP.bytes : Int) * (c : Int) ≤ 281474976710656 := by
   have h : ((eP.bytes * c : Nat) : Int) ≤ 281474976710656 := by rw [lp]; omega
   rwa [Int.natCast_mul] at h
  have al := run_make (P := P) w t e eP z hu fj h0 pd qv l c (by omega) (by omega) cV Yo;simp only [k6, hY] at al
  have hc : (execOp a.eval o).run P w = .ok (.value (.slice (some ⟨w.heap.size, 0, none⟩) l c)) (w.alloc (.cells (madeCells z.cells (c * sz)) e)) := by
   simp only [execOp, aB, Ed, aai, Sem.run_bind, al, Result.andThen_ok, Sem.run_pure]
  have Ip : (w.alloc (.cells (madeCells z.cells (c * sz)) e)).heap[w.heap.size]? = some (.cells (madeCells z.cells (c * sz)) e (0, 0)) := by show (w.heap.push _)[w.heap.size]? = _; simp
  have hmul : l * sz ≤ c * sz := kC _ Ij;have Ot : (madeCells z.cells (c * sz)).size = c * sz := size_madeCells _ _
  have Eb : ((madeCells z.cells (c * sz)).toList.take (l * sz)).length = l * sz := by
   rw [eu, Array.length_toList, Ot]; exact qC hmul
  have j8 : b3 (s.free A ad) ad w (ir l sz z.cells.toList) ((madeCells z.cells (c * sz)).toList.take (l * sz)) := by
   refine ⟨by rw [Eb]; simp [ir], fun j x v aa hv => ?_⟩;have af : j < l * sz := by have := (bP.1 hv).1; rw [Eb] at this; exact this
   rw [gl af] at hv;simp only [ir, eG, wL af, hy, gE] at aa;subst aa;have bh : j % z.cells.size < z.cells.size := Nat.mod_lt _ (by omega);have aM : z.cells.toList.toArray[j % z.cells.toList.length]! = z.cells[j % z.cells.size]! := by simp
   have nC : v = z.cells[j % z.cells.size]! := by
    have : (madeCells z.cells (c * sz)).toList[j]? = some z.cells[j % z.cells.size]! := by
     simp only [madeCells, Array.toList_map, eG];rw [show (Array.range (c * sz)).toList[j]? = some j by rw [Array.toList_range, wL (u2 af hmul)]];rfl
    rw [this] at hv;exact (mD hv).symm
   refine ⟨by rw [aM]; exact nC, ?_⟩;rw [aM, getElem!_pos z.cells _ bh];exact cB.1 h1 _ (by simp)
  obtain ⟨dW, cE⟩ := ay.grown (i := i) (r := ⟨e, sz, .slice (some ⟨w.heap.size, 0, none⟩) l c, l, ir l sz z.cells.toList⟩) none (fun g ax => by cases ax) b4 (World.grownBy_alloc w _ none) rfl ⟨Eb, .inr ⟨w.heap.size, c, _, rfl, eF _, Ip, Ij, ao, Ot, rfl⟩⟩ (fun g ax => by simp [Value.ownBlock] at ax; exact .inr (by omega)) j8 (fun y ag => by simp only [ir, iW] at ag; obtain ⟨j, _, rfl⟩ := ag; rfl) hd;exact ⟨_, _, dW, hc, rfl, cE⟩
 | copy i r tt t2 m lo hi x y news c3 b4 aB aF aa ag h1 h2 ak =>
  obtain ⟨el, eP, hu, fj, hs⟩ := nj aF;have gA : (P.info? el).map (·.size) = some r.sz := by rw [fj]; simp [hs]
  obtain ⟨o5, oh, x6⟩ := ay.rows i r c3;obtain ⟨xs, jl, j8⟩ := o5.row b4
  have hex : ∀ D S v2 w2, a.eval x = D → a.eval y = S → (Builtin.copy_ #[tt, t2] o.type #[D, S]).run P w = .ok v2 w2 → (execOp a.eval o).run P w = .ok (.value v2) w2 := fun D S v2 w2 aG aM cD => by
   subst aG aM;simp only [execOp, aB, resolve, invoke, builtin, Sem.run_bind, Sem.run_pure, Result.andThen_ok, List.map_toArray, k5, List.map_nil, cD]
  obtain ⟨⟨vd, zt, ex⟩, N0, ms⟩ := ag.spec b4 ay;have o8 : r.aZ.length = r.n * r.sz := by rw [j8.1]; exact jl.1
  rcases u3 (Nat.min m (hi - lo)) with ae | ae
  ·obtain ⟨e7, G6, jB, kR, DK⟩ : ∃ e7 G6 jB, a.eval x = .slice e7 G6 jB ∧ G6 = hi - lo := by
    obtain ⟨e7, c, e, _, _⟩ := (ay.rows i r c3).FF b4;rcases aa with ⟨aa, rfl, rfl⟩ | aa | ⟨u, aa, ⟨⟨SV, Wc, sy⟩, _⟩⟩
    ·exact ⟨e7, r.n, c, by rw [(ay.rel.look aa).1, e], by omega⟩
    ·have an : a.eval x = hz r.v r.sz lo hi := (ay.rel.look aa).1;rw [e] at an;unfold hz sliced at an;exact ⟨_, _, _, an, rfl⟩
    ·exact ⟨SV, _, Wc, by rw [(ay.rel.look aa).1, sy], rfl⟩
   subst DK;refine ⟨goInt 0, w, A, hex _ _ _ _ kR ex (afS w tt t2 o.type el _ _ _ _ _ _ r.sz hu gA ae), by rw [ae]; rfl, ?_⟩
   have e : bJ R i ⟨r.e, r.sz, r.v, r.n, eO r.aZ (lo * r.sz) (news.take (Nat.min m (hi - lo) * r.sz))⟩ = R := by
    rw [ae];funext j
    by_cases e : j = i
    ·subst e; rw [cw, c3]; simp [eO]
    ·rw [cl _ _ e]
   rw [e];exact ay.put (d := some d) (fun d' e => by cases e; exact hd) ⟨rfl, rfl⟩
  ·have Zy : Nat.min m (hi - lo) ≤ m := Nat.min_le_left _ _;have ai3 : Nat.min m (hi - lo) ≤ hi - lo := Nat.min_le_right _ _;obtain ⟨b, c, vs, uc, fq, qq⟩ := ms (by omega)
   obtain ⟨g, cap, cur, hv, ri, ux, eX, j3, eL, om⟩ : ∃ g cap cur, r.v = .slice (some ⟨g, 0, none⟩) r.n cap ∧ 0 ≤ g ∧ w.heap[g]? = some (.cells cur r.e (0, 0)) ∧ r.n ≤ cap ∧ cap ≤ maxLen ∧ cur.size = cap * r.sz ∧ cur.toList.take (r.n * r.sz) = xs := by
    rcases jl.2 with ⟨_, aJ⟩ | h
    ·omega
    ·exact h
   obtain ⟨jB, kR⟩ : ∃ jB, a.eval x = .slice (some ⟨g, lo * r.sz, none⟩) (hi - lo) jB := by
    rcases aa with ⟨aa, rfl, rfl⟩ | aa | ⟨u, aa, ⟨_, hu⟩⟩
    ·exact ⟨cap, by rw [(ay.rel.look aa).1, hv]; simp⟩
    ·refine ⟨cap - lo, ?_⟩;rw [(ay.rel.look aa).1, hv, RM (by omega) (by omega)];have kT : (⟨g, 0, none⟩ : Addr).add (lo * r.sz) = ⟨g, lo * r.sz, none⟩ := by unfold Addr.add; split <;> simp_all
     rw [kT]
    ·obtain ⟨jD, n', c', aG, _, aM⟩ := hu (by omega);rw [hv] at aG;cases aG;exact ⟨_, by rw [(ay.rel.look aa).1, aM]⟩
   generalize o4 : Nat.min m (hi - lo) = k at *;have ai4 : k * r.sz ≤ m * r.sz := kC _ Zy;have mX : (vs.take (k * r.sz)).length = k * r.sz := by rw [eu, ← qq.1, N0]; omega
   have hl : (news.take (k * r.sz)).length = k * r.sz := by rw [eu, N0]; omega
   have NS : lo * r.sz + k * r.sz ≤ r.n * r.sz := by rw [← kB]; exact kC _ (by omega)
   have hmul : r.n * r.sz ≤ cap * r.sz := kC _ eX
   have Oe : b3 (s.free A ad) ad w (news.take (k * r.sz)) (vs.take (k * r.sz)) := by
    have := qq.sub 0 (k * r.sz);simpa using this
   have oe : ∀ u ∈ vs.take (k * r.sz), u.oneCell' = true := fun u fk => by
    obtain ⟨j, af⟩ := kA fk;have bh : j < (news.take (k * r.sz)).length := by rw [hl, ← mX]; exact (bP.1 af).1
    exact (Oe.2 j _ u (cj bh) af).cell
   have hc := afT (P := P) w tt t2 o.type el g (lo * r.sz) (hi - lo) jB r.sz b m c cur r.e (vs.take (k * r.sz)) hu gA ux (by rw [mX, o4]) (fun j v af => fq j v (by
    have ap : j < k * r.sz := by rw [← mX]; exact (bP.1 af).1
    rwa [gl ap] at af)) (by rw [mX]; omega) oe
   rw [o4] at hc
   have wh : ∀ (u : Array Value), w.grownBy (w.setRow g u) (some g) := fun u => ⟨rfl, rfl, rfl, by simp [World.setRow], fun k _ ae => by
    simp only [World.setRow, u1];rw [if_neg (fun e => ae (by rw [e]))]⟩
   have nB := setRow_heap w g cur (cur.toList.take (lo * r.sz) ++ vs.take (k * r.sz) ++ cur.toList.drop (lo * r.sz + (vs.take (k * r.sz)).length)).toArray r.e (0, 0) ux;have cW : cur.toList.length = cap * r.sz := by rw [Array.length_toList]; exact eL
   have hlen : (cur.toList.take (lo * r.sz) ++ vs.take (k * r.sz) ++ cur.toList.drop (lo * r.sz + (vs.take (k * r.sz)).length)).length = cap * r.sz := by
    rw [cX, cX, mX, eu, iC, cW]; omega
   have hZ := agU (cur := cur.toList) (us := vs.take (k * r.sz)) (off := lo * r.sz) (N := r.n * r.sz) (by rw [mX]; exact NS) (by rw [cW]; exact hmul);rw [om] at hZ
   obtain ⟨dW, cE⟩ := ay.HA (i := i) (r := ⟨r.e, r.sz, r.v, r.n, eO r.aZ (lo * r.sz) (news.take (k * r.sz))⟩) (w2 := w.setRow g (cur.toList.take (lo * r.sz) ++ vs.take (k * r.sz) ++ cur.toList.drop (lo * r.sz + (vs.take (k * r.sz)).length)).toArray) (xs := xs.take (lo * r.sz) ++ vs.take (k * r.sz) ++ xs.drop (lo * r.sz + (vs.take (k * r.sz)).length)) (some g) (fun jD eM => by cases eM; exact ⟨r, c3, .inl (by rw [hv]; rfl)⟩) b4 (wh _)
    ⟨by rw [← hZ, eu, hlen]; exact qC hmul, .inr ⟨g, cap, _, hv, ri, nB, eX, j3, by simpa using hlen, by simpa using hZ⟩⟩ (fun jD eM => by rw [hv] at eM; simp [Value.ownBlock] at eM; exact .inl (by rw [eM])) (j8.eO Oe (lo * r.sz) (by rw [hl, o8]; exact NS)) (fun q an => by
     unfold eO at an;simp only [kD] at an;rcases an with (h1 | h1) | h1
     ·exact oh q (py h1)
     ·exact ak q (py h1)
     ·exact oh q (nN h1))
   exact ⟨goInt (k : Int), _, dW, hex _ _ _ _ kR uc hc, rfl, cE.put (d := some d) (fun d' e => by cases e; exact hd) ⟨rfl, rfl⟩⟩
inductive tH (P : Program) (R : aL) (look : Operand → Option ai) (o : Oper) : aL → Prop
 | store (i : Nat) (r : bS) (off ty : Nat) (x y : Operand) (z : bK) (eP : TypeInfo) (hi : R i = some r) (aD : 0 < r.n) (aB : o.op = .store ty x y) (aa : look x = some (aU (jQ r.v off))) (ag : look y = some (.w z)) (aF : P.info? ty = some eP) (hs : eP.size = z.cells.length) (ab : off + z.cells.length ≤ r.aZ.length) (ak : ∀ q ∈ z.cells, q.bd = true) : tH P R look o (bJ R i ⟨r.e, r.sz, r.v, r.n, eO r.aZ off z.cells⟩)
theorem tH.sound {aC : aL} (h : tH P R s.look o aC) (ay : eJ bq b0 R s a w A ad) : ∃ w2 dW, (execOp a.eval o).run P w = .ok .skip w2 ∧ eJ bq b0 aC s a w2 dW ad := by
 cases h with
 | store i r off ty x y z eP hi aD aB aa ag aF hs ab ak =>
  obtain ⟨o5, oh, x6⟩ := ay.rows i r hi;have b4 := o5.pos aD;obtain ⟨xs, jl, j8⟩ := o5.row b4
  obtain ⟨g, cap, cur, hv, ri, ux, eX, j3, eL, om⟩ : ∃ g cap cur, r.v = .slice (some ⟨g, 0, none⟩) r.n cap ∧ 0 ≤ g ∧ w.heap[g]? = some (.cells cur r.e (0, 0)) ∧ r.n ≤ cap ∧ cap ≤ maxLen ∧ cur.size = cap * r.sz ∧ cur.toList.take (r.n * r.sz) = xs := by
   rcases jl.2 with ⟨_, aJ⟩ | h
   ·omega
   ·exact h
  have hp : a.eval x = .pointer (some ⟨g, off, none⟩) := by
   have := (ay.rel.look aa).1;rw [hv] at this;have kT : (⟨g, 0, none⟩ : Addr).add off = ⟨g, off, none⟩ := by unfold Addr.add; split <;> simp_all
   rw [this]; simp only [jQ, kT]
  have a6 : hh (s.free A ad) ad w z (a.eval y) := ay.rel.look ag;have o9 := a6.cells;have wo : (a.eval y).cells.size = z.cells.length := by have := o9.1; simp at this; exact this.symm
  have o8 : r.aZ.length = r.n * r.sz := by rw [j8.1]; exact jl.1
  have hmul : r.n * r.sz ≤ cap * r.sz := kC _ eX
  have jn : (storeVar ty ⟨g, off, none⟩ (a.eval y)).run P w = .ok () (w.setRow g (cur.toList.take off ++ (a.eval y).cells.toList ++ cur.toList.drop (off + (a.eval y).cells.toList.length)).toArray) := by
   unfold storeVar;have ca : ¬ ((a.eval y).cells.size ≠ eP.size) := by rw [wo, hs]; simp
   simp only [Sem.run_bind, h5 aF, Result.andThen_ok, if_neg ca]
   have di : ∀ v ∈ (a.eval y).cells.toList, v.oneCell' = true := fun v cg => by
    obtain ⟨j, af⟩ := kA cg;have bh : j < z.cells.length := by rw [o9.1]; exact (bP.1 af).1
    exact (o9.2 j _ v (cj bh) af).cell
   have := run_storeCells_at (P := P) g off r.e (a.eval y).cells.toList 0 cur w ux (by simp; omega) di;simpa using this
  have wh : ∀ (u : Array Value), w.grownBy (w.setRow g u) (some g) := fun u => ⟨rfl, rfl, rfl, by simp [World.setRow], fun k _ ae => by
   simp only [World.setRow, u1];rw [if_neg (fun e => ae (by rw [e]))]⟩
  have nB := setRow_heap w g cur (cur.toList.take off ++ (a.eval y).cells.toList ++ cur.toList.drop (off + (a.eval y).cells.toList.length)).toArray r.e (0, 0) ux
  have hlen : (cur.toList.take off ++ (a.eval y).cells.toList ++ cur.toList.drop (off + (a.eval y).cells.toList.length)).length = cap * r.sz := by
   simp [wo]; omega
  have hZ : (cur.toList.take off ++ (a.eval y).cells.toList ++ cur.toList.drop (off + (a.eval y).cells.toList.length)).take (r.n * r.sz) = xs.take off ++ (a.eval y).cells.toList ++ xs.drop (off + (a.eval y).cells.toList.length) := by
   have OB : (a.eval y).cells.toList.length = z.cells.length := by simpa using wo
   rw [← om];apply List.ext_getElem?;intro j
   by_cases af : j < r.n * r.sz
   ·rw [gl af]
    by_cases rr : j < off
    ·rw [iV, gG (by simp; omega), gl rr, iV, gG (by simp; omega), gl rr, gl af]
    ·have t1 : (cur.toList.take off).length = off := by simp; omega
     have t2 : ((cur.toList.take (r.n * r.sz)).take off).length = off := by simp; omega
     by_cases Em : j < off + z.cells.length
     ·rw [iV, gf (by omega), gG (by omega), iV, gf (by omega), gG (by omega), t1, t2]
     ·rw [gf (by simp only [cX, t1]; omega), gf (by simp only [cX, t2]; omega), gF, gF];simp only [cX, t1, t2, OB];rw [gl (by omega)]
   ·rw [rJ (by simp; omega), rJ];simp only [cX, eu, iC, OB];have : cur.toList.length = cap * r.sz := by simpa using eL
    omega
  obtain ⟨dW, cE⟩ := ay.HA (i := i) (r := ⟨r.e, r.sz, r.v, r.n, eO r.aZ off z.cells⟩) (w2 := w.setRow g (cur.toList.take off ++ (a.eval y).cells.toList ++ cur.toList.drop (off + (a.eval y).cells.toList.length)).toArray) (xs := xs.take off ++ (a.eval y).cells.toList ++ xs.drop (off + (a.eval y).cells.toList.length)) (some g) (fun jD eM => by cases eM; exact ⟨r, hi, .inl (by rw [hv]; rfl)⟩) b4 (wh _)
   ⟨by simp [wo]; have := jl.1; omega, .inr ⟨g, cap, _, hv, ri, nB, eX, j3, by simpa using hlen, by simpa using hZ⟩⟩ (fun jD eM => by rw [hv] at eM; simp [Value.ownBlock] at eM; exact .inl (by rw [eM])) (j8.eO o9 off ab) (fun q an => by
    unfold eO at an;simp only [kD] at an;rcases an with (h1 | h1) | h1
    ·exact oh q (py h1)
    ·exact ak q h1
    ·exact oh q (nN h1))
  refine ⟨_, dW, ?_, cE⟩;simp only [execOp, aB, Instr.storeAt, hp, Instr.sureAddr, Sem.run_bind, Sem.run_pure, Result.andThen_ok, jn]
end
end Go.Proofs.YtpochbhajmbfdaaGreat
