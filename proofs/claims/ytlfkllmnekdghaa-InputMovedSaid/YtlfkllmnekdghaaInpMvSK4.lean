/-
  My own texts, without what this claim does not need. My own text.
-/
import Derived.Test.YtlfkllmnekdghaaProg
import Derived.ProofKit
import Derived.OpenShut
import Derived.Deep.DeepHandedRow
import Derived.Lib.LaidTab
import Derived.Lib.SmallJoins
import Derived.Lib.SliceRun
import Derived.Test.YtlfkllmnekdghaaInpMvSK3
namespace Go.Proofs.Ytlfkllmnekdghaa
open Go.RowKit
set_option linter.unusedVariables false
set_option linter.unusedSimpArgs false
/-- is a number not too far? -/
def fB (n : Int) : Bool := decide (-536870912 ≤ n) && decide (n ≤ 536870912)
theorem fB_iff {n : Int} : fB n = true ↔ -536870912 ≤ n ∧ n ≤ 536870912 := by unfold fB; rw [Bool.and_eq_true, decide_eq_true_eq, decide_eq_true_eq]
def rB (x y : Int) : Bool := fB x && fB y
theorem rB_iff {x y : Int} : rB x y = true ↔ (-536870912 ≤ x ∧ x ≤ 536870912) ∧ -536870912 ≤ y ∧ y ≤ 536870912 := by unfold rB; rw [Bool.and_eq_true, fB_iff, fB_iff]
set_option maxRecDepth 100000 in
set_option maxHeartbeats 4000000 in
theorem p_far {n : Int} {b : Bool} (hb : fB n = b) : PCall Try.prog 54 [vI n] (vB b) := by
  have cs : (-536870912 ≤ n ∧ n ≤ 536870912 ∧ b = true) ∨ (-536870912 ≤ n ∧ ¬ n ≤ 536870912 ∧ b = false) ∨ (¬ -536870912 ≤ n ∧ b = false) := by
    rw [← hb]; unfold fB
    by_cases h1 : -536870912 ≤ n <;> by_cases h2 : n ≤ 536870912 <;> simp [h1, h2]
  clear hb
  rcases cs with ⟨h1, h2, rfl⟩ | ⟨h1, h2, rfl⟩ | ⟨h1, rfl⟩
  all_goals
    refine pcall_body (f := 54) Try.func54 rfl rfl rfl rfl ?_
    (repeat (first | ((with_reducible apply al_q); exact rfl) | ((with_reducible apply al_guard_b (c := true)); exact rfl; exact rfl; (first | assumption | exact decide_eq_true (by omega) | (simp only [Bool.not_eq_true', decide_eq_false_iff_not, decide_eq_true_eq, Bool.not_eq_false']; (first | done | omega)))) | ((with_reducible apply al_guard_b (c := false)); exact rfl; exact rfl; (first | assumption | exact decide_eq_false (by omega) | (simp only [Bool.not_eq_true', decide_eq_false_iff_not, decide_eq_true_eq, Bool.not_eq_false']; (first | done | omega)))) | ((with_reducible apply awp_seq)) | ((with_reducible apply athen_normal)) | ((with_reducible apply awp_region)) | ((with_reducible apply al_nil)) | ((with_reducible apply awp_ret))))
    (first | (refine apost_ret rfl (resl_tmp rfl resl_nil) ?_))
    first | exact AV.Le.refl _ | exact AV.Le.of_eq (by rw [decide_eq_true h2]; rfl) | exact AV.Le.of_eq (by rw [decide_eq_false h2]; rfl)
set_option maxRecDepth 100000 in
set_option maxHeartbeats 4000000 in
theorem p_pRight {x y : Int} {b : Bool} (hb : rB x y = b) : PCall Try.prog 36 [vP x y] (vB b) := by
  have C1 := p_far (n := x) rfl
  have C2 := p_far (n := y) rfl
  unfold rB at hb
  cases q1 : fB x <;> cases q2 : fB y <;> rw [q1] at C1 <;> rw [q2] at C2 <;> rw [q1, q2] at hb <;> subst hb <;> clear q1 q2
  all_goals
    refine pcall_body (f := 36) Try.func36 rfl rfl rfl rfl ?_
    (repeat (first | ((with_reducible apply al_q); exact rfl) | (refine al_call1 rfl rfl rfl (by (first | exact C1 | exact C2)) rfl ?_) | ((with_reducible apply awp_seq)) | ((with_reducible apply athen_normal)) | ((with_reducible apply awp_region)) | ((with_reducible apply al_nil)) | ((with_reducible apply awp_ret))))
    (first | (refine apost_ret rfl (resl_tmp rfl resl_nil) ?_))
    exact AV.Le.refl _
/-- the product of three points. -/
def cr (o1 o2 a1 a2 b1 b2 : Int) : Int := (a1 - o1) * (b2 - o2) - (a2 - o2) * (b1 - o1)
theorem mul_bd {x y A B : Int} (h1 : -A ≤ x) (h2 : x ≤ A) (h3 : -B ≤ y) (h4 : y ≤ B) : -(A * B) ≤ x * y ∧ x * y ≤ A * B := by
  have hx : x.natAbs ≤ A.natAbs := by omega
  have hy : y.natAbs ≤ B.natAbs := by omega
  have h := Nat.mul_le_mul hx hy
  rw [← Int.natAbs_mul, ← Int.natAbs_mul] at h
  have hA : 0 ≤ A * B := Int.mul_nonneg (by omega) (by omega)
  omega
theorem mul60 {x y : Int} (h1 : -1073741824 ≤ x) (h2 : x ≤ 1073741824) (h3 : -1073741824 ≤ y) (h4 : y ≤ 1073741824) : -1152921504606846976 ≤ x * y ∧ x * y ≤ 1152921504606846976 := by
  have := mul_bd h1 h2 h3 h4
  omega
set_option maxRecDepth 100000 in
set_option maxHeartbeats 4000000 in
theorem p_Cross_yes {o1 o2 a1 a2 b1 b2 : Int} (ho : rB o1 o2 = true) (ha : rB a1 a2 = true) (hb : rB b1 b2 = true) : PCall Try.prog 62 [vP o1 o2, vP a1 a2, vP b1 b2] (vI (cr o1 o2 a1 a2 b1 b2)) := by
  have R1 := p_pRight ho
  have R2 := p_pRight ha
  have R3 := p_pRight hb
  rw [rB_iff] at ho ha hb
  have m1 := mul60 (x := a1 - o1) (y := b2 - o2) (by omega) (by omega) (by omega) (by omega)
  have m2 := mul60 (x := a2 - o2) (y := b1 - o1) (by omega) (by omega) (by omega) (by omega)
  refine pcall_body (f := 62) Try.func62 rfl rfl rfl rfl ?_
  (repeat (first | ((with_reducible apply al_q); exact rfl) | ((with_reducible apply al_sub); (iterate 3 exact rfl); (first | exact i64_wrap (by omega) | assumption | rfl); exact rfl) | ((with_reducible apply al_mul); (iterate 3 exact rfl); (first | exact i64_wrap (by omega) | assumption | rfl); exact rfl) | (refine al_call1 rfl rfl rfl (by (first | exact R1 | exact R2 | exact R3)) rfl ?_) | ((with_reducible apply awp_seq)) | ((with_reducible apply athen_normal)) | ((with_reducible apply awp_region)) | ((with_reducible apply al_nil)) | ((with_reducible apply awp_ret)) | ((with_reducible apply awp_skip)) | ((with_reducible apply awp_cond_f); exact rfl)))
  (first | (refine apost_ret rfl (resl_tmp rfl resl_nil) ?_))
  exact AV.Le.refl _
set_option maxRecDepth 100000 in
set_option maxHeartbeats 4000000 in
theorem p_Cross_no {o1 o2 a1 a2 b1 b2 : Int} (h : (rB o1 o2 && rB a1 a2 && rB b1 b2) = false) : PCall Try.prog 62 [vP o1 o2, vP a1 a2, vP b1 b2] (vI 0) := by
  have R1 := p_pRight (x := o1) (y := o2) rfl
  have R2 := p_pRight (x := a1) (y := a2) rfl
  have R3 := p_pRight (x := b1) (y := b2) rfl
  have cs : rB o1 o2 = false ∨ (rB o1 o2 = true ∧ rB a1 a2 = false) ∨ (rB o1 o2 = true ∧ rB a1 a2 = true ∧ rB b1 b2 = false) := by
    generalize rB o1 o2 = p at *
    generalize rB a1 a2 = q at *
    generalize rB b1 b2 = r at *
    cases p <;> cases q <;> cases r <;> simp_all
  clear h
  rcases cs with h1 | ⟨h1, h2⟩ | ⟨h1, h2, h3⟩ <;> simp only [*] at R1 R2 R3
  all_goals
    refine pcall_body (f := 62) Try.func62 rfl rfl rfl rfl ?_
    (repeat (first | ((with_reducible apply al_q); exact rfl) | (refine al_call1 rfl rfl rfl (by (first | exact R1 | exact R2 | exact R3)) rfl ?_) | ((with_reducible apply awp_seq)) | ((with_reducible apply athen_normal)) | ((with_reducible apply awp_region)) | ((with_reducible apply al_nil)) | ((with_reducible apply awp_ret)) | ((with_reducible apply athen_ret)) | ((with_reducible apply awp_cond_t); exact rfl)))
    (first | (refine apost_ret rfl (resl_tmp rfl resl_nil) ?_))
    exact AV.Le.refl _
/-- the product, or 0, if a point is not right. -/
def crV (o1 o2 a1 a2 b1 b2 : Int) : Int := if (rB o1 o2 && rB a1 a2 && rB b1 b2) = true then cr o1 o2 a1 a2 b1 b2 else 0
theorem p_Cross {o1 o2 a1 a2 b1 b2 : Int} : PCall Try.prog 62 [vP o1 o2, vP a1 a2, vP b1 b2] (vI (crV o1 o2 a1 a2 b1 b2)) := by
  unfold crV
  by_cases h : (rB o1 o2 && rB a1 a2 && rB b1 b2) = true
  · rw [if_pos h]
    simp only [Bool.and_eq_true] at h
    exact p_Cross_yes h.1.1 h.1.2 h.2
  · rw [if_neg h]
    exact p_Cross_no (by simpa using h)
/-- the sign of a number. -/
def sgn4 (n : Int) : Int := if n < 0 then -1 else if 0 < n then 1 else 0
set_option maxRecDepth 100000 in
set_option maxHeartbeats 4000000 in
theorem p_Turn {o1 o2 a1 a2 b1 b2 : Int} : PCall Try.prog 57 [vP o1 o2, vP a1 a2, vP b1 b2] (vI (sgn4 (crV o1 o2 a1 a2 b1 b2))) := by
  have C1 := p_Cross (o1 := o1) (o2 := o2) (a1 := a1) (a2 := a2) (b1 := b1) (b2 := b2)
  generalize crV o1 o2 a1 a2 b1 b2 = c at *
  have cs : (c < 0 ∧ sgn4 c = -1) ∨ (¬ c < 0 ∧ 0 < c ∧ sgn4 c = 1) ∨ (¬ c < 0 ∧ ¬ 0 < c ∧ sgn4 c = 0) := by unfold sgn4; repeat' split <;> omega
  rcases cs with ⟨h1, h⟩ | ⟨h1, h2, h⟩ | ⟨h1, h2, h⟩ <;> rw [h] <;> clear h
  all_goals
    refine pcall_body (f := 57) Try.func57 rfl rfl rfl rfl ?_
    (repeat (first | ((with_reducible apply al_q); exact rfl) | (refine al_call3 rfl rfl rfl rfl rfl (by (first | exact C1)) rfl ?_) | ((with_reducible apply awp_seq)) | ((with_reducible apply athen_normal)) | ((with_reducible apply awp_region)) | ((with_reducible apply al_nil)) | ((with_reducible apply awp_ret)) | ((with_reducible apply awp_skip)) | ((with_reducible apply athen_ret)) | ((with_reducible apply awp_block)) | ((with_reducible apply ablock_normal)) | ((with_reducible apply ablock_ret)) | ((with_reducible apply awp_cond_1); exact rfl; (first | assumption | exact decide_eq_true (by omega) | (simp only [Bool.not_eq_true', decide_eq_false_iff_not, decide_eq_true_eq, Bool.not_eq_false']; (first | done | omega)))) | ((with_reducible apply awp_cond_0); exact rfl; (first | assumption | exact decide_eq_false (by omega) | (simp only [Bool.not_eq_true', decide_eq_false_iff_not, decide_eq_true_eq, Bool.not_eq_false']; (first | done | omega))))))
    (first | (refine apost_ret rfl (resl_tmp rfl resl_nil) ?_))
    exact AV.Le.refl _
/-! boxes -/
abbrev imin (a b : Int) : Int := if b < a then b else a
abbrev imax (a b : Int) : Int := if b > a then b else a
set_option maxRecDepth 100000 in
set_option maxHeartbeats 4000000 in
theorem p_Around {a1 a2 b1 b2 : Int} : PCall Try.prog 56 [vP a1 a2, vP b1 b2] (vBx (imin a1 b1) (imin a2 b2) (imax a1 b1) (imax a2 b2)) := by
  refine pcall_body (f := 56) Try.func56 rfl rfl rfl rfl ?_
  (repeat (first | ((with_reducible apply al_q); exact rfl) | ((with_reducible apply al_min); (iterate 4 exact rfl)) | ((with_reducible apply al_max); (iterate 4 exact rfl)) | ((with_reducible apply awp_seq)) | ((with_reducible apply athen_normal)) | ((with_reducible apply awp_region)) | ((with_reducible apply al_nil)) | ((with_reducible apply awp_ret))))
  (first | (refine apost_ret rfl (resl_agg rfl rfl rfl resl_nil) ?_) | (refine apost_ret rfl (resl_one rfl rfl rfl resl_nil) ?_))
  exact AV.Le.refl _
def hB (l1 l2 h1 h2 p1 p2 : Int) : Bool := decide (l1 ≤ p1) && decide (p1 ≤ h1) && decide (l2 ≤ p2) && decide (p2 ≤ h2)
set_option maxRecDepth 100000 in
set_option maxHeartbeats 4000000 in
theorem p_Holds {l1 l2 h1 h2 p1 p2 : Int} {b : Bool} (hb : hB l1 l2 h1 h2 p1 p2 = b) : PCall Try.prog 55 [vBx l1 l2 h1 h2, vP p1 p2] (vB b) := by
  have cs : (l1 ≤ p1 ∧ p1 ≤ h1 ∧ l2 ≤ p2 ∧ p2 ≤ h2 ∧ b = true) ∨ (l1 ≤ p1 ∧ p1 ≤ h1 ∧ l2 ≤ p2 ∧ ¬ p2 ≤ h2 ∧ b = false) ∨ (l1 ≤ p1 ∧ p1 ≤ h1 ∧ ¬ l2 ≤ p2 ∧ b = false) ∨ (l1 ≤ p1 ∧ ¬ p1 ≤ h1 ∧ b = false) ∨ (¬ l1 ≤ p1 ∧ b = false) := by
    rw [← hb]; unfold hB
    by_cases q1 : l1 ≤ p1 <;> by_cases q2 : p1 ≤ h1 <;> by_cases q3 : l2 ≤ p2 <;> by_cases q4 : p2 ≤ h2 <;> simp [q1, q2, q3, q4]
  clear hb
  rcases cs with ⟨q1, q2, q3, q4, rfl⟩ | ⟨q1, q2, q3, q4, rfl⟩ | ⟨q1, q2, q3, rfl⟩ | ⟨q1, q2, rfl⟩ | ⟨q1, rfl⟩
  all_goals
    refine pcall_body (f := 55) Try.func55 rfl rfl rfl rfl ?_
    (repeat (first | ((with_reducible apply al_q); exact rfl) | ((with_reducible apply al_guard_b (c := true)); exact rfl; exact rfl; (first | assumption | exact decide_eq_true (by omega) | (simp only [Bool.not_eq_true', decide_eq_false_iff_not, decide_eq_true_eq, Bool.not_eq_false']; (first | done | omega)))) | ((with_reducible apply al_guard_b (c := false)); exact rfl; exact rfl; (first | assumption | exact decide_eq_false (by omega) | (simp only [Bool.not_eq_true', decide_eq_false_iff_not, decide_eq_true_eq, Bool.not_eq_false']; (first | done | omega)))) | ((with_reducible apply awp_seq)) | ((with_reducible apply athen_normal)) | ((with_reducible apply awp_region)) | ((with_reducible apply al_nil)) | ((with_reducible apply awp_ret))))
    (first | (refine apost_ret rfl (resl_tmp rfl resl_nil) ?_))
    first | exact AV.Le.refl _ | exact AV.Le.of_eq (by rw [decide_eq_true q4]; rfl) | exact AV.Le.of_eq (by rw [decide_eq_false q4]; rfl)
/-- is p on the segment from a to b? -/
def onB (p1 p2 a1 a2 b1 b2 : Int) : Bool := rB p1 p2 && rB a1 a2 && rB b1 b2 && hB (imin a1 b1) (imin a2 b2) (imax a1 b1) (imax a2 b2) p1 p2 && decide (cr a1 a2 b1 b2 p1 p2 = 0)
theorem sgn4_zero {n : Int} : sgn4 n = 0 ↔ n = 0 := by unfold sgn4; repeat' split <;> omega
set_option maxRecDepth 100000 in
set_option maxHeartbeats 4000000 in
theorem p_On {p1 p2 a1 a2 b1 b2 : Int} {b : Bool} (hb : onB p1 p2 a1 a2 b1 b2 = b) : PCall Try.prog 39 [vP p1 p2, vP a1 a2, vP b1 b2] (vB b) := by
  have R1 := p_pRight (x := p1) (y := p2) rfl
  have R2 := p_pRight (x := a1) (y := a2) rfl
  have R3 := p_pRight (x := b1) (y := b2) rfl
  have H1 := p_Around (a1 := a1) (a2 := a2) (b1 := b1) (b2 := b2)
  have H2 := p_Holds (l1 := imin a1 b1) (l2 := imin a2 b2) (h1 := imax a1 b1) (h2 := imax a2 b2) (p1 := p1) (p2 := p2) rfl
  have T1 := p_Turn (o1 := a1) (o2 := a2) (a1 := b1) (a2 := b2) (b1 := p1) (b2 := p2)
  unfold onB at hb
  have cs : (rB p1 p2 = false ∧ b = false) ∨ (rB p1 p2 = true ∧ rB a1 a2 = false ∧ b = false) ∨ (rB p1 p2 = true ∧ rB a1 a2 = true ∧ rB b1 b2 = false ∧ b = false)
      ∨ (rB p1 p2 = true ∧ rB a1 a2 = true ∧ rB b1 b2 = true ∧ hB (imin a1 b1) (imin a2 b2) (imax a1 b1) (imax a2 b2) p1 p2 = false ∧ b = false)
      ∨ (rB p1 p2 = true ∧ rB a1 a2 = true ∧ rB b1 b2 = true ∧ hB (imin a1 b1) (imin a2 b2) (imax a1 b1) (imax a2 b2) p1 p2 = true ∧ b = decide (sgn4 (crV a1 a2 b1 b2 p1 p2) = 0)) := by
    have e : decide (sgn4 (crV a1 a2 b1 b2 p1 p2) = 0) = decide (crV a1 a2 b1 b2 p1 p2 = 0) := by rw [Bool.eq_iff_iff, decide_eq_true_eq, decide_eq_true_eq, sgn4_zero]
    rw [e]
    unfold crV
    generalize cr a1 a2 b1 b2 p1 p2 = c at *
    generalize rB p1 p2 = x1 at *
    generalize rB a1 a2 = x2 at *
    generalize rB b1 b2 = x3 at *
    generalize hB _ _ _ _ p1 p2 = x4 at *
    cases x1 <;> cases x2 <;> cases x3 <;> cases x4 <;> simp_all
  clear hb
  generalize hB _ _ _ _ p1 p2 = x4 at *
  generalize imin a1 b1 = i1 at *
  generalize imin a2 b2 = i2 at *
  generalize imax a1 b1 = i3 at *
  generalize imax a2 b2 = i4 at *
  generalize sgn4 (crV a1 a2 b1 b2 p1 p2) = t at *
  rcases cs with ⟨h1, rfl⟩ | ⟨h1, h2, rfl⟩ | ⟨h1, h2, h3, rfl⟩ | ⟨h1, h2, h3, rfl, rfl⟩ | ⟨h1, h2, h3, rfl, rfl⟩ <;> simp only [*] at R1 R2 R3
  all_goals
    refine pcall_body (f := 39) Try.func39 rfl rfl rfl rfl ?_
    (repeat (first | ((with_reducible apply al_q); exact rfl) | (refine al_call1 rfl rfl rfl (by (first | exact R1 | exact R2 | exact R3 | exact H1 | exact H2 | exact T1)) rfl ?_) | (refine al_call2 rfl rfl rfl rfl (by (first | exact R1 | exact R2 | exact R3 | exact H1 | exact H2 | exact T1)) rfl ?_) | (refine al_call3 rfl rfl rfl rfl rfl (by (first | exact R1 | exact R2 | exact R3 | exact H1 | exact H2 | exact T1)) rfl ?_) | ((with_reducible apply al_nilS); kernel_rfl) | ((with_reducible apply awp_region_draw); kernel_rfl; kernel_rfl; exact rfl) | ((with_reducible apply awp_seq)) | ((with_reducible apply athen_normal)) | ((with_reducible apply awp_region)) | ((with_reducible apply al_nil)) | ((with_reducible apply awp_ret))))
    (first | (refine apost_ret rfl (resl_tmp rfl resl_nil) ?_))
    exact AV.Le.refl _
end Go.Proofs.Ytlfkllmnekdghaa

namespace Go.Proofs.Ytlfkllmnekdghaa
open Go.RowKit
set_option linter.unusedVariables false
set_option linter.unusedSimpArgs false
theorem p_around11 (L : List (List (Int × Int))) : PCall Try.prog 32 [.w (.one (ringsA L))] (.w (.one (.p (FunP (.func 48) [.p (PtrP [ringsA L])])))) := by
  refine pcall_bodyT (f := 32) Try.func32 rfl rfl rfl rfl ?_
  refine awt_seq (awt_awp ?_)
  (repeat (first | ((with_reducible apply al_q); exact rfl) | ((with_reducible apply athen_normal)) | ((with_reducible apply awp_region)) | ((with_reducible apply al_nil))))
  refine awt_freeze 1 _ rfl rfl ?_
  refine awt_awp ?_
  (repeat (first | ((with_reducible apply al_q); exact rfl) | (refine al_mkfnP (xs := [_]) (cs := [_]) rfl rfl rfl rfl ?_) | ((with_reducible apply awp_seq)) | ((with_reducible apply athen_normal)) | ((with_reducible apply awp_region)) | ((with_reducible apply al_nil)) | ((with_reducible apply awp_ret))))
  (first | (refine apost_ret rfl (resl_tmp rfl resl_nil) ?_))
  exact AV.Le.refl _
abbrev vYd (l : Nat) : AV := vC (.func (.yield l) #[] #[])
def SdI (X : Yx) (L : List (List (Int × Int))) (k : Nat) (g : Option Nat) (ts : List (Nat × AV)) (ms : List (Nat × List AC)) : Prop :=
  ∃ (i : Nat) (ii : Int), i ≤ L.length ∧ k = L.length - i ∧ ii = i ∧ g = some (preN L i) ∧ ms = [] ∧ ts = [(0, vYd X.l), (7, .w (.one (ringsA L))), (8, vI L.length), (9, vI ii)]
def ScI (X : Yx) (L : List (List (Int × Int))) (r : List (Int × Int)) (b : Nat) (oo : Int) (k : Nat) (g : Option Nat) (ts : List (Nat × AV)) (ms : List (Nat × List AC)) : Prop :=
  ∃ (i : Nat) (ii : Int), i ≤ r.length ∧ k = r.length - i ∧ ii = i ∧ g = some (b + i) ∧ ms = [] ∧ ts = [(0, vYd X.l), (4, .w (.one (ringA r))), (7, .w (.one (ringsA L))), (8, vI L.length), (9, vI oo), (13, .w (.one (ringA r))), (14, vI r.length), (15, vI ii)]
theorem next_at {r : List (Int × Int)} {j : Nat} {jj : Int} (hp : j < r.length) (hjj : jj = j) : ∃ x y, (0 ≤ (jj + 1) % (r.length : Int) ∧ (jj + 1) % (r.length : Int) < r.length) ∧ (if j + 1 < r.length then r[j + 1]? else r[0]?) = some (x, y) ∧ ((ringC r).drop (((jj + 1) % (r.length : Int)).toNat * 2)).take 2 = [.c (.int .i64 x), .c (.int .i64 y)] := by
  subst hjj
  by_cases hn : j + 1 < r.length
  · have e : ((j : Int) + 1) % (r.length : Int) = ((j + 1 : Nat) : Int) := by rw [Int.emod_eq_of_lt (by omega) (by omega)]; omega
    obtain ⟨x, y, g⟩ : ∃ x y, r[j + 1]? = some (x, y) := ⟨_, _, List.getElem?_eq_getElem hn⟩
    refine ⟨x, y, by rw [e]; omega, by rw [if_pos hn]; exact g, ringC_at e g⟩
  · have e : ((j : Int) + 1) % (r.length : Int) = ((0 : Nat) : Int) := by
      rw [show (j : Int) + 1 = (r.length : Int) by omega, Int.emod_self]; rfl
    obtain ⟨x, y, g⟩ : ∃ x y, r[0]? = some (x, y) := ⟨_, _, List.getElem?_eq_getElem (by omega)⟩
    refine ⟨x, y, by rw [e]; omega, by rw [if_neg hn]; exact g, ringC_at e g⟩
set_option maxRecDepth 100000 in
set_option maxHeartbeats 8000000 in
theorem iseq_around {L : List (List (Int × Int))} (hL : L.length ≤ 4611686018427387904) (hr : ∀ r ∈ L, r.length ≤ 4611686018427387904) : ISeq Try.prog (FunP (.func 48) [.p (PtrP [ringsA L])]) ((edgsM L).map vEd) := by
  refine iseq_of (gf := 48) Try.func48 rfl (fun args w => enters_run (by kernel_rfl)) (Nat.le_of_ble_eq_true rfl) rfl rfl ?_
  intro X hX hxs
  refine ⟨_, ECs.cons (EC.refl _) ECs.nil, ?_⟩
  (repeat (first | ((with_reducible apply al_q); exact rfl) | ((with_reducible apply al_loadP1); (iterate 5 exact rfl)) | ((with_reducible apply al_len); (iterate 3 exact rfl)) | ((with_reducible apply ywp_seq)) | ((with_reducible apply ythen_normal)) | ((with_reducible apply al_nil)) | ((with_reducible apply ywp_block)) | ((with_reducible apply ywp_region); assumption)))
  refine ywp_loopL 34 (SdI X L) L.length _ [] ⟨0, 0, Nat.zero_le _, rfl, rfl, rfl, rfl, rfl⟩ rfl ⟨rfl, rfl, rfl, rfl, trivial⟩ trivial rfl ?_
  rintro n g ts ms ⟨i, ii, hi, rfl, hii, rfl, rfl, rfl⟩ hok
  clear hok
  by_cases hq : i < L.length
  · have q2 : ii < (L.length : Int) := by omega
    have q3 : 0 ≤ ii := by omega
    obtain ⟨r, hri⟩ : ∃ r, L[i]? = some r := ⟨_, List.getElem?_eq_getElem hq⟩
    have E1 := ringsC_at hii hri
    have hrl := hr r (List.mem_of_getElem? hri)
    (repeat (first | ((with_reducible apply al_q); exact rfl) | ((with_reducible apply al_loadP1); (iterate 5 exact rfl)) | ((with_reducible apply al_idxS); (iterate 3 exact rfl); (first | decide | omega); (first | decide | omega); (first | assumption | rfl); exact rfl) | ((with_reducible apply al_len); (iterate 3 exact rfl)) | ((with_reducible apply ywp_seq)) | ((with_reducible apply ythen_normal)) | ((with_reducible apply al_nil)) | ((with_reducible apply ywp_skip); assumption) | ((with_reducible apply ywp_block)) | ((with_reducible apply ywp_cond_1); exact rfl; (first | assumption | exact decide_eq_true (by omega) | (simp only [Bool.not_eq_true', decide_eq_false_iff_not, decide_eq_true_eq, Bool.not_eq_false']; (first | done | omega)) | exact rfl)) | ((with_reducible apply ywp_region); assumption)))
    refine ywp_loopL 34 (ScI X L r (preN L i) ii) r.length _ [] ⟨0, 0, Nat.zero_le _, rfl, rfl, rfl, rfl, rfl⟩ rfl ⟨rfl, rfl, rfl, rfl, rfl, rfl, rfl, rfl, trivial⟩ trivial rfl ?_
    rintro n g ts ms ⟨j, jj, hj, rfl, hjj, rfl, rfl, rfl⟩ hok
    clear hok
    by_cases hp : j < r.length
    · have p2 : jj < (r.length : Int) := by omega
      have p3 : 0 ≤ jj := by omega
      obtain ⟨x, y, g1⟩ : ∃ x y, r[j]? = some (x, y) := ⟨_, _, List.getElem?_eq_getElem hp⟩
      have F1 := ringC_at hjj g1
      obtain ⟨x2, y2, ⟨n0, n1⟩, g2, F2⟩ := next_at hp hjj
      have hx : X.xs[preN L i + j]? = some (vEd ((x, y), (x2, y2))) := by
        rw [hxs, List.getElem?_map, edgsM_at hri hp, edgM_at g1 g2]; rfl
      (repeat (first | ((with_reducible apply al_q); exact rfl) | ((with_reducible apply al_loadPN); (iterate 5 exact rfl)) | ((with_reducible apply al_idxS); (iterate 3 exact rfl); (first | decide | omega); (first | decide | omega); (first | assumption | rfl); exact rfl) | ((with_reducible apply al_add); (iterate 3 exact rfl); (first | exact i64_wrap (by omega) | assumption | rfl); exact rfl) | ((with_reducible apply al_rem); (iterate 3 exact rfl); (first | assumption | omega); (first | assumption | omega); exact rfl) | ((with_reducible apply al_len); (iterate 3 exact rfl)) | ((with_reducible apply ywp_seq)) | ((with_reducible apply ythen_normal)) | ((with_reducible apply al_nil)) | ((with_reducible apply ywp_skip); assumption) | ((with_reducible apply ywp_block)) | ((with_reducible apply ywp_cond_1); exact rfl; (first | assumption | exact decide_eq_true (by omega) | (simp only [Bool.not_eq_true', decide_eq_false_iff_not, decide_eq_true_eq, Bool.not_eq_false']; (first | done | omega)) | exact rfl)) | (refine ywp_yieldD (ri := 6) (kc := 10) (by assumption) (by kernel_rfl) rfl (by kernel_rfl) rfl ?_) | ((with_reducible apply ywp_region); assumption)))
      refine ⟨Nat.lt_of_lt_of_le (Nat.lt_succ_self _) (Nat.le_of_ble_eq_true rfl), rfl, _, [.w (.agg [.c (.int .i64 x), .c (.int .i64 y)]), .w (.agg [.c (.int .i64 x2), .c (.int .i64 y2)])], hx, rfl, Elds.cons (Eld.w rfl rfl) (Elds.cons (Eld.w rfl rfl) Elds.nil), ?_, ?_⟩
      · (repeat (first | ((with_reducible apply al_q); exact rfl) | ((with_reducible apply al_add); (iterate 3 exact rfl); (first | exact i64_wrap (by omega) | assumption | rfl); exact rfl) | ((with_reducible apply ythen_normal)) | ((with_reducible apply al_nil)) | ((with_reducible apply ywp_skip); assumption) | ((with_reducible apply yblock_normal)) | ((with_reducible apply ywp_cond_0); exact rfl; (first | assumption | exact decide_eq_false (by omega) | (simp only [Bool.not_eq_true', decide_eq_false_iff_not, decide_eq_true_eq, Bool.not_eq_false']; (first | done | omega)) | exact rfl)) | ((with_reducible apply ywp_region); assumption)))
        exact ⟨r.length - (j + 1), _, [], by omega, ⟨j + 1, jj + 1, hp, rfl, by omega, rfl, rfl, rfl⟩, rfl, ⟨rfl, rfl, rfl, rfl, rfl, rfl, rfl, rfl, trivial⟩, trivial, rfl⟩
      · (repeat (first | ((with_reducible apply al_q); exact rfl) | ((with_reducible apply ythen_normal)) | ((with_reducible apply al_nil)) | ((with_reducible apply ythen_ret)) | ((with_reducible apply ywp_ret); assumption) | ((with_reducible apply yblock_ret)) | ((with_reducible apply ywp_cond_1); exact rfl; (first | assumption | exact decide_eq_true (by omega) | (simp only [Bool.not_eq_true', decide_eq_false_iff_not, decide_eq_true_eq, Bool.not_eq_false']; (first | done | omega)) | exact rfl))))
        exact ⟨.inr rfl, .inl rfl⟩
    · have e : j = r.length := by omega
      have hps := preN_succ hri
      subst e
      (repeat (first | ((with_reducible apply al_q); exact rfl) | ((with_reducible apply al_add); (iterate 3 exact rfl); (first | exact i64_wrap (by omega) | assumption | rfl); exact rfl) | ((with_reducible apply ywp_seq)) | ((with_reducible apply ythen_normal)) | ((with_reducible apply al_nil)) | ((with_reducible apply yblock_normal)) | ((with_reducible apply yblock_same)) | ((with_reducible apply ywp_exit); assumption) | ((with_reducible apply ythen_exit)) | ((with_reducible apply ywp_cond_0); exact rfl; (first | assumption | exact decide_eq_false (by omega) | (simp only [Bool.not_eq_true', decide_eq_false_iff_not, decide_eq_true_eq, Bool.not_eq_false']; (first | done | omega)) | exact rfl)) | ((with_reducible apply ywp_region); assumption)))
      exact ⟨L.length - (i + 1), _, [], by omega, ⟨i + 1, ii + 1, hq, rfl, by omega, by rw [hps], rfl, rfl⟩, rfl, ⟨rfl, rfl, rfl, rfl, trivial⟩, trivial, rfl⟩
  · have e : i = L.length := by omega
    subst e
    (repeat (first | ((with_reducible apply al_q); exact rfl) | ((with_reducible apply ywp_seq)) | ((with_reducible apply ythen_normal)) | ((with_reducible apply al_nil)) | ((with_reducible apply yblock_same)) | ((with_reducible apply ywp_exit); assumption) | ((with_reducible apply ythen_exit)) | ((with_reducible apply ywp_cond_0); exact rfl; (first | assumption | exact decide_eq_false (by omega) | (simp only [Bool.not_eq_true', decide_eq_false_iff_not, decide_eq_true_eq, Bool.not_eq_false']; (first | done | omega)) | exact rfl)) | ((with_reducible apply ywp_region); assumption)))
    exact ⟨.inl rfl, .inr (by unfold preN; rw [List.take_length, List.length_map])⟩
end Go.Proofs.Ytlfkllmnekdghaa

namespace Go.Proofs.Ytlfkllmnekdghaa
open Go.RowKit
set_option linter.unusedVariables false
set_option linter.unusedSimpArgs false
instance iInpD_1 : IPart Try.prog 60 2 false 1 := ⟨by kernel_rfl⟩
theorem p_areas11 {n m : Nat} {xs ys : List AC} {op fill rung cap : Int} : PCall Try.prog 31 [.w (.agg [.p (SlP 1 n xs), .p (SlP 1 m ys), .c (.int .i64 op), .c (.int .i64 fill), .c (.int .i64 rung), .c (.int .i64 cap)])] (.w (.agg [.p (SlP 1 n xs), .p (SlP 1 m ys)])) := by
  refine pcall_body (f := 31) Try.func31 rfl rfl rfl rfl ?_
  (repeat (first | ((with_reducible apply al_q); exact rfl) | ((with_reducible apply awp_seq)) | ((with_reducible apply athen_normal)) | ((with_reducible apply awp_region)) | ((with_reducible apply al_nil)) | ((with_reducible apply awp_ret))))
  (first | (refine apost_ret rfl (resl_agg rfl rfl rfl resl_nil) ?_) | (refine apost_ret rfl (resl_one rfl rfl rfl resl_nil) ?_))
  exact AV.Le.refl _
theorem p_jrings11 (A B : List (List (Int × Int))) (op fill rung cap : Int) : PCall Try.prog 45 [.w (.agg (jobC A B op fill rung cap))] (.w (.one (.p (FunP (.func 60) [.p (PtrP (jobC A B op fill rung cap))])))) := by
  refine pcall_bodyT (f := 45) Try.func45 rfl rfl rfl rfl ?_
  refine awt_seq (awt_awp ?_)
  (repeat (first | ((with_reducible apply al_q); exact rfl) | ((with_reducible apply athen_normal)) | ((with_reducible apply awp_region)) | ((with_reducible apply al_nil))))
  refine awt_freeze 1 _ rfl rfl ?_
  refine awt_awp ?_
  (repeat (first | ((with_reducible apply al_q); exact rfl) | (refine al_mkfnP (xs := [_]) (cs := [_]) rfl rfl rfl rfl ?_) | ((with_reducible apply awp_seq)) | ((with_reducible apply athen_normal)) | ((with_reducible apply awp_region)) | ((with_reducible apply al_nil)) | ((with_reducible apply awp_ret))))
  (first | (refine apost_ret rfl (resl_tmp rfl resl_nil) ?_))
  exact AV.Le.refl _
def eldR (U : Nat → Prop) (W : World) (r : List (Int × Int)) : AC := .p (eldS U W (SlP 2 r.length (ringC r)))
theorem ecs_eldR (U : Nat → Prop) (W : World) (L : List (List (Int × Int))) : ECs U W (L.map ringA) (L.map (eldR U W)) := ⟨by simp, fun j x y hx hy => by
  rw [List.getElem?_map] at hx hy
  cases h : L[j]? with
  | none => rw [h] at hx; cases hx
  | some r => rw [h] at hx hy; cases hx; cases hy; exact EC.eld _⟩
theorem mapC_at {f : List (Int × Int) → AC} {L : List (List (Int × Int))} {i : Nat} {ii : Int} {r : List (Int × Int)} (hi : ii = i) (h : L[i]? = some r) : ((L.map f).drop (ii.toNat * 1)).take 1 = [f r] := by
  subst hi
  rw [Int.toNat_natCast, Nat.mul_one]
  have hk := (List.getElem?_eq_some_iff.1 h).1
  rw [List.drop_eq_getElem_cons (by simpa using hk)]
  simp [(List.getElem?_eq_some_iff.1 h).2]
def rgsM (A B : List (List (Int × Int))) : List (List AV) := (A ++ B).map fun r => [.w (.one (ringA r))]
def preR (A B : List (List (Int × Int))) (i : Nat) : Nat := if i = 0 then 0 else if i = 1 then A.length else A.length + B.length
abbrev eldL (X : Yx) (L : List (List (Int × Int))) : AC := .p (SlP 1 L.length (L.map (eldR X.U X.W1)))
def RuI (X : Yx) (A B : List (List (Int × Int))) (k : Nat) (g : Option Nat) (ts : List (Nat × AV)) (ms : List (Nat × List AC)) : Prop :=
  ∃ (i : Nat) (ii : Int), i ≤ 2 ∧ k = 2 - i ∧ ii = i ∧ g = some (preR A B i) ∧ ms = [] ∧ ts = [(0, vYd X.l), (8, .w (.agg [eldL X A, eldL X B])), (9, vI ii)]
def RvI (X : Yx) (A B L : List (List (Int × Int))) (b : Nat) (oo : Int) (k : Nat) (g : Option Nat) (ts : List (Nat × AV)) (ms : List (Nat × List AC)) : Prop :=
  ∃ (i : Nat) (ii : Int), i ≤ L.length ∧ k = L.length - i ∧ ii = i ∧ g = some (b + i) ∧ ms = [] ∧ ts = [(0, vYd X.l), (8, .w (.agg [eldL X A, eldL X B])), (9, vI oo), (12, .w (.one (eldL X L))), (13, vI L.length), (14, vI ii)]
set_option maxRecDepth 100000 in
set_option maxHeartbeats 8000000 in
theorem iseq_rings {A B : List (List (Int × Int))} {op fill rung cap : Int} (hA : A.length ≤ 4611686018427387904) (hB : B.length ≤ 4611686018427387904) : ISeq Try.prog (FunP (.func 60) [.p (PtrP (jobC A B op fill rung cap))]) (rgsM A B) := by
  refine iseq_of (gf := 60) Try.func60 rfl (fun args w => enters_run (by kernel_rfl)) (Nat.le_of_ble_eq_true rfl) rfl rfl ?_
  intro X hX hxs
  refine ⟨[.p (PtrP [eldL X A, eldL X B, .c (.int .i64 op), .c (.int .i64 fill), .c (.int .i64 rung), .c (.int .i64 cap)])], ECs.cons (EC.ptr (ECs.cons (EC.sl (ecs_eldR _ _ A)) (ECs.cons (EC.sl (ecs_eldR _ _ B)) (ECs.cons (EC.refl _) (ECs.cons (EC.refl _) (ECs.cons (EC.refl _) (ECs.cons (EC.refl _) ECs.nil))))))) ECs.nil, ?_⟩
  have C0 := p_areas11 (n := A.length) (m := B.length) (xs := A.map (eldR X.U X.W1)) (ys := B.map (eldR X.U X.W1)) (op := op) (fill := fill) (rung := rung) (cap := cap)
  (repeat (first | ((with_reducible apply al_q); exact rfl) | ((with_reducible apply al_loadPN); (iterate 5 exact rfl)) | (refine al_call1 rfl rfl rfl (by (first | exact C0)) rfl ?_) | ((with_reducible apply ywp_seq)) | ((with_reducible apply ythen_normal)) | ((with_reducible apply al_nil)) | ((with_reducible apply ywp_block)) | ((with_reducible apply ywp_region); assumption)))
  refine ywp_loopL 24 (RuI X A B) 2 _ [] ⟨0, 0, Nat.zero_le _, rfl, rfl, rfl, rfl, rfl⟩ rfl ⟨rfl, rfl, rfl, trivial⟩ trivial rfl ?_
  rintro n g ts ms ⟨i, ii, hi, rfl, hii, rfl, rfl, rfl⟩ hok
  clear hok
  by_cases hq : i < 2
  · have q2 : ii < 2 := by omega
    have q3 : 0 ≤ ii := by omega
    obtain ⟨L, hcell, hLl, hxL, hpre⟩ : ∃ L : List (List (Int × Int)), [eldL X A, eldL X B][ii.toNat * 1]? = some (eldL X L) ∧ L.length ≤ 4611686018427387904 ∧ (∀ j r, L[j]? = some r → X.xs[preR A B i + j]? = some [.w (.one (ringA r))]) ∧ preR A B (i + 1) = preR A B i + L.length := by
      have h01 : i = 0 ∨ i = 1 := by omega
      rw [hxs]
      rcases h01 with rfl | rfl
      · subst hii
        refine ⟨A, rfl, hA, fun j r hj => ?_, by simp [preR]⟩
        have hlt := (List.getElem?_eq_some_iff.1 hj).1
        rw [show preR A B 0 + j = j from Nat.zero_add j, rgsM, List.getElem?_map, List.getElem?_append_left hlt, hj]; rfl
      · subst hii
        refine ⟨B, rfl, hB, fun j r hj => ?_, by simp [preR]⟩
        rw [show preR A B 1 + j = A.length + j from rfl, rgsM, List.getElem?_map, List.getElem?_append_right (by omega), show A.length + j - A.length = j by omega, hj]; rfl
    (repeat (first | ((with_reducible apply al_q); exact rfl) | ((with_reducible apply al_len); (iterate 3 exact rfl)) | ((with_reducible apply al_indexV1); (iterate 3 exact rfl); (first | decide | omega); (first | decide | omega); (first | assumption | rfl); exact rfl) | ((with_reducible apply ywp_seq)) | ((with_reducible apply ythen_normal)) | ((with_reducible apply al_nil)) | ((with_reducible apply ywp_skip); assumption) | ((with_reducible apply ywp_block)) | ((with_reducible apply ywp_cond_1); exact rfl; (first | assumption | exact decide_eq_true (by omega) | (simp only [Bool.not_eq_true', decide_eq_false_iff_not, decide_eq_true_eq, Bool.not_eq_false']; (first | done | omega)) | exact rfl)) | ((with_reducible apply ywp_region); assumption)))
    refine ywp_loopL 24 (RvI X A B L (preR A B i) ii) L.length _ [] ⟨0, 0, Nat.zero_le _, rfl, rfl, rfl, rfl, rfl⟩ rfl ⟨rfl, rfl, rfl, rfl, rfl, rfl, trivial⟩ trivial rfl ?_
    rintro n g ts ms ⟨j, jj, hj, rfl, hjj, rfl, rfl, rfl⟩ hok
    clear hok
    by_cases hp : j < L.length
    · have p2 : jj < (L.length : Int) := by omega
      have p3 : 0 ≤ jj := by omega
      obtain ⟨r, g1⟩ : ∃ r, L[j]? = some r := ⟨_, List.getElem?_eq_getElem hp⟩
      have F1 := mapC_at (f := eldR X.U X.W1) hjj g1
      have hx := hxL j r g1
      (repeat (first | ((with_reducible apply al_q); exact rfl) | ((with_reducible apply al_loadP1); (iterate 5 exact rfl)) | ((with_reducible apply al_idxS); (iterate 3 exact rfl); (first | decide | omega); (first | decide | omega); (first | assumption | rfl); exact rfl) | ((with_reducible apply ywp_seq)) | ((with_reducible apply ythen_normal)) | ((with_reducible apply al_nil)) | ((with_reducible apply ywp_skip); assumption) | ((with_reducible apply ywp_block)) | ((with_reducible apply ywp_cond_1); exact rfl; (first | assumption | exact decide_eq_true (by omega) | (simp only [Bool.not_eq_true', decide_eq_false_iff_not, decide_eq_true_eq, Bool.not_eq_false']; (first | done | omega)) | exact rfl)) | (refine ywp_yield (ri := 6) (k := 2) (by assumption) rfl ?_) | ((with_reducible apply ywp_region); assumption)))
      refine ⟨Nat.lt_of_lt_of_le (Nat.lt_succ_self _) (Nat.le_of_ble_eq_true rfl), rfl, _, [.w (.one (eldR X.U X.W1 r))], hx, rfl, Elds.cons (Eld.eld _) Elds.nil, ?_, ?_⟩
      · (repeat (first | ((with_reducible apply al_q); exact rfl) | ((with_reducible apply al_add); (iterate 3 exact rfl); (first | exact i64_wrap (by omega) | assumption | rfl); exact rfl) | ((with_reducible apply ythen_normal)) | ((with_reducible apply al_nil)) | ((with_reducible apply ywp_skip); assumption) | ((with_reducible apply yblock_normal)) | ((with_reducible apply ywp_cond_0); exact rfl; (first | assumption | exact decide_eq_false (by omega) | (simp only [Bool.not_eq_true', decide_eq_false_iff_not, decide_eq_true_eq, Bool.not_eq_false']; (first | done | omega)) | exact rfl)) | ((with_reducible apply ywp_region); assumption)))
        exact ⟨L.length - (j + 1), _, [], by omega, ⟨j + 1, jj + 1, hp, rfl, by omega, rfl, rfl, rfl⟩, rfl, ⟨rfl, rfl, rfl, rfl, rfl, rfl, trivial⟩, trivial, rfl⟩
      · (repeat (first | ((with_reducible apply al_q); exact rfl) | ((with_reducible apply ythen_normal)) | ((with_reducible apply al_nil)) | ((with_reducible apply ythen_ret)) | ((with_reducible apply ywp_ret); assumption) | ((with_reducible apply yblock_ret)) | ((with_reducible apply ywp_cond_1); exact rfl; (first | assumption | exact decide_eq_true (by omega) | (simp only [Bool.not_eq_true', decide_eq_false_iff_not, decide_eq_true_eq, Bool.not_eq_false']; (first | done | omega)) | exact rfl))))
        exact ⟨.inr rfl, .inl rfl⟩
    · have e : j = L.length := by omega
      subst e
      (repeat (first | ((with_reducible apply al_q); exact rfl) | ((with_reducible apply al_add); (iterate 3 exact rfl); (first | exact i64_wrap (by omega) | assumption | rfl); exact rfl) | ((with_reducible apply ywp_seq)) | ((with_reducible apply ythen_normal)) | ((with_reducible apply al_nil)) | ((with_reducible apply yblock_normal)) | ((with_reducible apply yblock_same)) | ((with_reducible apply ywp_exit); assumption) | ((with_reducible apply ythen_exit)) | ((with_reducible apply ywp_cond_0); exact rfl; (first | assumption | exact decide_eq_false (by omega) | (simp only [Bool.not_eq_true', decide_eq_false_iff_not, decide_eq_true_eq, Bool.not_eq_false']; (first | done | omega)) | exact rfl)) | ((with_reducible apply ywp_region); assumption)))
      exact ⟨2 - (i + 1), _, [], by omega, ⟨i + 1, ii + 1, hq, rfl, by omega, by rw [hpre], rfl, rfl⟩, rfl, ⟨rfl, rfl, rfl, trivial⟩, trivial, rfl⟩
  · have e : i = 2 := by omega
    subst e
    (repeat (first | ((with_reducible apply al_q); exact rfl) | ((with_reducible apply ywp_seq)) | ((with_reducible apply ythen_normal)) | ((with_reducible apply al_nil)) | ((with_reducible apply yblock_same)) | ((with_reducible apply ywp_exit); assumption) | ((with_reducible apply ythen_exit)) | ((with_reducible apply ywp_cond_0); exact rfl; (first | assumption | exact decide_eq_false (by omega) | (simp only [Bool.not_eq_true', decide_eq_false_iff_not, decide_eq_true_eq, Bool.not_eq_false']; (first | done | omega)) | exact rfl)) | ((with_reducible apply ywp_region); assumption)))
    exact ⟨.inl rfl, .inr (by simp [preR, rgsM])⟩
end Go.Proofs.Ytlfkllmnekdghaa

namespace Go.Proofs.Ytlfkllmnekdghaa
open Go.RowKit
set_option linter.unusedVariables false
set_option linter.unusedSimpArgs false
instance iInpE_1 : RowTy Try.prog 32 39 5 40 := ⟨by kernel_rfl⟩
abbrev edRow (v : Value) (l : List (Int × ((Int × Int) × (Int × Int)))) : HRow := ⟨39, 5, v, l.length, edsC l⟩
def allE (A B : List (List (Int × Int))) : List (Int × ((Int × Int) × (Int × Int))) := (edgsM A).map (fun e => (0, e)) ++ (edgsM B).map fun e => (1, e)
theorem edRow_one (v : Value) (l : List (Int × ((Int × Int) × (Int × Int)))) (x : Int × ((Int × Int) × (Int × Int))) : edRow v (l ++ [x]) = ⟨39, 5, v, l.length + 1, edsC l ++ edC x⟩ := by
  simp [edRow, edsC, List.flatMap_append]
theorem allE_A {A B : List (List (Int × Int))} {i : Nat} {e : (Int × Int) × (Int × Int)} (h : (edgsM A)[i]? = some e) : (allE A B)[i]? = some (0, e) := by
  have hi := (List.getElem?_eq_some_iff.1 h).1
  unfold allE
  rw [List.getElem?_append_left (by simpa using hi), List.getElem?_map, h]; rfl
theorem allE_B {A B : List (List (Int × Int))} {i : Nat} {e : (Int × Int) × (Int × Int)} (h : (edgsM B)[i]? = some e) : (allE A B)[(edgsM A).length + i]? = some (1, e) := by
  unfold allE
  rw [List.getElem?_append_right (by simp), List.length_map, Nat.add_sub_cancel_left, List.getElem?_map, h]; rfl
theorem allE_len (A B : List (List (Int × Int))) : (allE A B).length = (edgsM A).length + (edgsM B).length := by simp [allE]
def preE (A B : List (List (Int × Int))) (i : Nat) : Nat := if i = 0 then 0 else if i = 1 then (edgsM A).length else (edgsM A).length + (edgsM B).length
def EoI (A B : List (List (Int × Int))) (k : Nat) (R : Rws) (ts : List (Nat × AV)) (ms : List (Nat × List AC)) : Prop :=
  ∃ (i : Nat) (ii : Int) (v : Value), i ≤ 2 ∧ k = 2 - i ∧ ii = i ∧ v.oneCell' = true ∧ R = row1 0 (edRow v ((allE A B).take (preE A B i))) ∧ ms = [(1003, [.c v])] ∧ ts = [(3, vOw11 1003), (9, .w (.agg [ringsA A, ringsA B])), (10, vI ii)]
def EdI (M : List (Int × ((Int × Int) × (Int × Int)))) (ii : Int) (b : Nat) (i : Nat) (R : Rws) (css : List (List AC)) : Prop := ∃ v, v.oneCell' = true ∧ R = row1 0 (edRow v (M.take (b + i))) ∧ css = [[.c v], [.c (.int .i64 ii)]]
set_option maxRecDepth 100000 in
set_option maxHeartbeats 8000000 in
theorem p_Edges11 {A B : List (List (Int × Int))} {op fill rung cap : Int} (hA : A.length ≤ 900000) (hB : B.length ≤ 900000) (hAr : ∀ r ∈ A, r.length ≤ 900000) (hBr : ∀ r ∈ B, r.length ≤ 900000) (hM : (allE A B).length ≤ 900000) :
    PCall Try.prog 14 [.w (.agg (jobC A B op fill rung cap))] (vS 5 (allE A B).length (edsC (allE A B))) := by
  have C0 : PCall Try.prog 31 [.w (.agg (jobC A B op fill rung cap))] (.w (.agg [ringsA A, ringsA B])) := p_areas11
  refine pcall_bodyR (f := 14) Try.func14 rfl rfl rfl rfl ?_
  (repeat (first | ((with_reducible apply rwt_seq)) | ((with_reducible apply rwt_region)) | ((with_reducible apply rwt_block)) | ((with_reducible apply rthen_normal)) | ((with_reducible apply hs_nil)) | ((with_reducible apply hs_c); exact rfl; (repeat (first | ((with_reducible apply al_q); exact rfl) | (refine al_call1 rfl rfl rfl (by (first | exact C0)) rfl ?_))); (with_reducible apply al_nil))))
  refine rwt_ren (swp 3 1003) (swp_swp _ _) ?_
  refine rwt_nil 0 39 5 rfl ?_
  refine rwt_loopL 27 (EoI A B) 2 _ _ _ ⟨0, 0, .slice none 0 0, Nat.zero_le _, rfl, rfl, rfl, rfl, rfl, rfl⟩ (row1_le _ _ _) rfl ⟨rfl, rfl, rfl, trivial⟩ ⟨rfl, trivial⟩ rfl ?_
  rintro n R ts ms ⟨i, ii, v, hi, rfl, hii, hv, rfl, rfl, rfl⟩ hok
  clear hok
  by_cases hq : i < 2
  · have q2 : ii < 2 := by omega
    have q3 : 0 ≤ ii := by omega
    obtain ⟨L, hcell, hLl, hLr, hE, hpre⟩ : ∃ L : List (List (Int × Int)), [ringsA A, ringsA B][ii.toNat * 1]? = some (ringsA L) ∧ L.length ≤ 900000 ∧ (∀ r ∈ L, r.length ≤ 900000) ∧ (∀ (j : Nat) e, (edgsM L)[j]? = some e → (allE A B)[preE A B i + j]? = some (ii, e)) ∧ preE A B (i + 1) = preE A B i + (edgsM L).length := by
      have h01 : i = 0 ∨ i = 1 := by omega
      rcases h01 with rfl | rfl
      · subst hii
        refine ⟨A, rfl, hA, hAr, fun j e he => ?_, by simp [preE]⟩
        rw [show preE A B 0 + j = j from Nat.zero_add j]; exact allE_A he
      · subst hii
        exact ⟨B, rfl, hB, hBr, fun j e he => allE_B he, by simp [preE]⟩
    have S1 := p_around11 L
    have Q1 := iseq_around (L := L) (by omega) (fun r hr => by have := hLr r hr; omega)
    (repeat (first | ((with_reducible apply rwt_seq)) | ((with_reducible apply rwt_region)) | ((with_reducible apply rwt_skip)) | ((with_reducible apply rwt_block)) | ((with_reducible apply rthen_normal)) | ((with_reducible apply hs_nil)) | ((with_reducible apply hs_c); exact rfl; (repeat (first | ((with_reducible apply al_q); exact rfl) | ((with_reducible apply al_indexV1); (iterate 3 exact rfl); (first | decide | omega); (first | decide | omega); (first | assumption | rfl); exact rfl) | (refine al_call1 rfl rfl rfl (by (first | exact S1)) rfl ?_))); (with_reducible apply al_nil)) | ((with_reducible apply rwt_cond_1); exact rfl; (first | assumption | exact decide_eq_true (by omega) | (simp only [Bool.not_eq_true', decide_eq_false_iff_not, decide_eq_true_eq, Bool.not_eq_false']; (first | done | omega)) | exact rfl))))
    refine rwt_ren (swp 4 1004) (swp_swp _ _) ?_
    refine rwt_range 27 [(3, vOw11 1003), (4, vOw11 1004), (9, .w (.agg [ringsA A, ringsA B])), (10, vI ii)] [1003, 1004] [[.c v], [.c (.int .i64 ii)]] (row1 0 (edRow v ((allE A B).take (preE A B i)))) (EdI (allE A B) ii (preE A B i)) (fun _ _ _ => False) rfl Q1 (by decide) ?hxs ?hp rfl ⟨rfl, rfl, rfl, rfl, trivial⟩ ⟨rfl, rfl, trivial⟩ (by decide) rfl rfl ⟨v, hv, rfl, rfl⟩ (RLe.refl _) (plainR1 (Nat.zero_lt_succ _)) ?round ?done (fun _ _ _ _ _ h => h.elim)
    case hxs =>
      intro x hx
      obtain ⟨e, _, rfl⟩ := List.mem_map.1 hx
      exact ⟨rfl, rfl⟩
    case hp =>
      intro p hp
      simp only [List.mem_cons, List.not_mem_nil, or_false] at hp
      rcases hp with rfl | rfl <;> exact ⟨by decide, rfl⟩
    case round =>
      rintro j x R css hx ⟨v, hv, rfl, rfl⟩ hok
      rw [List.getElem?_map] at hx
      obtain ⟨⟨⟨x1, y1⟩, x2, y2⟩, he, rfl⟩ := Option.map_eq_some_iff.1 hx
      clear hx hok
      have ht := take_one (hE _ _ he)
      have htl : ((allE A B).take (preE A B i + j)).length ≤ 900000 := by rw [List.length_take]; omega
      (repeat (first | ((with_reducible apply rwp_seq)) | ((with_reducible apply rthen_normal)) | ((with_reducible apply rwp_region)) | ((with_reducible apply hs_nil)) | ((with_reducible apply rwp_block)) | ((with_reducible apply hs_c); exact rfl; (repeat (first | ((with_reducible apply al_q); exact rfl) | ((with_reducible apply al_bslice); (iterate 10 exact rfl)))); (with_reducible apply al_nil))))
      refine hs_app0 0 rfl rfl rfl rfl ?q1 ?q2 rfl rfl (fun v' hv' => ?_)
      case q1 => exact Nat.le_trans (m := 1000000) (by show ((allE A B).take (preE A B i + j)).length + 1 ≤ 1000000; omega) (by decide)
      case q2 => show (((allE A B).take (preE A B i + j)).length + 1) * 40 ≤ 140737488355328; omega
      (repeat (first | ((with_reducible apply hs_nil)) | ((with_reducible apply rblock_normal)) | ((with_reducible apply hs_c); exact rfl; (repeat (first | ((with_reducible apply al_q); exact rfl))); (with_reducible apply al_nil))))
      refine ⟨_, _, ⟨v', hv', rfl, rfl⟩, ?_, plainR1 (Nat.zero_lt_succ _), rfl, ⟨rfl, rfl, trivial⟩, rfl⟩
      rw [← Nat.add_assoc, ht, edRow_one]; exact row1_le _ _ _
    case done =>
      rintro R css ⟨v, hv, rfl, rfl⟩ hok
      clear hok
      rw [List.length_map]
      (repeat (first | ((with_reducible apply rwt_region)) | ((with_reducible apply rthen_normal)) | ((with_reducible apply hs_nil)) | ((with_reducible apply rblock_normal)) | ((with_reducible apply hs_c); exact rfl; (repeat (first | ((with_reducible apply al_q); exact rfl) | ((with_reducible apply al_add); (iterate 3 exact rfl); (first | exact i64_wrap (by omega) | assumption | rfl); exact rfl))); (with_reducible apply al_nil))))
      exact ⟨2 - (i + 1), _, _, _, by omega, ⟨i + 1, ii + 1, v, by omega, rfl, by omega, hv, rfl, rfl, rfl⟩, by rw [hpre]; exact RLe.refl _, rfl, ⟨rfl, rfl, rfl, trivial⟩, ⟨rfl, trivial⟩, rfl⟩
  · have e : i = 2 := by omega
    subst e
    have e0 : (allE A B).take (preE A B 2) = allE A B := List.take_of_length_le (by rw [allE_len]; simp [preE])
    rw [e0]
    have q4 : ¬ ii < 2 := by omega
    refine rwt_coolb 0 1003 0 (edRow v (allE A B)) rfl rfl rfl ?_
    (repeat (first | ((with_reducible apply rwt_seq)) | ((with_reducible apply rwt_region)) | ((with_reducible apply rwt_ret)) | ((with_reducible apply rwt_exit)) | ((with_reducible apply rthen_normal)) | ((with_reducible apply hs_nil)) | ((with_reducible apply rblock_same)) | ((with_reducible apply rthen_exit)) | ((with_reducible apply hs_c); exact rfl; (repeat (first | ((with_reducible apply al_q); exact rfl))); (with_reducible apply al_nil)) | ((with_reducible apply rwt_cond_0); exact rfl; (first | assumption | exact decide_eq_false (by omega) | (simp only [Bool.not_eq_true', decide_eq_false_iff_not, decide_eq_true_eq, Bool.not_eq_false']; (first | done | omega)) | exact rfl))))
    (first | (refine apost_ret rfl (resl_tmp rfl resl_nil) ?_))
    exact AV.Le.refl _
end Go.Proofs.Ytlfkllmnekdghaa

namespace Go.Proofs.Ytlfkllmnekdghaa
open Go.RowKit
set_option linter.unusedVariables false
set_option linter.unusedSimpArgs false
/-- how many points all rings have. -/
def sumL (L : List (List Pt)) : Nat := (L.map List.length).sum
theorem sumL_take {L : List (List Pt)} {k : Nat} {r : List Pt} (h : L[k]? = some r) : sumL (L.take (k + 1)) = sumL (L.take k) + r.length := by
  rw [take_one h]; simp [sumL]
theorem sumL_le {L : List (List Pt)} {k : Nat} : sumL (L.take k) ≤ sumL L := by
  have e : sumL L = sumL (L.take k) + sumL (L.drop k) := by
    conv => lhs; rw [← List.take_append_drop k L]
    simp only [sumL, List.map_append, List.sum_append]
  omega
/-- what points counts. -/
def ptsF : List (List Pt) → Nat → Nat
  | [], c => c
  | r :: L, c => if c ≤ 256 then (if 256 < r.length then 257 else ptsF L (c + r.length)) else c
def PnI (L : List (List Pt)) (n : Nat) (ts : List (Nat × AV)) (ms : List (Nat × List AC)) : Prop :=
  ∃ (k : Nat) (ki : Int) (c : Nat), k ≤ L.length ∧ n = L.length - k ∧ ki = k ∧ c ≤ 512 ∧ ptsF L 0 = ptsF (L.drop k) c ∧ ms = [] ∧ ts = [(0, .w (.one (ringsA L))), (3, vI c), (4, vI ki)]
def farB (p : Pt) : Bool := decide (p.1 > 67108864) || decide (p.1 < -67108864) || decide (p.2 > 67108864) || decide (p.2 < -67108864)
/-- why rings may not be. -/
def rgV : List (List Pt) → Int
  | [] => 0
  | r :: L => if r.length < 3 then 114 else if r.any farB = true then 115 else rgV L
theorem rgV_cons (r : List Pt) (L : List (List Pt)) : rgV (r :: L) = if r.length < 3 then 114 else if r.any farB = true then 115 else rgV L := rfl
def RgI (L : List (List Pt)) (n : Nat) (ts : List (Nat × AV)) (ms : List (Nat × List AC)) : Prop :=
  ∃ (k : Nat) (ki : Int), k ≤ L.length ∧ n = L.length - k ∧ ki = k ∧ rgV L = rgV (L.drop k) ∧ ms = [] ∧ ts = [(0, .w (.one (ringsA L))), (3, vI ki)]
def RhI (L : List (List Pt)) (r : List Pt) (ki : Int) (n : Nat) (ts : List (Nat × AV)) (ms : List (Nat × List AC)) : Prop :=
  ∃ (i : Nat) (ii : Int), i ≤ r.length ∧ n = r.length - i ∧ ii = i ∧ r.any farB = (r.drop i).any farB ∧ ms = [] ∧ ts = [(0, .w (.one (ringsA L))), (3, vI ki), (4, vI ii)]
/-- why a job may not be, or 0. -/
def chkV (A B : List (List Pt)) (op fill rung cap : Int) : Int :=
  if op < 0 ∨ op > 3 then 110 else if fill < 0 ∨ fill > 1 then 111 else if rung < 0 ∨ rung > 28 then 112 else if cap < 1 ∨ cap > 1024 then 113 else if sumL A + sumL B < 1 ∨ sumL A + sumL B > 256 then 116 else if rgV A = 0 then rgV B else rgV A
end Go.Proofs.Ytlfkllmnekdghaa

namespace Go.Proofs.Ytlfkllmnekdghaa
open Go.RowKit
set_option linter.unusedVariables false
set_option linter.unusedSimpArgs false
theorem sumL_app (A B : List (List Pt)) : sumL (A ++ B) = sumL A + sumL B := by simp [sumL]
theorem rgV_app : ∀ (A B : List (List Pt)), rgV (A ++ B) = if rgV A = 0 then rgV B else rgV A
  | [], B => rfl
  | r :: A, B => by
    rw [List.cons_append, rgV_cons, rgV_cons]
    by_cases h1 : r.length < 3
    · rw [if_pos h1, if_pos h1]; rfl
    · rw [if_neg h1, if_neg h1]
      by_cases h2 : r.any farB = true
      · rw [if_pos h2, if_pos h2]; rfl
      · rw [if_neg h2, if_neg h2]; exact rgV_app A B
theorem rgsM_at {A B : List (List Pt)} {i : Nat} {x : List AV} (h : (rgsM A B)[i]? = some x) : ∃ r, (A ++ B)[i]? = some r ∧ x = [.w (.one (ringA r))] := by
  rw [rgsM, List.getElem?_map] at h
  obtain ⟨r, h1, rfl⟩ := Option.map_eq_some_iff.1 h
  exact ⟨r, h1, rfl⟩
theorem rgsM_cl {A B : List (List Pt)} : ∀ x ∈ rgsM A B, x.length = 1 ∧ x.all AV.closedB = true := fun x hx => by
  obtain ⟨r, _, rfl⟩ := List.mem_map.1 hx
  exact ⟨rfl, rfl⟩
def NmI (M : List (List Pt)) (i : Nat) (R : Rws) (css : List (List AC)) : Prop := ∃ c : Int, R = noRows ∧ css = [[.c (.bool false)], [.c (.int .i64 c)]] ∧ c = (sumL (M.take i) : Nat) ∧ c ≤ 256
def NmX (M : List (List Pt)) (e : Exit) (R : Rws) (css : List (List AC)) : Prop := ∃ c : Int, e = .ret ∧ R = noRows ∧ css = [[.c (.bool true)], [.c (.int .i64 c)]] ∧ 256 < sumL M
def nmB (A B : List (List Pt)) : Bool := decide (sumL A + sumL B < 1 ∨ sumL A + sumL B > 256)
set_option maxRecDepth 100000 in
set_option maxHeartbeats 8000000 in
theorem p_isNone {A B : List (List Pt)} {op fill rung cap : Int} (hA : A.length ≤ 4611686018427387904) (hB : B.length ≤ 4611686018427387904) (hr : ∀ r ∈ A ++ B, r.length ≤ 4611686018427387904) :
    PCall Try.prog 27 [.w (.agg (jobC A B op fill rung cap))] (vB (nmB A B)) := by
  have S1 := p_jrings11 A B op fill rung cap
  have Q1 := iseq_rings (A := A) (B := B) (op := op) (fill := fill) (rung := rung) (cap := cap) hA hB
  refine pcall_bodyR (f := 27) Try.func27 rfl rfl rfl rfl ?_
  (repeat (first | ((with_reducible apply rwt_seq)) | ((with_reducible apply rwt_region)) | ((with_reducible apply rwt_block)) | ((with_reducible apply rthen_normal)) | ((with_reducible apply hs_nil)) | ((with_reducible apply hs_c); exact rfl; (repeat (first | ((with_reducible apply al_q); exact rfl) | (refine al_call1 rfl rfl rfl (by (first | exact S1)) rfl ?_))); (with_reducible apply al_nil))))
  refine rwt_ren (swp 2 1002) (swp_swp _ _) ?_
  refine rwt_ren (swp 3 1003) (swp_swp _ _) ?_
  refine rwt_range 16 [(2, vOw11 1002), (3, vOw11 1003)] [1002, 1003] [[.c (.bool false)], [.c (.int .i64 0)]] noRows (NmI (A ++ B)) (NmX (A ++ B)) rfl Q1 (by decide) rgsM_cl ?hp rfl ⟨rfl, rfl, trivial⟩ ⟨rfl, rfl, trivial⟩ (by decide) rfl rfl ⟨0, rfl, rfl, rfl, by decide⟩ (RLe.refl _) (fun i r h => by cases h) ?round ?done ?stop
  case hp =>
    intro p hp
    simp only [List.mem_cons, List.not_mem_nil, or_false] at hp
    subst hp; exact ⟨by decide, rfl⟩
  case round =>
    rintro i x R css hx ⟨c, rfl, rfl, hc, hc2⟩ hok
    obtain ⟨r, h1, rfl⟩ := rgsM_at hx
    clear hx hok
    have hs := sumL_take h1
    have hl := sumL_le (L := A ++ B) (k := i + 1)
    have hrl := hr r (List.mem_of_getElem? h1)
    by_cases hq : c + r.length > 256
    · (repeat (first | ((with_reducible apply rwp_seq)) | ((with_reducible apply rthen_normal)) | ((with_reducible apply rwp_region)) | ((with_reducible apply hs_nil)) | ((with_reducible apply rwp_ret)) | ((with_reducible apply rwp_block)) | ((with_reducible apply rblock_ret)) | ((with_reducible apply rwp_cond_1); exact rfl; (first | assumption | exact decide_eq_true (by omega) | (simp only [Bool.not_eq_true', decide_eq_false_iff_not, decide_eq_true_eq, Bool.not_eq_false']; (first | done | omega)) | exact rfl)) | ((with_reducible apply hs_c); exact rfl; (repeat (first | ((with_reducible apply al_q); exact rfl) | ((with_reducible apply al_add); (iterate 3 exact rfl); (first | exact i64_wrap (by omega) | assumption | rfl); exact rfl) | ((with_reducible apply al_len); (iterate 3 exact rfl)))); (with_reducible apply al_nil))))
      exact ⟨_, _, ⟨_, rfl, rfl, rfl, by omega⟩, RLe.refl _, (fun i r h => by cases h), rfl, ⟨rfl, rfl, trivial⟩, rfl⟩
    · (repeat (first | ((with_reducible apply rwp_seq)) | ((with_reducible apply rthen_normal)) | ((with_reducible apply rwp_region)) | ((with_reducible apply hs_nil)) | ((with_reducible apply rwp_skip)) | ((with_reducible apply rwp_block)) | ((with_reducible apply rblock_normal)) | ((with_reducible apply rwp_cond_0); exact rfl; (first | assumption | exact decide_eq_false (by omega) | (simp only [Bool.not_eq_true', decide_eq_false_iff_not, decide_eq_true_eq, Bool.not_eq_false']; (first | done | omega)) | exact rfl)) | ((with_reducible apply hs_c); exact rfl; (repeat (first | ((with_reducible apply al_q); exact rfl) | ((with_reducible apply al_add); (iterate 3 exact rfl); (first | exact i64_wrap (by omega) | assumption | rfl); exact rfl) | ((with_reducible apply al_len); (iterate 3 exact rfl)))); (with_reducible apply al_nil))))
      exact ⟨_, _, ⟨_, rfl, rfl, by omega, by omega⟩, RLe.refl _, (fun i r h => by cases h), rfl, ⟨rfl, rfl, trivial⟩, rfl⟩
  case done =>
    rintro R css ⟨c, rfl, rfl, hc, hc2⟩ hok
    clear hok
    have e0 : (A ++ B).take (rgsM A B).length = A ++ B := List.take_of_length_le (by simp [rgsM])
    rw [e0, sumL_app] at hc
    have e : nmB A B = decide (c = 0) := by unfold nmB; rw [decide_eq_decide]; omega
    rw [e]
    (repeat (first | ((with_reducible apply rwt_seq)) | ((with_reducible apply rwt_region)) | ((with_reducible apply rwt_ret)) | ((with_reducible apply rthen_normal)) | ((with_reducible apply hs_nil)) | ((with_reducible apply rblock_normal)) | ((with_reducible apply hs_c); exact rfl; (repeat (first | ((with_reducible apply al_q); exact rfl))); (with_reducible apply al_nil))))
    (first | (refine apost_ret rfl (resl_agg rfl rfl rfl resl_nil) ?_) | (refine apost_ret rfl (resl_one rfl rfl rfl resl_nil) ?_))
    exact AV.Le.refl _
  case stop =>
    rintro e c R css he ⟨c', rfl, rfl, rfl, h2⟩ hok
    clear hok he
    rw [sumL_app] at h2
    have e : nmB A B = true := decide_eq_true (by omega)
    rw [e]
    (repeat (first | ((with_reducible apply rthen_ret)) | ((with_reducible apply rblock_ret))))
    (first | (refine apost_ret rfl (resl_agg rfl rfl rfl resl_nil) ?_) | (refine apost_ret rfl (resl_one rfl rfl rfl resl_nil) ?_))
    exact AV.Le.refl _
set_option maxRecDepth 100000 in
set_option maxHeartbeats 8000000 in
theorem p_isFar {x y : Int} : PCall Try.prog 47 [vP x y] (vB (farB (x, y))) := by
  have cs : ((if y > x then y else x) > 67108864 ∧ farB (x, y) = true) ∨ (¬ (if y > x then y else x) > 67108864 ∧ farB (x, y) = decide ((if y < x then y else x) < -67108864)) := by
    unfold farB
    by_cases h : (if y > x then y else x) > 67108864
    · refine .inl ⟨h, ?_⟩
      simp only [Bool.or_eq_true, decide_eq_true_eq]
      split at h <;> omega
    · refine .inr ⟨h, ?_⟩
      rw [Bool.eq_iff_iff]
      simp only [Bool.or_eq_true, decide_eq_true_eq]
      split at h <;> split <;> omega
  rcases cs with ⟨h, e⟩ | ⟨h, e⟩
  all_goals
    rw [e]
    refine pcall_body (f := 47) Try.func47 rfl rfl rfl rfl ?_
    (repeat (first | ((with_reducible apply al_q); exact rfl) | ((with_reducible apply al_min); (iterate 4 exact rfl)) | ((with_reducible apply al_max); (iterate 4 exact rfl)) | ((with_reducible apply al_guard_b (c := true)); exact rfl; exact rfl; (first | assumption | exact decide_eq_true (by omega) | (simp only [Bool.not_eq_true', decide_eq_false_iff_not, decide_eq_true_eq, Bool.not_eq_false']; (first | done | omega)))) | ((with_reducible apply al_guard_b (c := false)); exact rfl; exact rfl; (first | assumption | exact decide_eq_false (by omega) | (simp only [Bool.not_eq_true', decide_eq_false_iff_not, decide_eq_true_eq, Bool.not_eq_false']; (first | done | omega)))) | ((with_reducible apply awp_seq)) | ((with_reducible apply athen_normal)) | ((with_reducible apply awp_region)) | ((with_reducible apply al_nil)) | ((with_reducible apply awp_ret))))
    (first | (refine apost_ret rfl (resl_tmp rfl resl_nil) ?_))
    exact AV.Le.refl _
/-- the first that is far. -/
def fxI : List Pt → Int → Int
  | [], _ => -1
  | p :: l, i => if farB p = true then i else fxI l (i + 1)
theorem fxI_cons (p : Pt) (l : List Pt) (i : Int) : fxI (p :: l) i = if farB p = true then i else fxI l (i + 1) := rfl
theorem fxI_any : ∀ (l : List Pt) (i : Int), 0 ≤ i → (decide (fxI l i ≥ 0)) = l.any farB
  | [], i, h => rfl
  | p :: l, i, h => by
    rw [List.any_cons]
    unfold fxI
    cases hp : farB p with
    | true => rw [if_pos rfl, Bool.true_or]; exact decide_eq_true h
    | false => rw [if_neg (by simp), Bool.false_or]; exact fxI_any l (i + 1) (by omega)
abbrev vFn (f : Nat) : AV := vC (.func (.func f) #[] #[])
def FxI (r : List Pt) (k : Nat) (ts : List (Nat × AV)) (ms : List (Nat × List AC)) : Prop :=
  ∃ (i : Nat) (ii : Int), i ≤ r.length ∧ k = r.length - i ∧ ii = i ∧ fxI r 0 = fxI (r.drop i) ii ∧ ms = [] ∧ ts = [(0, .w (.one (ringA r))), (1, vFn 47), (7, vI r.length), (8, vI ii)]
set_option maxRecDepth 100000 in
set_option maxHeartbeats 8000000 in
theorem p_index11 {r : List Pt} (hr : r.length ≤ 4611686018427387904) : PCall Try.prog 61 [.w (.one (ringA r)), vFn 47] (vI (fxI r 0)) := by
  refine pcall_body (f := 61) Try.func61 rfl rfl rfl rfl ?_
  (repeat (first | ((with_reducible apply al_q); exact rfl) | ((with_reducible apply al_len); (iterate 3 exact rfl)) | ((with_reducible apply awp_seq)) | ((with_reducible apply athen_normal)) | ((with_reducible apply awp_region)) | ((with_reducible apply al_nil)) | ((with_reducible apply awp_block))))
  refine awp_loopL 19 (FxI r) r.length _ [] ⟨0, 0, Nat.zero_le _, rfl, rfl, rfl, rfl, rfl⟩ rfl ⟨rfl, rfl, rfl, rfl, trivial⟩ trivial rfl ?_
  rintro n ts ms ⟨j, jj, hj, rfl, hjj, hfx, rfl, rfl⟩ hok
  clear hok
  by_cases hp : j < r.length
  · have p2 : jj < (r.length : Int) := by omega
    have p3 : 0 ≤ jj := by omega
    obtain ⟨x, y, g1⟩ : ∃ x y, r[j]? = some (x, y) := ⟨_, _, List.getElem?_eq_getElem hp⟩
    have F1 := ringC_at hjj g1
    have hd : r.drop j = (x, y) :: r.drop (j + 1) := by rw [List.drop_eq_getElem_cons hp, (List.getElem?_eq_some_iff.1 g1).2]
    have P1 := p_isFar (x := x) (y := y)
    rw [hd, fxI_cons] at hfx
    cases hf : farB (x, y) with
    | true =>
      rw [hf] at hfx P1
      rw [if_pos rfl] at hfx
      rw [hfx]
      (repeat (first | ((with_reducible apply al_q); exact rfl) | ((with_reducible apply al_loadPN); (iterate 5 exact rfl)) | ((with_reducible apply al_idxS); (iterate 3 exact rfl); (first | decide | omega); (first | decide | omega); (first | assumption | rfl); exact rfl) | (refine al_call1 rfl rfl rfl (by (first | exact P1)) rfl ?_) | ((with_reducible apply awp_seq)) | ((with_reducible apply athen_normal)) | ((with_reducible apply awp_region)) | ((with_reducible apply al_nil)) | ((with_reducible apply awp_ret)) | ((with_reducible apply awp_skip)) | ((with_reducible apply athen_ret)) | ((with_reducible apply awp_block)) | ((with_reducible apply ablock_ret)) | ((with_reducible apply awp_cond_t); exact rfl) | ((with_reducible apply awp_cond_1); exact rfl; (first | assumption | exact decide_eq_true (by omega) | (simp only [Bool.not_eq_true', decide_eq_false_iff_not, decide_eq_true_eq, Bool.not_eq_false']; (first | done | omega))))))
      (first | (refine apost_ret rfl (resl_tmp rfl resl_nil) ?_))
      exact AV.Le.refl _
    | false =>
      rw [hf] at hfx P1
      rw [if_neg (by simp)] at hfx
      (repeat (first | ((with_reducible apply al_q); exact rfl) | ((with_reducible apply al_loadPN); (iterate 5 exact rfl)) | ((with_reducible apply al_idxS); (iterate 3 exact rfl); (first | decide | omega); (first | decide | omega); (first | assumption | rfl); exact rfl) | ((with_reducible apply al_add); (iterate 3 exact rfl); (first | exact i64_wrap (by omega) | assumption | rfl); exact rfl) | (refine al_call1 rfl rfl rfl (by (first | exact P1)) rfl ?_) | ((with_reducible apply awp_seq)) | ((with_reducible apply athen_normal)) | ((with_reducible apply awp_region)) | ((with_reducible apply al_nil)) | ((with_reducible apply awp_skip)) | ((with_reducible apply awp_block)) | ((with_reducible apply ablock_normal)) | ((with_reducible apply awp_cond_f); exact rfl) | ((with_reducible apply awp_cond_1); exact rfl; (first | assumption | exact decide_eq_true (by omega) | (simp only [Bool.not_eq_true', decide_eq_false_iff_not, decide_eq_true_eq, Bool.not_eq_false']; (first | done | omega))))))
      exact ⟨r.length - (j + 1), _, [], by omega, ⟨j + 1, jj + 1, hp, rfl, by omega, hfx, rfl, rfl⟩, rfl, ⟨rfl, rfl, rfl, rfl, trivial⟩, trivial, rfl⟩
  · have e : j = r.length := by omega
    subst e
    rw [List.drop_length] at hfx
    rw [show fxI [] jj = -1 from rfl] at hfx
    rw [hfx]
    (repeat (first | ((with_reducible apply al_q); exact rfl) | ((with_reducible apply awp_seq)) | ((with_reducible apply athen_normal)) | ((with_reducible apply awp_region)) | ((with_reducible apply al_nil)) | ((with_reducible apply awp_ret)) | ((with_reducible apply ablock_same)) | ((with_reducible apply awp_exit)) | ((with_reducible apply athen_exit)) | ((with_reducible apply awp_cond_0); exact rfl; (first | assumption | exact decide_eq_false (by omega) | (simp only [Bool.not_eq_true', decide_eq_false_iff_not, decide_eq_true_eq, Bool.not_eq_false']; (first | done | omega))))))
    (first | (refine apost_ret rfl (resl_tmp rfl resl_nil) ?_))
    exact AV.Le.refl _
theorem p_contains11 {r : List Pt} (hr : r.length ≤ 4611686018427387904) : PCall Try.prog 46 [.w (.one (ringA r)), vFn 47] (vB (r.any farB)) := by
  have P1 := p_index11 hr
  rw [← fxI_any r 0 (by decide)]
  refine pcall_body (f := 46) Try.func46 rfl rfl rfl rfl ?_
  (repeat (first | ((with_reducible apply al_q); exact rfl) | (refine al_call2 rfl rfl rfl rfl (by (first | exact P1)) rfl ?_) | ((with_reducible apply awp_seq)) | ((with_reducible apply athen_normal)) | ((with_reducible apply awp_region)) | ((with_reducible apply al_nil)) | ((with_reducible apply awp_ret))))
  (first | (refine apost_ret rfl (resl_tmp rfl resl_nil) ?_))
  exact AV.Le.refl _
def CrI (M : List (List Pt)) (i : Nat) (R : Rws) (css : List (List AC)) : Prop := R = noRows ∧ css = [[.c (.int .i64 0)]] ∧ rgV M = rgV (M.drop i)
def CrX (M : List (List Pt)) (e : Exit) (R : Rws) (css : List (List AC)) : Prop := e = .ret ∧ R = noRows ∧ css = [[.c (.int .i64 (rgV M))]]
set_option maxRecDepth 100000 in
set_option maxHeartbeats 8000000 in
theorem p_checkRings {A B : List (List Pt)} {op fill rung cap : Int} (hA : A.length ≤ 4611686018427387904) (hB : B.length ≤ 4611686018427387904) (hr : ∀ r ∈ A ++ B, r.length ≤ 4611686018427387904) :
    PCall Try.prog 28 [.w (.agg (jobC A B op fill rung cap))] (vI (rgV (A ++ B))) := by
  have S1 := p_jrings11 A B op fill rung cap
  have Q1 := iseq_rings (A := A) (B := B) (op := op) (fill := fill) (rung := rung) (cap := cap) hA hB
  refine pcall_bodyR (f := 28) Try.func28 rfl rfl rfl rfl ?_
  (repeat (first | ((with_reducible apply rwt_seq)) | ((with_reducible apply rwt_region)) | ((with_reducible apply rwt_block)) | ((with_reducible apply rthen_normal)) | ((with_reducible apply hs_nil)) | ((with_reducible apply hs_c); exact rfl; (repeat (first | ((with_reducible apply al_q); exact rfl) | (refine al_call1 rfl rfl rfl (by (first | exact S1)) rfl ?_))); (with_reducible apply al_nil))))
  refine rwt_ren (swp 2 1002) (swp_swp _ _) ?_
  refine rwt_range 12 [(2, vOw11 1002)] [1002] [[.c (.int .i64 0)]] noRows (CrI (A ++ B)) (CrX (A ++ B)) rfl Q1 (by decide) rgsM_cl ?hp rfl ⟨rfl, trivial⟩ ⟨rfl, trivial⟩ (by decide) rfl rfl ⟨rfl, rfl, rfl⟩ (RLe.refl _) (fun i r h => by cases h) ?round ?done ?stop
  case hp =>
    intro p hp
    simp only [List.mem_cons, List.not_mem_nil, or_false] at hp
    subst hp; exact ⟨by decide, rfl⟩
  case round =>
    rintro i x R css hx ⟨rfl, rfl, hv⟩ hok
    obtain ⟨r, h1, rfl⟩ := rgsM_at hx
    clear hx hok
    have hrl := hr r (List.mem_of_getElem? h1)
    have hd : (A ++ B).drop i = r :: (A ++ B).drop (i + 1) := by rw [List.drop_eq_getElem_cons (List.getElem?_eq_some_iff.1 h1).1, (List.getElem?_eq_some_iff.1 h1).2]
    rw [hd, rgV_cons] at hv
    have P1 := p_contains11 hrl
    by_cases hq : r.length < 3
    · rw [if_pos hq] at hv
      have hq' : (r.length : Int) < 3 := by omega
      (repeat (first | ((with_reducible apply rwp_seq)) | ((with_reducible apply rthen_normal)) | ((with_reducible apply rwp_region)) | ((with_reducible apply hs_nil)) | ((with_reducible apply rwp_ret)) | ((with_reducible apply rthen_ret)) | ((with_reducible apply rwp_block)) | ((with_reducible apply rblock_ret)) | ((with_reducible apply rwp_cond_1); exact rfl; (first | assumption | exact decide_eq_true (by omega) | (simp only [Bool.not_eq_true', decide_eq_false_iff_not, decide_eq_true_eq, Bool.not_eq_false']; (first | done | omega)) | exact rfl)) | ((with_reducible apply hs_c); exact rfl; (repeat (first | ((with_reducible apply al_q); exact rfl) | ((with_reducible apply al_len); (iterate 3 exact rfl)))); (with_reducible apply al_nil))))
      exact ⟨_, [[.c (.int .i64 114)]], ⟨rfl, rfl, by rw [hv]⟩, RLe.refl _, (fun i r h => by cases h), rfl, ⟨rfl, trivial⟩, rfl⟩
    · rw [if_neg hq] at hv
      have hq' : ¬ (r.length : Int) < 3 := by omega
      cases hf : r.any farB with
      | true =>
        rw [hf] at hv P1
        rw [if_pos rfl] at hv
        (repeat (first | ((with_reducible apply rwp_seq)) | ((with_reducible apply rthen_normal)) | ((with_reducible apply rwp_region)) | ((with_reducible apply hs_nil)) | ((with_reducible apply rwp_ret)) | ((with_reducible apply rwp_skip)) | ((with_reducible apply rwp_block)) | ((with_reducible apply rblock_ret)) | ((with_reducible apply rwp_cond_1); exact rfl; (first | assumption | exact decide_eq_true (by omega) | (simp only [Bool.not_eq_true', decide_eq_false_iff_not, decide_eq_true_eq, Bool.not_eq_false']; (first | done | omega)) | exact rfl)) | ((with_reducible apply rwp_cond_0); exact rfl; (first | assumption | exact decide_eq_false (by omega) | (simp only [Bool.not_eq_true', decide_eq_false_iff_not, decide_eq_true_eq, Bool.not_eq_false']; (first | done | omega)) | exact rfl)) | ((with_reducible apply hs_c); exact rfl; (repeat (first | ((with_reducible apply al_q); exact rfl) | ((with_reducible apply al_len); (iterate 3 exact rfl)) | (refine al_call2 rfl rfl rfl rfl (by (first | exact P1)) rfl ?_))); (with_reducible apply al_nil))))
        exact ⟨_, [[.c (.int .i64 115)]], ⟨rfl, rfl, by rw [hv]⟩, RLe.refl _, (fun i r h => by cases h), rfl, ⟨rfl, trivial⟩, rfl⟩
      | false =>
        rw [hf] at hv P1
        rw [if_neg (by simp)] at hv
        (repeat (first | ((with_reducible apply rwp_seq)) | ((with_reducible apply rthen_normal)) | ((with_reducible apply rwp_region)) | ((with_reducible apply hs_nil)) | ((with_reducible apply rwp_skip)) | ((with_reducible apply rwp_block)) | ((with_reducible apply rblock_normal)) | ((with_reducible apply rwp_cond_0); exact rfl; (first | assumption | exact decide_eq_false (by omega) | (simp only [Bool.not_eq_true', decide_eq_false_iff_not, decide_eq_true_eq, Bool.not_eq_false']; (first | done | omega)) | exact rfl)) | ((with_reducible apply hs_c); exact rfl; (repeat (first | ((with_reducible apply al_q); exact rfl) | ((with_reducible apply al_len); (iterate 3 exact rfl)) | (refine al_call2 rfl rfl rfl rfl (by (first | exact P1)) rfl ?_))); (with_reducible apply al_nil))))
        exact ⟨_, _, ⟨rfl, rfl, hv⟩, RLe.refl _, (fun i r h => by cases h), rfl, ⟨rfl, trivial⟩, rfl⟩
  case done =>
    rintro R css ⟨rfl, rfl, hv⟩ hok
    clear hok
    rw [List.drop_of_length_le (by simp [rgsM]), show rgV [] = 0 from rfl] at hv
    rw [hv]
    (repeat (first | ((with_reducible apply rwt_seq)) | ((with_reducible apply rwt_region)) | ((with_reducible apply rwt_ret)) | ((with_reducible apply rthen_normal)) | ((with_reducible apply hs_nil)) | ((with_reducible apply rblock_normal)) | ((with_reducible apply hs_c); exact rfl; (repeat (first | ((with_reducible apply al_q); exact rfl))); (with_reducible apply al_nil))))
    (first | (refine apost_ret rfl (resl_agg rfl rfl rfl resl_nil) ?_) | (refine apost_ret rfl (resl_one rfl rfl rfl resl_nil) ?_))
    exact AV.Le.refl _
  case stop =>
    rintro e c R css he ⟨rfl, rfl, rfl⟩ hok
    clear hok he
    (repeat (first | ((with_reducible apply rthen_ret)) | ((with_reducible apply rblock_ret))))
    (first | (refine apost_ret rfl (resl_agg rfl rfl rfl resl_nil) ?_) | (refine apost_ret rfl (resl_one rfl rfl rfl resl_nil) ?_))
    exact AV.Le.refl _
set_option maxRecDepth 100000 in
set_option maxHeartbeats 8000000 in
theorem p_Check11 {A B : List (List Pt)} {op fill rung cap : Int} (hA : A.length ≤ 4611686018427387904) (hB : B.length ≤ 4611686018427387904) (hr : ∀ r ∈ A ++ B, r.length ≤ 4611686018427387904) :
    PCall Try.prog 11 [.w (.agg (jobC A B op fill rung cap))] (vI (chkV A B op fill rung cap)) := by
  have P1 := p_isNone (op := op) (fill := fill) (rung := rung) (cap := cap) hA hB hr
  have P2 := p_checkRings (op := op) (fill := fill) (rung := rung) (cap := cap) hA hB hr
  have cs : ∃ c, chkV A B op fill rung cap = c ∧ ((op < 0 ∧ c = 110) ∨ (¬ op < 0 ∧ op > 3 ∧ c = 110) ∨ (¬ op < 0 ∧ ¬ op > 3 ∧ ((fill < 0 ∧ c = 111) ∨ (¬ fill < 0 ∧ fill > 1 ∧ c = 111) ∨ (¬ fill < 0 ∧ ¬ fill > 1 ∧ ((rung < 0 ∧ c = 112) ∨ (¬ rung < 0 ∧ rung > 28 ∧ c = 112) ∨ (¬ rung < 0 ∧ ¬ rung > 28 ∧ ((cap < 1 ∧ c = 113) ∨ (¬ cap < 1 ∧ cap > 1024 ∧ c = 113) ∨ (¬ cap < 1 ∧ ¬ cap > 1024 ∧ ((nmB A B = true ∧ c = 116) ∨ (nmB A B = false ∧ c = rgV (A ++ B))))))))))) := by
    refine ⟨_, rfl, ?_⟩
    unfold chkV nmB
    rw [rgV_app]
    by_cases o1 : op < 0
    · exact .inl ⟨o1, by rw [if_pos (.inl o1)]⟩
    by_cases o2 : op > 3
    · exact .inr (.inl ⟨o1, o2, by rw [if_pos (.inr o2)]⟩)
    refine .inr (.inr ⟨o1, o2, ?_⟩)
    rw [if_neg (by omega)]
    by_cases f1 : fill < 0
    · exact .inl ⟨f1, by rw [if_pos (.inl f1)]⟩
    by_cases f2 : fill > 1
    · exact .inr (.inl ⟨f1, f2, by rw [if_pos (.inr f2)]⟩)
    refine .inr (.inr ⟨f1, f2, ?_⟩)
    rw [if_neg (by omega)]
    by_cases r1 : rung < 0
    · exact .inl ⟨r1, by rw [if_pos (.inl r1)]⟩
    by_cases r2 : rung > 28
    · exact .inr (.inl ⟨r1, r2, by rw [if_pos (.inr r2)]⟩)
    refine .inr (.inr ⟨r1, r2, ?_⟩)
    rw [if_neg (by omega)]
    by_cases c1 : cap < 1
    · exact .inl ⟨c1, by rw [if_pos (.inl c1)]⟩
    by_cases c2 : cap > 1024
    · exact .inr (.inl ⟨c1, c2, by rw [if_pos (.inr c2)]⟩)
    refine .inr (.inr ⟨c1, c2, ?_⟩)
    rw [if_neg (by omega)]
    by_cases m1 : sumL A + sumL B < 1 ∨ sumL A + sumL B > 256
    · exact .inl ⟨decide_eq_true m1, by rw [if_pos m1]⟩
    · exact .inr ⟨decide_eq_false m1, by rw [if_neg m1]⟩
  obtain ⟨c, e, cs⟩ := cs
  rw [e]
  clear e hA hB hr
  rcases cs with ⟨o1, rfl⟩ | ⟨o1, o2, rfl⟩ | ⟨o1, o2, cs⟩
  · refine pcall_body (f := 11) Try.func11 rfl rfl rfl rfl ?_
    (repeat (first | ((with_reducible apply al_q); exact rfl) | ((with_reducible apply al_guard_b (c := true)); exact rfl; exact rfl; (first | assumption | exact decide_eq_true (by omega) | (simp only [Bool.not_eq_true', decide_eq_false_iff_not, decide_eq_true_eq, Bool.not_eq_false']; (first | done | omega)))) | ((with_reducible apply awp_seq)) | ((with_reducible apply athen_normal)) | ((with_reducible apply awp_region)) | ((with_reducible apply al_nil)) | ((with_reducible apply awp_ret)) | ((with_reducible apply athen_ret)) | ((with_reducible apply awp_block)) | ((with_reducible apply ablock_ret)) | ((with_reducible apply awp_cond_t); exact rfl)))
    (first | (refine apost_ret rfl (resl_tmp rfl resl_nil) ?_))
    exact AV.Le.refl _
  · refine pcall_body (f := 11) Try.func11 rfl rfl rfl rfl ?_
    (repeat (first | ((with_reducible apply al_q); exact rfl) | ((with_reducible apply al_guard_b (c := false)); exact rfl; exact rfl; (first | assumption | exact decide_eq_false (by omega) | (simp only [Bool.not_eq_true', decide_eq_false_iff_not, decide_eq_true_eq, Bool.not_eq_false']; (first | done | omega)))) | ((with_reducible apply awp_seq)) | ((with_reducible apply athen_normal)) | ((with_reducible apply awp_region)) | ((with_reducible apply al_nil)) | ((with_reducible apply awp_ret)) | ((with_reducible apply athen_ret)) | ((with_reducible apply awp_block)) | ((with_reducible apply ablock_ret)) | ((with_reducible apply awp_cond_1); exact rfl; (first | assumption | exact decide_eq_true (by omega) | (simp only [Bool.not_eq_true', decide_eq_false_iff_not, decide_eq_true_eq, Bool.not_eq_false']; (first | done | omega))))))
    (first | (refine apost_ret rfl (resl_tmp rfl resl_nil) ?_))
    exact AV.Le.refl _
  rcases cs with ⟨f1, rfl⟩ | ⟨f1, f2, rfl⟩ | ⟨f1, f2, cs⟩
  · refine pcall_body (f := 11) Try.func11 rfl rfl rfl rfl ?_
    (repeat (first | ((with_reducible apply al_q); exact rfl) | ((with_reducible apply al_guard_b (c := true)); exact rfl; exact rfl; (first | assumption | exact decide_eq_true (by omega) | (simp only [Bool.not_eq_true', decide_eq_false_iff_not, decide_eq_true_eq, Bool.not_eq_false']; (first | done | omega)))) | ((with_reducible apply al_guard_b (c := false)); exact rfl; exact rfl; (first | assumption | exact decide_eq_false (by omega) | (simp only [Bool.not_eq_true', decide_eq_false_iff_not, decide_eq_true_eq, Bool.not_eq_false']; (first | done | omega)))) | ((with_reducible apply awp_seq)) | ((with_reducible apply athen_normal)) | ((with_reducible apply awp_region)) | ((with_reducible apply al_nil)) | ((with_reducible apply awp_ret)) | ((with_reducible apply athen_ret)) | ((with_reducible apply awp_block)) | ((with_reducible apply ablock_ret)) | ((with_reducible apply awp_cond_t); exact rfl) | ((with_reducible apply awp_cond_0); exact rfl; (first | assumption | exact decide_eq_false (by omega) | (simp only [Bool.not_eq_true', decide_eq_false_iff_not, decide_eq_true_eq, Bool.not_eq_false']; (first | done | omega))))))
    (first | (refine apost_ret rfl (resl_tmp rfl resl_nil) ?_))
    exact AV.Le.refl _
  · refine pcall_body (f := 11) Try.func11 rfl rfl rfl rfl ?_
    (repeat (first | ((with_reducible apply al_q); exact rfl) | ((with_reducible apply al_guard_b (c := false)); exact rfl; exact rfl; (first | assumption | exact decide_eq_false (by omega) | (simp only [Bool.not_eq_true', decide_eq_false_iff_not, decide_eq_true_eq, Bool.not_eq_false']; (first | done | omega)))) | ((with_reducible apply awp_seq)) | ((with_reducible apply athen_normal)) | ((with_reducible apply awp_region)) | ((with_reducible apply al_nil)) | ((with_reducible apply awp_ret)) | ((with_reducible apply athen_ret)) | ((with_reducible apply awp_block)) | ((with_reducible apply ablock_ret)) | ((with_reducible apply awp_cond_1); exact rfl; (first | assumption | exact decide_eq_true (by omega) | (simp only [Bool.not_eq_true', decide_eq_false_iff_not, decide_eq_true_eq, Bool.not_eq_false']; (first | done | omega)))) | ((with_reducible apply awp_cond_0); exact rfl; (first | assumption | exact decide_eq_false (by omega) | (simp only [Bool.not_eq_true', decide_eq_false_iff_not, decide_eq_true_eq, Bool.not_eq_false']; (first | done | omega))))))
    (first | (refine apost_ret rfl (resl_tmp rfl resl_nil) ?_))
    exact AV.Le.refl _
  rcases cs with ⟨r1, rfl⟩ | ⟨r1, r2, rfl⟩ | ⟨r1, r2, cs⟩
  · refine pcall_body (f := 11) Try.func11 rfl rfl rfl rfl ?_
    (repeat (first | ((with_reducible apply al_q); exact rfl) | ((with_reducible apply al_guard_b (c := true)); exact rfl; exact rfl; (first | assumption | exact decide_eq_true (by omega) | (simp only [Bool.not_eq_true', decide_eq_false_iff_not, decide_eq_true_eq, Bool.not_eq_false']; (first | done | omega)))) | ((with_reducible apply al_guard_b (c := false)); exact rfl; exact rfl; (first | assumption | exact decide_eq_false (by omega) | (simp only [Bool.not_eq_true', decide_eq_false_iff_not, decide_eq_true_eq, Bool.not_eq_false']; (first | done | omega)))) | ((with_reducible apply awp_seq)) | ((with_reducible apply athen_normal)) | ((with_reducible apply awp_region)) | ((with_reducible apply al_nil)) | ((with_reducible apply awp_ret)) | ((with_reducible apply athen_ret)) | ((with_reducible apply awp_block)) | ((with_reducible apply ablock_ret)) | ((with_reducible apply awp_cond_t); exact rfl) | ((with_reducible apply awp_cond_0); exact rfl; (first | assumption | exact decide_eq_false (by omega) | (simp only [Bool.not_eq_true', decide_eq_false_iff_not, decide_eq_true_eq, Bool.not_eq_false']; (first | done | omega))))))
    (first | (refine apost_ret rfl (resl_tmp rfl resl_nil) ?_))
    exact AV.Le.refl _
  · refine pcall_body (f := 11) Try.func11 rfl rfl rfl rfl ?_
    (repeat (first | ((with_reducible apply al_q); exact rfl) | ((with_reducible apply al_guard_b (c := false)); exact rfl; exact rfl; (first | assumption | exact decide_eq_false (by omega) | (simp only [Bool.not_eq_true', decide_eq_false_iff_not, decide_eq_true_eq, Bool.not_eq_false']; (first | done | omega)))) | ((with_reducible apply awp_seq)) | ((with_reducible apply athen_normal)) | ((with_reducible apply awp_region)) | ((with_reducible apply al_nil)) | ((with_reducible apply awp_ret)) | ((with_reducible apply athen_ret)) | ((with_reducible apply awp_block)) | ((with_reducible apply ablock_ret)) | ((with_reducible apply awp_cond_1); exact rfl; (first | assumption | exact decide_eq_true (by omega) | (simp only [Bool.not_eq_true', decide_eq_false_iff_not, decide_eq_true_eq, Bool.not_eq_false']; (first | done | omega)))) | ((with_reducible apply awp_cond_0); exact rfl; (first | assumption | exact decide_eq_false (by omega) | (simp only [Bool.not_eq_true', decide_eq_false_iff_not, decide_eq_true_eq, Bool.not_eq_false']; (first | done | omega))))))
    (first | (refine apost_ret rfl (resl_tmp rfl resl_nil) ?_))
    exact AV.Le.refl _
  rcases cs with ⟨c1, rfl⟩ | ⟨c1, c2, rfl⟩ | ⟨c1, c2, cs⟩
  · refine pcall_body (f := 11) Try.func11 rfl rfl rfl rfl ?_
    (repeat (first | ((with_reducible apply al_q); exact rfl) | ((with_reducible apply al_guard_b (c := true)); exact rfl; exact rfl; (first | assumption | exact decide_eq_true (by omega) | (simp only [Bool.not_eq_true', decide_eq_false_iff_not, decide_eq_true_eq, Bool.not_eq_false']; (first | done | omega)))) | ((with_reducible apply al_guard_b (c := false)); exact rfl; exact rfl; (first | assumption | exact decide_eq_false (by omega) | (simp only [Bool.not_eq_true', decide_eq_false_iff_not, decide_eq_true_eq, Bool.not_eq_false']; (first | done | omega)))) | ((with_reducible apply awp_seq)) | ((with_reducible apply athen_normal)) | ((with_reducible apply awp_region)) | ((with_reducible apply al_nil)) | ((with_reducible apply awp_ret)) | ((with_reducible apply athen_ret)) | ((with_reducible apply awp_block)) | ((with_reducible apply ablock_ret)) | ((with_reducible apply awp_cond_t); exact rfl) | ((with_reducible apply awp_cond_0); exact rfl; (first | assumption | exact decide_eq_false (by omega) | (simp only [Bool.not_eq_true', decide_eq_false_iff_not, decide_eq_true_eq, Bool.not_eq_false']; (first | done | omega))))))
    (first | (refine apost_ret rfl (resl_tmp rfl resl_nil) ?_))
    exact AV.Le.refl _
  · refine pcall_body (f := 11) Try.func11 rfl rfl rfl rfl ?_
    (repeat (first | ((with_reducible apply al_q); exact rfl) | ((with_reducible apply al_guard_b (c := false)); exact rfl; exact rfl; (first | assumption | exact decide_eq_false (by omega) | (simp only [Bool.not_eq_true', decide_eq_false_iff_not, decide_eq_true_eq, Bool.not_eq_false']; (first | done | omega)))) | ((with_reducible apply awp_seq)) | ((with_reducible apply athen_normal)) | ((with_reducible apply awp_region)) | ((with_reducible apply al_nil)) | ((with_reducible apply awp_ret)) | ((with_reducible apply athen_ret)) | ((with_reducible apply awp_block)) | ((with_reducible apply ablock_ret)) | ((with_reducible apply awp_cond_1); exact rfl; (first | assumption | exact decide_eq_true (by omega) | (simp only [Bool.not_eq_true', decide_eq_false_iff_not, decide_eq_true_eq, Bool.not_eq_false']; (first | done | omega)))) | ((with_reducible apply awp_cond_0); exact rfl; (first | assumption | exact decide_eq_false (by omega) | (simp only [Bool.not_eq_true', decide_eq_false_iff_not, decide_eq_true_eq, Bool.not_eq_false']; (first | done | omega))))))
    (first | (refine apost_ret rfl (resl_tmp rfl resl_nil) ?_))
    exact AV.Le.refl _
  rcases cs with ⟨m1, rfl⟩ | ⟨m1, rfl⟩
  · rw [m1] at P1
    refine pcall_body (f := 11) Try.func11 rfl rfl rfl rfl ?_
    (repeat (first | ((with_reducible apply al_q); exact rfl) | (refine al_call1 rfl rfl rfl (by (first | exact P1)) rfl ?_) | ((with_reducible apply al_guard_b (c := false)); exact rfl; exact rfl; (first | assumption | exact decide_eq_false (by omega) | (simp only [Bool.not_eq_true', decide_eq_false_iff_not, decide_eq_true_eq, Bool.not_eq_false']; (first | done | omega)))) | ((with_reducible apply awp_seq)) | ((with_reducible apply athen_normal)) | ((with_reducible apply awp_region)) | ((with_reducible apply al_nil)) | ((with_reducible apply awp_ret)) | ((with_reducible apply athen_ret)) | ((with_reducible apply awp_block)) | ((with_reducible apply ablock_ret)) | ((with_reducible apply awp_cond_t); exact rfl) | ((with_reducible apply awp_cond_0); exact rfl; (first | assumption | exact decide_eq_false (by omega) | (simp only [Bool.not_eq_true', decide_eq_false_iff_not, decide_eq_true_eq, Bool.not_eq_false']; (first | done | omega))))))
    (first | (refine apost_ret rfl (resl_tmp rfl resl_nil) ?_))
    exact AV.Le.refl _
  · rw [m1] at P1
    refine pcall_body (f := 11) Try.func11 rfl rfl rfl rfl ?_
    (repeat (first | ((with_reducible apply al_q); exact rfl) | (refine al_call1 rfl rfl rfl (by (first | exact P1 | exact P2)) rfl ?_) | ((with_reducible apply al_guard_b (c := false)); exact rfl; exact rfl; (first | assumption | exact decide_eq_false (by omega) | (simp only [Bool.not_eq_true', decide_eq_false_iff_not, decide_eq_true_eq, Bool.not_eq_false']; (first | done | omega)))) | ((with_reducible apply awp_seq)) | ((with_reducible apply athen_normal)) | ((with_reducible apply awp_region)) | ((with_reducible apply al_nil)) | ((with_reducible apply awp_ret)) | ((with_reducible apply awp_skip)) | ((with_reducible apply awp_block)) | ((with_reducible apply ablock_normal)) | ((with_reducible apply awp_cond_f); exact rfl) | ((with_reducible apply awp_cond_0); exact rfl; (first | assumption | exact decide_eq_false (by omega) | (simp only [Bool.not_eq_true', decide_eq_false_iff_not, decide_eq_true_eq, Bool.not_eq_false']; (first | done | omega))))))
    (first | (refine apost_ret rfl (resl_tmp rfl resl_nil) ?_))
    exact AV.Le.refl _
end Go.Proofs.Ytlfkllmnekdghaa

namespace Go.Proofs.Ytlfkllmnekdghaa
open Go.RowKit
set_option linter.unusedVariables false
set_option linter.unusedSimpArgs false
/-- how two points compare. -/
def pc (a b c d : Int) : Int := if eqP a b c d = true then 0 else if a < c ∨ (a = c ∧ b < d) then -1 else 1
/-! the reference package -/
set_option maxRecDepth 100000 in
set_option maxHeartbeats 4000000 in
theorem p_r4Right {x y : Int} {b : Bool} (hb : rB x y = b) : PCall Try.prog 41 [vP x y] (vB b) := by
  have cs : (x ≤ 536870912 ∧ y ≤ 536870912 ∧ -536870912 ≤ x ∧ -536870912 ≤ y ∧ b = true) ∨ (x ≤ 536870912 ∧ y ≤ 536870912 ∧ -536870912 ≤ x ∧ ¬ -536870912 ≤ y ∧ b = false) ∨ (x ≤ 536870912 ∧ y ≤ 536870912 ∧ ¬ -536870912 ≤ x ∧ b = false) ∨ (x ≤ 536870912 ∧ ¬ y ≤ 536870912 ∧ b = false) ∨ (¬ x ≤ 536870912 ∧ b = false) := by
    rw [← hb]; unfold rB fB
    by_cases q1 : x ≤ 536870912 <;> by_cases q2 : y ≤ 536870912 <;> by_cases q3 : -536870912 ≤ x <;> by_cases q4 : -536870912 ≤ y <;> simp [q1, q2, q3, q4]
  clear hb
  rcases cs with ⟨q1, q2, q3, q4, rfl⟩ | ⟨q1, q2, q3, q4, rfl⟩ | ⟨q1, q2, q3, rfl⟩ | ⟨q1, q2, rfl⟩ | ⟨q1, rfl⟩
  all_goals
    refine pcall_body (f := 41) Try.func41 rfl rfl rfl rfl ?_
    (repeat (first | ((with_reducible apply al_q); exact rfl) | ((with_reducible apply al_guard_b (c := true)); exact rfl; exact rfl; (first | assumption | exact decide_eq_true (by omega) | (simp only [Bool.not_eq_true', decide_eq_false_iff_not, decide_eq_true_eq, Bool.not_eq_false']; (first | done | omega)))) | ((with_reducible apply al_guard_b (c := false)); exact rfl; exact rfl; (first | assumption | exact decide_eq_false (by omega) | (simp only [Bool.not_eq_true', decide_eq_false_iff_not, decide_eq_true_eq, Bool.not_eq_false']; (first | done | omega)))) | ((with_reducible apply awp_seq)) | ((with_reducible apply athen_normal)) | ((with_reducible apply awp_region)) | ((with_reducible apply al_nil)) | ((with_reducible apply awp_ret))))
    (first | (refine apost_ret rfl (resl_tmp rfl resl_nil) ?_))
    first | exact AV.Le.refl _ | exact AV.Le.of_eq (by rw [decide_eq_true q4]; rfl) | exact AV.Le.of_eq (by rw [decide_eq_false q4]; rfl)
end Go.Proofs.Ytlfkllmnekdghaa

namespace Go.Proofs.Ytlfkllmnekdghaa
open Go.RowKit
set_option linter.unusedVariables false
set_option linter.unusedSimpArgs false
/-- the cells of a row of points. -/
def ptsC : List (Int × Int) → List AC
  | [] => []
  | p :: l => .c (.int .i64 p.1) :: .c (.int .i64 p.2) :: ptsC l
abbrev vPs (l : List (Int × Int)) : AV := vS 2 l.length (ptsC l)
theorem ptsC_at : ∀ (l : List (Int × Int)) (i : Nat) (p : Int × Int), l[i]? = some p → ((ptsC l).drop (i * 2)).take 2 = [.c (.int .i64 p.1), .c (.int .i64 p.2)]
  | [], i, p, h => by simp at h
  | q :: l, 0, p, h => by simp at h; subst h; rfl
  | q :: l, i + 1, p, h => by
    rw [show (i + 1) * 2 = i * 2 + 1 + 1 by omega]
    simp only [ptsC, List.drop_succ_cons]
    exact ptsC_at l i p (by simpa using h)
theorem ptsC_int {l : List (Int × Int)} {j : Int} {i : Nat} {p : Int × Int} (hj : j = i) (h : l[i]? = some p) : ((ptsC l).drop (j.toNat * 2)).take 2 = [.c (.int .i64 p.1), .c (.int .i64 p.2)] := by
  subst hj
  exact ptsC_at l i p h
/-- what holds ahead of each round of Equal's loop. -/
def EqI (l m : List (Int × Int)) (k : Nat) (ts : List (Nat × AV)) (ms : List (Nat × List AC)) : Prop :=
  ∃ i : Nat, i ≤ l.length ∧ k = l.length - i ∧ (∀ j, j < i → l[j]? = m[j]?) ∧ ms = [] ∧ ts = [(0, vPs l), (1, vPs m), (12, vI l.length), (13, vI i)]
set_option maxRecDepth 100000 in
set_option maxHeartbeats 4000000 in
theorem equal_ne {l m : List (Int × Int)} (hl : ¬ l.length = m.length) : PCall Try.prog 53 [vPs l, vPs m] (vB false) := by
  have h1 : ¬ (l.length : Int) = m.length := by omega
  clear hl
  refine pcall_body (f := 53) Try.func53 rfl rfl rfl rfl ?_
  (repeat (first | ((with_reducible apply al_q); exact rfl) | ((with_reducible apply al_len); (iterate 3 exact rfl)) | ((with_reducible apply awp_seq)) | ((with_reducible apply athen_normal)) | ((with_reducible apply awp_region)) | ((with_reducible apply al_nil)) | ((with_reducible apply awp_ret)) | ((with_reducible apply athen_ret)) | ((with_reducible apply awp_cond_1); exact rfl; (first | assumption | exact decide_eq_true (by omega) | (simp only [Bool.not_eq_true', decide_eq_false_iff_not, decide_eq_true_eq, Bool.not_eq_false']; (first | done | omega))))))
  (first | (refine apost_ret rfl (resl_tmp rfl resl_nil) ?_))
  exact AV.Le.refl _
set_option maxRecDepth 100000 in
set_option maxHeartbeats 4000000 in
theorem p_Equal {l m : List (Int × Int)} (b2 : (l.length : Int) < 9223372036854775807) : PCall Try.prog 53 [vPs l, vPs m] (vB (decide (l = m))) := by
  by_cases hl : l.length = m.length
  · have hl' : (l.length : Int) = m.length := by omega
    refine pcall_body (f := 53) Try.func53 rfl rfl rfl rfl ?_
    (repeat (first | ((with_reducible apply al_q); exact rfl) | ((with_reducible apply al_len); (iterate 3 exact rfl)) | ((with_reducible apply awp_seq)) | ((with_reducible apply athen_normal)) | ((with_reducible apply awp_region)) | ((with_reducible apply al_nil)) | ((with_reducible apply awp_skip)) | ((with_reducible apply awp_block)) | ((with_reducible apply awp_cond_0); exact rfl; (first | assumption | exact decide_eq_false (by omega) | (simp only [Bool.not_eq_true', decide_eq_false_iff_not, decide_eq_true_eq, Bool.not_eq_false']; (first | done | omega))))))
    refine awp_loopL 26 (EqI l m) l.length _ [] ⟨0, Nat.zero_le _, rfl, fun j hj => absurd hj (Nat.not_lt_zero _), rfl, rfl⟩ rfl ⟨rfl, rfl, rfl, rfl, trivial⟩ trivial rfl ?_
    rintro k ts ms ⟨i, hi, rfl, hp, rfl, rfl⟩ hok
    clear hok
    by_cases q : i < l.length
    · have q' : (i : Int) < l.length := by omega
      have q2 : (i : Int) < m.length := by omega
      obtain ⟨⟨px, py⟩, g1⟩ : ∃ p, l[i]? = some p := ⟨_, List.getElem?_eq_getElem q⟩
      obtain ⟨⟨rx, ry⟩, g2⟩ : ∃ p, m[i]? = some p := ⟨_, List.getElem?_eq_getElem (show i < m.length by omega)⟩
      have E1 := ptsC_int (j := (i : Int)) rfl g1
      have E2 := ptsC_int (j := (i : Int)) rfl g2
      cases hq : eqP px py rx ry with
      | true =>
        have he := eqP_iff.1 hq
        have heq : l[i]? = m[i]? := by rw [g1, g2, he.1, he.2]
        have hp' : ∀ j, j < i + 1 → l[j]? = m[j]? := fun j hj => by
          by_cases e : j = i
          · rw [e]; exact heq
          · exact hp j (by omega)
        clear hl hl' hp g1 g2 he heq hi
        (repeat (first | ((with_reducible apply al_q); exact rfl) | ((with_reducible apply al_loadPN); (iterate 5 exact rfl)) | ((with_reducible apply al_idxS); (iterate 3 exact rfl); (first | decide | omega); (first | decide | omega); (first | assumption | rfl); exact rfl) | ((with_reducible apply al_neqP); (iterate 4 exact rfl)) | ((with_reducible apply al_add); (iterate 3 exact rfl); (first | exact i64_wrap (by omega) | assumption | rfl); exact rfl) | ((with_reducible apply al_nilS); kernel_rfl) | ((with_reducible apply awp_region_draw); kernel_rfl; kernel_rfl; exact rfl) | ((with_reducible apply awp_seq)) | ((with_reducible apply athen_normal)) | ((with_reducible apply awp_region)) | ((with_reducible apply al_nil)) | ((with_reducible apply awp_skip)) | ((with_reducible apply awp_block)) | ((with_reducible apply ablock_normal)) | ((with_reducible apply awp_cond_1); exact rfl; (first | assumption | exact decide_eq_true (by omega) | (simp only [Bool.not_eq_true', decide_eq_false_iff_not, decide_eq_true_eq, Bool.not_eq_false']; (first | done | omega)))) | ((with_reducible apply awp_cond_0); exact rfl; (first | assumption | exact decide_eq_false (by omega) | (simp only [Bool.not_eq_true', decide_eq_false_iff_not, decide_eq_true_eq, Bool.not_eq_false']; (first | done | omega))))))
        exact ⟨l.length - (i + 1), _, [], by omega, ⟨i + 1, by omega, rfl, hp', rfl, rfl⟩, rfl, ⟨rfl, rfl, rfl, rfl, trivial⟩, trivial, rfl⟩
      | false =>
        have hne : ¬ l = m := fun e => by
          subst e
          rw [g1] at g2
          cases g2
          have := eqP_iff.2 (⟨rfl, rfl⟩ : px = px ∧ py = py)
          rw [this] at hq
          cases hq
        clear hl hl' hp g1 g2 hi
        (repeat (first | ((with_reducible apply al_q); exact rfl) | ((with_reducible apply al_loadPN); (iterate 5 exact rfl)) | ((with_reducible apply al_idxS); (iterate 3 exact rfl); (first | decide | omega); (first | decide | omega); (first | assumption | rfl); exact rfl) | ((with_reducible apply al_neqP); (iterate 4 exact rfl)) | ((with_reducible apply al_nilS); kernel_rfl) | ((with_reducible apply awp_region_draw); kernel_rfl; kernel_rfl; exact rfl) | ((with_reducible apply awp_seq)) | ((with_reducible apply athen_normal)) | ((with_reducible apply awp_region)) | ((with_reducible apply al_nil)) | ((with_reducible apply awp_ret)) | ((with_reducible apply awp_skip)) | ((with_reducible apply athen_ret)) | ((with_reducible apply awp_block)) | ((with_reducible apply ablock_ret)) | ((with_reducible apply awp_cond_1); exact rfl; (first | assumption | exact decide_eq_true (by omega) | (simp only [Bool.not_eq_true', decide_eq_false_iff_not, decide_eq_true_eq, Bool.not_eq_false']; (first | done | omega))))))
        (first | (refine apost_ret rfl (resl_tmp rfl resl_nil) ?_))
        exact AV.Le.of_eq (by rw [decide_eq_false hne]; rfl)
    · have q' : ¬ (i : Int) < l.length := by omega
      have e : l = m := List.ext_getElem? fun j => by
        by_cases hj : j < i
        · exact hp j hj
        · rw [List.getElem?_eq_none (by omega), List.getElem?_eq_none (by omega)]
      clear hl hl' hp hi
      (repeat (first | ((with_reducible apply al_q); exact rfl) | ((with_reducible apply awp_seq)) | ((with_reducible apply athen_normal)) | ((with_reducible apply awp_region)) | ((with_reducible apply al_nil)) | ((with_reducible apply awp_ret)) | ((with_reducible apply ablock_same)) | ((with_reducible apply awp_exit)) | ((with_reducible apply athen_exit)) | ((with_reducible apply awp_cond_0); exact rfl; (first | assumption | exact decide_eq_false (by omega) | (simp only [Bool.not_eq_true', decide_eq_false_iff_not, decide_eq_true_eq, Bool.not_eq_false']; (first | done | omega))))))
      (first | (refine apost_ret rfl (resl_tmp rfl resl_nil) ?_))
      exact AV.Le.of_eq (by rw [decide_eq_true e]; rfl)
  · rw [decide_eq_false (fun e => hl (by rw [e]))]
    exact equal_ne hl
end Go.Proofs.Ytlfkllmnekdghaa

namespace Go.Proofs.Ytlfkllmnekdghaa
open Go.RowKit
set_option linter.unusedVariables false
set_option linter.unusedSimpArgs false
/-- whole numbers of 64 bits go round. -/
def w64 (n : Int) : Int := (n + 9223372036854775808) % 18446744073709551616 - 9223372036854775808
/-- the point at a place; the one behind it. -/
def ptA (l : List (Int × Int)) (i : Nat) : Int × Int := (l[i]?).getD (0, 0)
def nxA (l : List (Int × Int)) (i : Nat) : Int × Int := ptA l ((i + 1) % l.length)
def arS (l : List (Int × Int)) : Nat → Int
  | 0 => 0
  | i + 1 => arS l i + crV 0 0 (ptA l i).1 (ptA l i).2 (nxA l i).1 (nxA l i).2
def okL (l : List (Int × Int)) : Bool := l.all fun p => rB p.1 p.2
def areaL (l : List (Int × Int)) : Int := if l.length ≤ 2000 ∧ okL l = true then w64 (arS l l.length) else 0
/-- what holds ahead of each round of Area's loop. -/
def ArI (l : List (Int × Int)) (k : Nat) (ts : List (Nat × AV)) (ms : List (Nat × List AC)) : Prop :=
  ∃ (i : Nat) (a j : Int), i ≤ l.length ∧ k = l.length - i ∧ (∀ m p, m < i → l[m]? = some p → rB p.1 p.2 = true) ∧ a = w64 (arS l i) ∧ j = i ∧ ms = [] ∧ ts = [(0, vPs l), (3, vI a), (9, vI l.length), (10, vI j)]
end Go.Proofs.Ytlfkllmnekdghaa

namespace Go.Proofs.Ytlfkllmnekdghaa
open Go.ChangeShapes Go.WideShapes Go.ChangeAt Go.RowKit Go.Joins
set_option linter.unusedVariables false
set_option linter.unusedSimpArgs false
theorem own3 : ownKnob Try.prog.godebug = none := by kernel_rfl
/-- a type of plain values. -/
def flatB (P : Program) : Nat → TypeId → Bool
  | 0, _ => false
  | d + 1, t => match P.underlying t with
    | some .bool | some (.int _) | some .string => true
    | some (.struct fs) => fs.toList.all fun f => flatB P d f.type
    | some (.array _ e) => flatB P d e
    | _ => false
theorem mapM_flat {α β : Type} {f g : α → Option (β × List MemPlace)} : ∀ (l : List α) (xs : List (β × List MemPlace)), l.mapM f = some xs → (∀ a ∈ l, ∀ x, f a = some x → x.2 = [] ∧ g a = some (x.1, [])) → xs.flatMap (·.2) = [] ∧ l.mapM g = some xs
  | [], xs, h, _ => by cases h; exact ⟨rfl, rfl⟩
  | a :: l, xs, h, hk => by
    rw [List.mapM_cons] at h
    cases ha : f a with
    | none => rw [ha] at h; cases h
    | some b =>
      rw [ha] at h
      cases hl : l.mapM f with
      | none => rw [hl] at h; cases h
      | some bs =>
        rw [hl] at h
        cases h
        obtain ⟨h1, h2⟩ := hk a (by simp) b ha
        obtain ⟨h3, h4⟩ := mapM_flat l bs hl fun a' ha' => hk a' (by simp [ha'])
        refine ⟨by simp [h1]; intro a' b' hab; have := List.flatMap_eq_nil_iff.1 h3 _ hab; exact this, ?_⟩
        rw [List.mapM_cons, h2, h4]
        obtain ⟨b1, b2⟩ := b
        simp only at h1
        subst h1
        rfl
section
variable {H : Type} {enc : TypeId × Value → H} {P : Program}
theorem flat_trod : ∀ (d : Nat) (t : TypeId), flatB P d t = true → ∀ (fuel : Nat) (w : World) (base : Nat) (sp : Nat → Bool) (held : Bool) (cs : List Value) (x : DataW H × List MemPlace), DataW.trod enc P w base sp held fuel t cs = some x →
    x.2 = [] ∧ ∀ (w' : World) (base' : Nat) (sp' : Nat → Bool) (held' : Bool), DataW.trod enc P w' base' sp' held' fuel t cs = some (x.1, [])
  | 0, _, h, _, _, _, _, _, _, _, _ => by cases h
  | d + 1, t, hf, 0, _, _, _, _, _, _, h => by simp [DataW.trod] at h
  | d + 1, t, hf, fuel + 1, w, base, sp, held, cs, x, h => by
    have ih := fun t' (ht' : flatB P d t' = true) => flat_trod d t' ht' fuel
    rw [DataW.trod_step] at h
    simp only [DataW.trod_step]
    unfold flatB at hf
    unfold DataW.trodStep at h ⊢
    cases hu : P.underlying t with
    | none => rw [hu] at hf; cases hf
    | some D =>
      rw [hu] at hf h
      cases D with
      | bool =>
        match cs, h with
        | [.bool b], h => cases h; exact ⟨rfl, fun _ _ _ _ => rfl⟩
      | int k =>
        match cs, h with
        | [.int k' n], h =>
          simp only at h ⊢
          split at h
          · rename_i hc; cases h; exact ⟨rfl, fun _ _ _ _ => by rw [if_pos hc]⟩
          · cases h
      | string =>
        match cs, h with
        | [.string s], h =>
          simp only at h ⊢
          split at h
          · rename_i hc; cases h; exact ⟨rfl, fun _ _ _ _ => by rw [if_pos hc]⟩
          · cases h
      | struct fs =>
        simp only at h ⊢ hf
        split at h
        · rename_i hc
          simp only [Option.map_eq_some_iff] at h
          obtain ⟨xs, hx, rfl⟩ := h
          have hall := List.all_eq_true.1 hf
          refine ⟨?_, fun w' base' sp' held' => ?_⟩
          · exact (mapM_flat (g := fun f => DataW.trod enc P w base sp held fuel f.type ((cs.drop f.offset).take (P.cellsOf f.type))) _ _ hx fun f hf' y hy => ⟨(ih f.type (hall f hf') w base sp held _ y hy).1, (ih f.type (hall f hf') w base sp held _ y hy).2 w base sp held⟩).1
          · have := mapM_flat (g := fun f => DataW.trod enc P w' base' sp' held' fuel f.type ((cs.drop f.offset).take (P.cellsOf f.type))) _ _ hx fun f hf' y hy => ⟨(ih f.type (hall f hf') w base sp held _ y hy).1, (ih f.type (hall f hf') w base sp held _ y hy).2 w' base' sp' held'⟩
            rw [if_pos hc, this.2]
            simp only [Option.map_some, this.1]
        · cases h
      | array n e =>
        simp only at h ⊢ hf
        split at h
        · rename_i hc
          simp only [Option.map_eq_some_iff] at h
          obtain ⟨xs, hx, rfl⟩ := h
          refine ⟨?_, fun w' base' sp' held' => ?_⟩
          · exact (mapM_flat (g := fun i => DataW.trod enc P w base sp held fuel e ((cs.drop (i * P.cellsOf e)).take (P.cellsOf e))) _ _ hx fun f _ y hy => ⟨(ih e hf w base sp held _ y hy).1, (ih e hf w base sp held _ y hy).2 w base sp held⟩).1
          · have := mapM_flat (g := fun i => DataW.trod enc P w' base' sp' held' fuel e ((cs.drop (i * P.cellsOf e)).take (P.cellsOf e))) _ _ hx fun f _ y hy => ⟨(ih e hf w base sp held _ y hy).1, (ih e hf w base sp held _ y hy).2 w' base' sp' held'⟩
            rw [if_pos hc, this.2]
            simp only [Option.map_some, this.1]
        · cases h
      | _ => cases hf
theorem flat_arg {d : Nat} {t : TypeId} (hf : flatB P d t = true) {w : World} {base : Nat} {sp : Nat → Bool} {held : Bool} {v : Value} {D : DataW H} {p : List MemPlace} (h : DataW.Trod enc P w base sp held t v D p) :
    p = [] ∧ ∀ (w' : World) (base' : Nat) (sp' : Nat → Bool) (held' : Bool), DataW.Trod enc P w' base' sp' held' t v D [] := by
  obtain ⟨fuel, h⟩ := h
  obtain ⟨h1, h2⟩ := flat_trod d t hf fuel w base sp held _ _ h
  exact ⟨h1, fun w' base' sp' held' => ⟨fuel, h2 w' base' sp' held'⟩⟩
end
section
variable {P : Program} {W : World} {r : Reach} {b : Nat} {t : TypeId} {v : Value}
theorem okw_int {k : IntKind} (hu : P.underlying t = some (.int k)) (h : Cell.okWide P W r b t v) : ∃ n, v = .int k n ∧ k.min ≤ n ∧ n ≤ k.max := by
  unfold Cell.okWide Cell.ok at h
  rw [hu] at h
  cases v <;> simp only at h
  rename_i k' n
  obtain ⟨rfl, h⟩ := h
  exact ⟨n, rfl, by simpa [IntKind.has] using h⟩
def aggB (P : Program) (t : TypeId) (n : Nat) (ts : List TypeId) : Bool :=
  (match P.underlying t with | some (.struct _) | some (.array _ _) => true | _ => false) && (P.cellsOf t == n) && (P.cellTypes P.depth t == some ts) && (ts.length == n) && (0 < n)
theorem okw_agg {n : Nat} {ts : List TypeId} (hB : aggB P t n ts = true) (h : Value.okWide P W r b t v) : ∃ cs : List Value, v = .agg cs.toArray ∧ cs.length = n ∧ ∀ (i : Nat) (u : TypeId) (c : Value), ts[i]? = some u → cs[i]? = some c → Cell.okWide P W r b u c := by
  unfold aggB at hB
  simp only [Bool.and_eq_true, beq_iff_eq, decide_eq_true_eq] at hB
  obtain ⟨⟨⟨⟨h1, h2⟩, h3⟩, h4⟩, h5⟩ := hB
  have key : ∃ cs : Array Value, v = .agg cs ∧ cs.size = P.cellsOf t ∧ Row.okWide P W r b t cs := by
    unfold Value.okWide at h
    split at h
    · exact h
    · exact h
    · exfalso
      split at h1
      · rename_i hu; rename_i h6 _ _ ; exact absurd hu (by simp_all)
      · simp_all
      · cases h1
  obtain ⟨cs, rfl, hs, ts', e1, _, hc⟩ := key
  rw [h3] at e1
  cases e1
  refine ⟨cs.toList, by simp, by simp [hs, h2], fun i u c hu hc' => ?_⟩
  have hlt : i < ts.length := (List.getElem?_eq_some_iff.1 hu).1
  obtain ⟨u', q1, q2⟩ := hc i c (by simpa using hc')
  rw [Nat.mod_eq_of_lt hlt, hu] at q1
  cases q1
  exact q2
end
theorem list2 {α : Type} {cs : List α} (h : cs.length = 2) : ∃ a b, cs = [a, b] := by match cs, h with | [a, b], _ => exact ⟨a, b, rfl⟩
end Go.Proofs.Ytlfkllmnekdghaa

namespace Go.Proofs.Ytlfkllmnekdghaa
open Go.RowKit
set_option linter.unusedVariables false
set_option linter.unusedSimpArgs false
abbrev vP3 (a1 a2 b1 b2 c1 c2 : Int) : AV := .w (.agg [.c (.int .i64 a1), .c (.int .i64 a2), .c (.int .i64 b1), .c (.int .i64 b2), .c (.int .i64 c1), .c (.int .i64 c2)])
end Go.Proofs.Ytlfkllmnekdghaa

namespace Go.Proofs.Ytlfkllmnekdghaa
open Go.RowKit
set_option linter.unusedVariables false
set_option linter.unusedSimpArgs false
/-- is a number between two? -/
def btB (n a b : Int) : Bool := (decide (a ≤ n) && decide (n ≤ b)) || (decide (b ≤ n) && decide (n ≤ a))
end Go.Proofs.Ytlfkllmnekdghaa

namespace Go.Proofs.Ytlfkllmnekdghaa
open Go.RowKit
set_option linter.unusedVariables false
set_option linter.unusedSimpArgs false
instance iInpR_1 : RowTy Try.prog 34 40 5 40 := ⟨by kernel_rfl⟩
abbrev erRow (v : Value) (l : List (Int × (Pt × Pt))) : HRow := ⟨40, 5, v, l.length, edsC l⟩
/-- the edges of one area. -/
def ofE (o : Int) (L : List (List Pt)) : List (Int × (Pt × Pt)) := (edgsM L).map fun e => (o, e)
def RoI (L : List (List Pt)) (o : Int) (n : Nat) (R : Rws) (ts : List (Nat × AV)) (ms : List (Nat × List AC)) : Prop :=
  ∃ (k : Nat) (v : Value) (ki : Int), k ≤ L.length ∧ n = L.length - k ∧ ki = k ∧ R = row1 0 (erRow v (ofE o (L.take k))) ∧ ms = [] ∧ ts = [(0, .w (.one (ringsA L))), (1, vI o), (5, vC v), (6, vI ki)]
def RiI (L : List (List Pt)) (o : Int) (r : List Pt) (S : List (Int × (Pt × Pt))) (ki : Int) (n : Nat) (R : Rws) (ts : List (Nat × AV)) (ms : List (Nat × List AC)) : Prop :=
  ∃ (i : Nat) (v : Value) (ii : Int), i ≤ r.length ∧ n = r.length - i ∧ ii = i ∧ R = row1 0 (erRow v (S ++ ((edgM r).take i).map fun e => (o, e))) ∧ ms = [] ∧ ts = [(0, .w (.one (ringsA L))), (1, vI o), (5, vC v), (6, vI ki), (7, .w (.one (ringA r))), (8, vI ii)]
/-- as On tells it. -/
theorem onB_rel {x y a1 a2 b1 b2 : Int} (h : rB x y = true) (ha : rB a1 a2 = true) (hb : rB b1 b2 = true) : onB x y a1 a2 b1 b2 = onR (a1 - x) (a2 - y) (b1 - x) (b2 - y) := by
  unfold onB
  rw [h, ha, hb, Bool.true_and, Bool.true_and, Bool.true_and]
  have e : cr a1 a2 b1 b2 x y = dtR (a1 - x) (a2 - y) (b1 - x) (b2 - y) := by unfold cr dtR; grind
  rw [e]
  unfold onR hB imin imax
  rw [Bool.eq_iff_iff]
  simp only [Bool.and_eq_true, Bool.or_eq_true, decide_eq_true_eq]
  constructor
  · rintro ⟨⟨⟨⟨h1, h2⟩, h3⟩, h4⟩, h5⟩
    refine ⟨⟨h5, ?_⟩, ?_⟩
    · revert h1 h2; split <;> split <;> omega
    · revert h3 h4; split <;> split <;> omega
  · rintro ⟨⟨h5, h1⟩, h2⟩
    refine ⟨⟨⟨⟨?_, ?_⟩, ?_⟩, ?_⟩, h5⟩ <;> split <;> omega
theorem crV_rel {x y a1 a2 b1 b2 : Int} (h : rB x y = true) (ha : rB a1 a2 = true) (hb : rB b1 b2 = true) : crV a1 a2 b1 b2 x y = dtR (a1 - x) (a2 - y) (b1 - x) (b2 - y) := by
  unfold crV
  rw [h, ha, hb]
  show (if true = true then cr a1 a2 b1 b2 x y else 0) = _
  rw [if_pos rfl]; unfold cr dtR; grind
theorem wndE_one {f : Int → Int → Int → Int → Int} {x y : Int} {E : List (Pt × Pt)} {e : Pt × Pt} : wndE f x y (E ++ [e]) = wndE f x y E + relR f x y e := by rw [wndE_app]; simp [wndE]
theorem anyE_one {x y : Int} {E : List (Pt × Pt)} {e : Pt × Pt} : anyE x y (E ++ [e]) = (anyE x y E || relB onR x y e) := by rw [anyE_app]; simp [anyE]
theorem anyE_take {x y : Int} {E : List (Pt × Pt)} {k : Nat} {e : Pt × Pt} (h : E[k]? = some e) (ho : relB onR x y e = true) : anyE x y E = true := List.any_eq_true.2 ⟨e, List.mem_of_getElem? h, ho⟩
abbrev vWnd (n : Int) (b : Bool) : AV := .tup [.one (.c (.int .i64 n)), .one (.c (.bool b))]
def RwI (L : List (List Pt)) (x y : Int) (n : Nat) (ts : List (Nat × AV)) (ms : List (Nat × List AC)) : Prop :=
  ∃ (k : Nat) (ki c : Int), k ≤ (edgsM L).length ∧ n = (edgsM L).length - k ∧ ki = k ∧ anyE x y ((edgsM L).take k) = false ∧ wndE cuR x y ((edgsM L).take k) = c ∧ ms = [(8, [.c (.int .i64 x), .c (.int .i64 y)])] ∧ ts = [(1, vI x), (8, .w (.one (.own 8 0))), (9, vI c), (10, vS 5 (ofE 0 L).length (edsC (ofE 0 L))), (11, vI ki)]
end Go.Proofs.Ytlfkllmnekdghaa

namespace Go.Proofs.Ytlfkllmnekdghaa
open Go.RowKit
set_option linter.unusedVariables false
set_option linter.unusedSimpArgs false
/-- told by a value, or by a pointer into a block that is held with it. -/
def AC.plainB : AC → Bool
  | .p _ => false
  | _ => true
def plainM (m : Mem) (R : Rws) : Prop := (∀ k cs, m k = some cs → cs.all AC.plainB = true) ∧ ∀ i r, R i = some r → 0 < r.sz ∧ r.ys.all AC.plainB = true
theorem RpL.plain {U U' : Nat → Prop} {ρ : Nat → Nat} {W W' : World} {xs : List AC} {vs : List Value} (h : RpL U ρ W xs vs) (hp : xs.all AC.plainB = true) : RpL U' ρ W' xs vs := by
  refine ⟨h.1, fun i x v hx hv => ?_⟩
  have h1 := h.2 i x v hx hv
  have h2 := List.all_eq_true.1 hp x (List.mem_of_getElem? hx)
  cases x with
  | c u => exact h1
  | own k o => exact h1
  | p S => cases h2
theorem HRow.ok.plain {U U' : Nat → Prop} {ρ : Nat → Nat} {W : World} {r : HRow} (h : r.ok U ρ W) (hs : 0 < r.sz) (hp : r.ys.all AC.plainB = true) : r.ok U' ρ W := by
  obtain ⟨xs, h1, h2⟩ := h.row hs
  exact .inl ⟨hs, xs, h1, h2.plain hp⟩
abbrev ptrO (b off : Nat) : Value := .pointer (some ⟨b, off, none⟩)
abbrev ptrV (b : Nat) : Value := ptrO b 0
abbrev noU : Nat → Prop := fun _ => False
theorem HHeap.lt {U : Nat → Prop} {ρ : Nat → Nat} {W : World} {m : Mem} {R : Rws} (h : HHeap U ρ W m R) {b : Nat} (hb : HotAt ρ m R b) : b < W.heap.size := by
  rcases hb with ⟨k, cs, hk, rfl⟩ | ⟨i, r, hi, hg⟩
  · obtain ⟨vs, ty, h1, _⟩ := h.mm k cs hk
    exact (Array.getElem?_eq_some_iff.1 h1).1
  · exact (h.rows i r hi).1.lt hg
/-- these blocks and rows, as they are, with nothing else that they hang on. -/
def thingSP (ρ : Nat → Nat) (m : Mem) (R : Rws) (k : Nat) : SP where
  holds w v := v = ptrV (ρ k) ∧ HHeap noU ρ w m R ∧ plainM m R
  foot w v b := HotAt ρ m R b
  frame := by
    rintro w w' v ⟨rfl, h, hp⟩ hf
    refine ⟨⟨rfl, ⟨fun j cs hj => ?_, h.mo, h.inj, fun i r hi => ?_, h.apart⟩, hp⟩, fun b hb => hb⟩
    · obtain ⟨vs, ty, h1, h2, h3⟩ := h.mm j cs hj
      exact ⟨vs, ty, by rw [hf _ (.inl ⟨j, cs, hj, rfl⟩)]; exact h1, h2.plain (hp.1 j cs hj), h3⟩
    · obtain ⟨h1, h2, h3⟩ := h.rows i r hi
      obtain ⟨xs, g1, g2⟩ := h1.row (hp.2 i r hi).1
      exact ⟨.inl ⟨(hp.2 i r hi).1, xs, ownsRow_kept g1 fun g q => hf g (.inr ⟨i, r, hi, .inl q⟩), g2.plain (hp.2 i r hi).2⟩, h2, h3⟩
  old := fun w v b ⟨_, h, _⟩ hb => h.lt hb
  cell := fun w v ⟨e, _⟩ => by rw [e]; rfl
/-- such a thing, held beside a state's rows. -/
def obRow (ρ : Nat → Nat) (m : Mem) (R : Rws) (k : Nat) : HRow := ⟨0, 0, ptrV (ρ k), 0, [.p (thingSP ρ m R k)]⟩
/-- part of what is held, alone. -/
theorem HHeap.sub {U : Nat → Prop} {ρ : Nat → Nat} {W : World} {m m1 : Mem} {R R1 : Rws} (h : HHeap U ρ W m R) (hm : ∀ k cs, m1 k = some cs → m k = some cs) (hr : RLe R1 R) (mo : ∀ k cs x j, m1 k = some cs → x ∈ cs → x.owns j → ∃ cs', m1 j = some cs') : HHeap U ρ W m1 R1 := by
  refine ⟨fun k cs hk => h.mm k cs (hm k cs hk), mo, fun k k' cs cs' hk hk' => h.inj k k' cs cs' (hm k cs hk) (hm k' cs' hk'), fun i r hi => ?_, fun i j r q hi hj => h.apart i j r q (hr i r hi) (hr j q hj)⟩
  obtain ⟨h1, h2, h3⟩ := h.rows i r (hr i r hi)
  exact ⟨h1, h2, fun g hg => ⟨(h3 g hg).1, fun k cs hk => (h3 g hg).2 k cs (hm k cs hk)⟩⟩
theorem HHeap.none {U : Nat → Prop} {ρ : Nat → Nat} {W : World} {m : Mem} {R : Rws} (h : HHeap U ρ W m R) (hp : plainM m R) : HHeap noU ρ W m R := by
  refine ⟨fun k cs hk => ?_, h.mo, h.inj, fun i r hi => ?_, h.apart⟩
  · obtain ⟨vs, ty, h1, h2, _⟩ := h.mm k cs hk
    exact ⟨vs, ty, h1, h2.plain (hp.1 k cs hk), id⟩
  · obtain ⟨h1, h2, h3⟩ := h.rows i r hi
    exact ⟨h1.plain (hp.2 i r hi).1 (hp.2 i r hi).2, h2, fun g hg => ⟨id, (h3 g hg).2⟩⟩
theorem HHeap.more {U : Nat → Prop} {ρ : Nat → Nat} {W : World} {m : Mem} {R : Rws} (h : HHeap noU ρ W m R) (hp : plainM m R) (hU : ∀ b, HotAt ρ m R b → ¬ U b) : HHeap U ρ W m R := by
  refine ⟨fun k cs hk => ?_, h.mo, h.inj, fun i r hi => ?_, h.apart⟩
  · obtain ⟨vs, ty, h1, h2, _⟩ := h.mm k cs hk
    exact ⟨vs, ty, h1, h2.plain (hp.1 k cs hk), hU _ (.inl ⟨k, cs, hk, rfl⟩)⟩
  · obtain ⟨h1, h2, h3⟩ := h.rows i r hi
    exact ⟨h1.plain (hp.2 i r hi).1 (hp.2 i r hi).2, h2, fun g hg => ⟨hU g (.inr ⟨i, r, hi, hg⟩), (h3 g hg).2⟩⟩
/-- two parts that have no name in common have no block in common. -/
theorem HHeap.split {U : Nat → Prop} {ρ : Nat → Nat} {W : World} {m m1 m2 : Mem} {R R1 R2 : Rws} (h : HHeap U ρ W m R) (h1 : ∀ k cs, m1 k = some cs → m k = some cs) (h2 : ∀ k cs, m2 k = some cs → m k = some cs) (r1 : RLe R1 R) (r2 : RLe R2 R) (dm : ∀ k cs cs', m1 k = some cs → m2 k = some cs' → False) (dr : ∀ i r q, R1 i = some r → R2 i = some q → False) {b : Nat} (hb : HotAt ρ m1 R1 b) : ¬ HotAt ρ m2 R2 b := by
  rintro (⟨j, ds, hj, e⟩ | ⟨j, q, hj, hq⟩)
  · rcases hb with ⟨k, cs, hk, rfl⟩ | ⟨i, r, hi, hg⟩
    · have := h.inj j k _ _ (h2 j ds hj) (h1 k cs hk) e
      subst this
      exact dm j cs ds hk hj
    · exact ((h.rows i r (r1 i r hi)).2.2 b hg).2 j ds (h2 j ds hj) e
  · rcases hb with ⟨k, cs, hk, rfl⟩ | ⟨i, r, hi, hg⟩
    · exact ((h.rows j q (r2 j q hj)).2.2 _ hq).2 k cs (h1 k cs hk) rfl
    · by_cases e : i = j
      · subst e; exact dr i r q hi hj
      · exact h.apart i j r q (r1 i r hi) (r2 j q hj) e b hg hq
/-- a thing that stands at p, and is what S says. -/
abbrev ob (p : Value) (S : SP) : HRow := ⟨0, 0, p, 0, [.p S]⟩
/-- a method of such a thing. -/
def ThCall (P : Program) (f : FuncId) (args : List AV) (p : Value) (S : SP) (post : AV → SP → Prop) : Prop := ∀ i, HCall P f args noMem (row1 i (ob p S)) fun v m' R' => ∃ S', m' = noMem ∧ R' = row1 i (ob p S') ∧ post v S'
/-- one that makes a row, too. -/
def ThCall2 (P : Program) (f : FuncId) (args : List AV) (p : Value) (S : SP) (post : AV → SP → HRow → Prop) : Prop := ∀ i j, i ≠ j → HCall P f args noMem (row1 i (ob p S)) fun v m' R' => ∃ S' q, m' = noMem ∧ R' = upd (row1 i (ob p S')) j q ∧ 0 < q.sz ∧ post v S' q
/-- one that makes another thing. -/
def ThCall3 (P : Program) (f : FuncId) (args : List AV) (p : Value) (S : SP) (post : SP → Value → SP → Prop) : Prop := ∀ i j, i ≠ j → HCall P f args noMem (row1 i (ob p S)) fun v m' R' => ∃ S' p2 S2, m' = noMem ∧ R' = upd (row1 i (ob p S')) j (ob p2 S2) ∧ v = vC p2 ∧ post S' p2 S2
/-- a function that makes such a thing. -/
def ThNew (P : Program) (f : FuncId) (args : List AV) (post : Value → SP → Prop) : Prop := ∀ i, HCall P f args noMem noRows fun v m' R' => ∃ p S, m' = noMem ∧ R' = row1 i (ob p S) ∧ v = vC p ∧ post p S
theorem RpVs.closed {U : Nat → Prop} {ρ ρ' : Nat → Nat} {W : World} {args : List AV} {vs : List Value} (hc : args.all AV.closedB = true) (h : RpVs U ρ W args vs) : RpVs U ρ' W args vs :=
  ⟨h.1, fun i x v hx hv => (h.2 i x v hx hv).map (fun b hb _ => ⟨hb, rfl⟩) fun j hj => absurd hj (AV.closed_of (List.all_eq_true.1 hc x (List.mem_of_getElem? hx)) j)⟩
section
variable {P : Program} {R : Rws} {s : AS} {ops : Array Oper} {dr : Option (List Nat)} {ty : Nat} {pos : String} {after : Array Edge} {guard : Option (Nat × Bool)} {K : Rws → AS → Prop} {rest : List Oper}
end
end Go.Proofs.Ytlfkllmnekdghaa

namespace Go.Proofs.Ytlfkllmnekdghaa
open Go.RowKit
set_option linter.unusedVariables false
set_option linter.unusedSimpArgs false
section
variable {P : Program} {s : AS} {ops : Array Oper} {K : AS → Prop} {rest : List Oper} {ty : Nat} {pos : String} {after : Array Edge} {guard : Option (Nat × Bool)} {d : Nat}
def isPtr (P : Program) (t : TypeId) : Bool := match P.underlying t with
  | some (.pointer _) => true
  | _ => false
end
section
variable {P : Program} {s : AS} {ops : Array Oper} {K : AS → Prop} {rest : List Oper} {ty : Nat} {pos : String} {after : Array Edge} {guard : Option (Nat × Bool)} {d : Nat}
end
/-- a function that makes a thing, and tells more. -/
def ThNewV (P : Program) (f : FuncId) (args : List AV) (post : AV → Value → SP → Prop) : Prop := ∀ i, HCall P f args noMem noRows fun v m' R' => ∃ p S, m' = noMem ∧ R' = row1 i (ob p S) ∧ v.closedB = true ∧ post v p S
theorem SP.same {A B : SP} (h1 : A.holds = B.holds) (h2 : A.foot = B.foot) : A = B := by
  cases A; cases B; cases h1; cases h2; rfl
section
variable {P : Program} {R : Rws} {s : AS} {ops : Array Oper} {dr : Option (List Nat)} {ty : Nat} {pos : String} {after : Array Edge} {guard : Option (Nat × Bool)} {K : Rws → AS → Prop} {rest : List Oper}
end
end Go.Proofs.Ytlfkllmnekdghaa

namespace Go.Proofs.Ytlfkllmnekdghaa
open Go.RowKit
set_option linter.unusedVariables false
set_option linter.unusedSimpArgs false
/-- such a function. -/
def ACall (P : Program) (f : FuncId) (args : List AV) (post : AV → HRow → Prop) : Prop :=
  ∀ i, HCall P f args noMem noRows fun v m' R' => ∃ q, m' = noMem ∧ R' = row1 i q ∧ 0 < q.sz ∧ post v q
theorem acall_of {P : Program} {f : FuncId} {args : List AV} {post : AV → HRow → Prop} (ha : args.all AV.closedB = true) (hp : ∀ v q, post v q → v.closedB = true)
    (h : HCall P f args noMem noRows fun v m' R' => ∃ q, m' = noMem ∧ R' = row1 0 q ∧ 0 < q.sz ∧ post v q) : ACall P f args post := by
  intro i
  have h1 := h.ren (π := fun j => j) (σ := swp 0 i) (τ := swp 0 i) (fun _ => rfl) (swp_swp _ _) (swp_swp _ _)
  rw [renId ha, show Mem.ren (fun j => j) noMem = noMem from rfl, show Rws.ren (swp 0 i) noRows = noRows from rfl] at h1
  refine ⟨fun U ρ W vs hH hown hvs => (h1.call U ρ W vs hH hown hvs).mono ?_⟩
  rintro e W' ⟨v1, r1, m', R', ρ', U', q0, ⟨r2, m2, R2, ⟨q, rfl, rfl, hz, hq⟩, rfl, rfl, rfl⟩, qq⟩
  rw [show Mem.ren (fun j => j) noMem = noMem from rfl, row1_ren, ren_closedV (hp _ _ hq)] at qq
  exact ⟨v1, r2, noMem, row1 i q, ρ', U', q0, ⟨q, rfl, rfl, hz, hq⟩, qq⟩
/-- its end. -/
theorem hfin_a {P : Program} {fn : Func} {l : List ResultVar} {xs : List AW} {R : Rws} {s : AS} {q : HRow} {post : AV → HRow → Prop} (hr : fn.results = l.toArray) (h : l.map (resOf P s) = xs.map some) (hi : R 0 = some q) (hx : (packed xs).closedB = true) (hqz : 0 < q.sz)
    (hp : post (packed xs) q) : hfin P fn noMem noRows (fun v m' R' => ∃ q, m' = noMem ∧ R' = row1 0 q ∧ 0 < q.sz ∧ post v q) R s := by
  refine ⟨xs, packed xs, noMem, row1 0 q, by rw [hr]; exact h, .refl _, ⟨q, rfl, rfl, hqz, hp⟩, fun k c h => (by cases h), fun i r h => ?_, fun j hj => absurd hj (AV.closed_of hx j), fun k c x j h => (by cases h), fun k c h => (by cases h), fun i r h => (by cases h)⟩
  obtain ⟨rfl, rfl⟩ := row1_iff h; exact hi
section
variable {P : Program} {R : Rws} {s : AS} {ops : Array Oper} {dr : Option (List Nat)} {ty : Nat} {pos : String} {after : Array Edge} {guard : Option (Nat × Bool)} {K : Rws → AS → Prop} {rest : List Oper}
theorem hs_a (i : Nat) {dst : Option Nat} {f : FuncId} {g : Operand} {ts : Array TypeId} {l : List Operand} {args : List AV} {post : AV → HRow → Prop} [E : Enters P f] (hw : want ops ⟨dst, .call ⟨.value g, l.toArray, ts⟩, ty, pos, after, guard⟩ s = some true) (hm : hotM dr ⟨dst, .call ⟨.value g, l.toArray, ts⟩, ty, pos, after, guard⟩ = true)
    (hg : s.look g = some (vC (.func (.func f) #[] #[]))) (ha : l.map s.look = args.map some) (hp : ACall P f args post) (hac : args.all AV.closedB = true) (hd : dstB dst s.n = true)
    (h : ∀ v q, post v q → hList P ops dr K rest (upd R i q) (s.put dst v)) : hList P ops dr K (⟨dst, .call ⟨.value g, l.toArray, ts⟩, ty, pos, after, guard⟩ :: rest) R s := by
  refine hs_h hw hm hg ha (hp i) (fun x hx j hj => absurd hj (AV.closed_of (List.all_eq_true.1 hac x hx) j)) (fun k' cs' h' => by cases h') (fun i' r' h' => by cases h') (fun k' cs' x j h' hx hj => by cases h') hd ?_
  rintro v m' R' ⟨q, rfl, rfl, _, hq⟩
  refine ⟨fun k' c h' => (by cases h'), ?_⟩
  rw [show ovr (row1 i q) R = upd R i q from ovr_upd R i _, over_noMem]
  exact h v q hq
end
end Go.Proofs.Ytlfkllmnekdghaa

namespace Go.Proofs.Ytlfkllmnekdghaa
open Go.RowKit
set_option linter.unusedVariables false
set_option linter.unusedSimpArgs false
instance iInpS_1 : Enters Try.prog 33 := ⟨by kernel_rfl⟩
/-- is it filled? -/
def flF (f n : Int) : Bool := (decide (f = 0) && !decide (n % 2 = 0)) || (decide (f = 1) && !decide (n = 0))
/-- is it in the result? -/
def dsF (op : Int) (a b : Bool) : Bool := (decide (op = 0) && (a || b)) || (decide (op = 1) && a && b) || (decide (op = 2) && a && !b) || (decide (op = 3) && (a != b))
end Go.Proofs.Ytlfkllmnekdghaa

namespace Go.Proofs.Ytlfkllmnekdghaa
open Go.RowKit
set_option linter.unusedVariables false
set_option linter.unusedSimpArgs false
theorem p_twiceL {x y : Int} (hx : rB x y = true) : PCall Try.prog 38 [vP x y] (vP (2 * x) (2 * y)) := by
  rw [rB_iff] at hx
  refine pcall_body (f := 38) Try.func38 rfl rfl rfl rfl ?_
  (repeat (first | ((with_reducible apply al_q); exact rfl) | ((with_reducible apply al_mul); (iterate 3 exact rfl); (first | exact i64_wrap (by omega) | assumption | rfl); exact rfl) | ((with_reducible apply awp_seq)) | ((with_reducible apply athen_normal)) | ((with_reducible apply awp_region)) | ((with_reducible apply al_nil)) | ((with_reducible apply awp_ret))))
  (first | (refine apost_ret rfl (resl_agg rfl rfl rfl resl_nil) ?_) | (refine apost_ret rfl (resl_one rfl rfl rfl resl_nil) ?_))
  exact AV.Le.refl _
def rtE (e : Pt × Pt) : Bool := rB e.1.1 e.1.2 && rB (2 * e.1.1) (2 * e.1.2)
def RtI (E : List (Pt × Pt)) (i : Nat) (R : Rws) (css : List (List AC)) : Prop := R = noRows ∧ css = [[.c (.bool false)]] ∧ E.all rtE = (E.drop i).all rtE
def RtX (E : List (Pt × Pt)) (e : Exit) (R : Rws) (css : List (List AC)) : Prop := e = .ret ∧ R = noRows ∧ css = [[.c (.bool false)]] ∧ E.all rtE = false
theorem vEd_hxs {E : List (Pt × Pt)} : ∀ x ∈ E.map vEd, x.length = 2 ∧ x.all AV.closedB = true := fun x hx => by
  obtain ⟨e, _, rfl⟩ := List.mem_map.1 hx
  exact ⟨rfl, rfl⟩
set_option maxRecDepth 100000 in
set_option maxHeartbeats 8000000 in
theorem p_areRight {L : List (List Pt)} (hL : L.length ≤ 4611686018427387904) (hr : ∀ r ∈ L, r.length ≤ 4611686018427387904) :
    PCall Try.prog 37 [.w (.one (ringsA L))] (vB ((edgsM L).all rtE)) := by
  have S1 := p_around11 L
  have Q1 := iseq_around (L := L) hL hr
  refine pcall_bodyR (f := 37) Try.func37 rfl rfl rfl rfl ?_
  (repeat (first | ((with_reducible apply rwt_seq)) | ((with_reducible apply rwt_region)) | ((with_reducible apply rwt_block)) | ((with_reducible apply rthen_normal)) | ((with_reducible apply hs_nil)) | ((with_reducible apply hs_c); exact rfl; (repeat (first | ((with_reducible apply al_q); exact rfl) | (refine al_call1 rfl rfl rfl (by (first | exact S1)) rfl ?_))); (with_reducible apply al_nil))))
  refine rwt_ren (swp 2 1002) (swp_swp _ _) ?_
  refine rwt_range 17 [(2, vOw11 1002)] [1002] [[.c (.bool false)]] noRows (RtI (edgsM L)) (RtX (edgsM L)) rfl Q1 (by decide) vEd_hxs ?hp rfl ⟨rfl, trivial⟩ ⟨rfl, trivial⟩ (by decide) rfl rfl ⟨rfl, rfl, rfl⟩ (RLe.refl _) (fun i r h => by cases h) ?round ?done ?stop
  case hp =>
    intro p hp
    simp only [List.mem_cons, List.not_mem_nil, or_false] at hp
    rcases hp with rfl | rfl <;> exact ⟨by decide, rfl⟩
  case round =>
    rintro i x R css hx ⟨rfl, rfl, hal⟩ hok
    rw [List.getElem?_map] at hx
    obtain ⟨⟨⟨x1, y1⟩, x2, y2⟩, he, rfl⟩ := Option.map_eq_some_iff.1 hx
    clear hx hok
    have hd : (edgsM L).drop i = ((x1, y1), (x2, y2)) :: (edgsM L).drop (i + 1) := by rw [List.drop_eq_getElem_cons (List.getElem?_eq_some_iff.1 he).1, (List.getElem?_eq_some_iff.1 he).2]
    rw [hd, List.all_cons] at hal
    have hrt : rtE ((x1, y1), (x2, y2)) = (rB x1 y1 && rB (2 * x1) (2 * y1)) := rfl
    rw [hrt] at hal
    cases h1 : rB x1 y1 with
    | false =>
      have R1 := p_pRight h1
      rw [h1, Bool.false_and, Bool.false_and] at hal
      clear h1
      (repeat (first | ((with_reducible apply rwp_seq)) | ((with_reducible apply rthen_normal)) | ((with_reducible apply rwp_region)) | ((with_reducible apply hs_nil)) | ((with_reducible apply rwp_ret)) | ((with_reducible apply rwp_block)) | ((with_reducible apply rblock_ret)) | ((with_reducible apply rwp_cond_1); exact rfl; (first | assumption | exact decide_eq_true (by omega) | (simp only [Bool.not_eq_true', decide_eq_false_iff_not, decide_eq_true_eq, Bool.not_eq_false']; (first | done | omega)) | exact rfl)) | ((with_reducible apply hs_c); exact rfl; (repeat (first | ((with_reducible apply al_q); exact rfl) | (refine al_call1 rfl rfl rfl (by (first | exact R1)) rfl ?_))); (with_reducible apply al_nil))))
      exact ⟨_, [[.c (.bool false)]], ⟨rfl, rfl, rfl, hal⟩, RLe.refl _, (fun i r h => by cases h), rfl, ⟨rfl, trivial⟩, rfl⟩
    | true =>
      have R1 := p_pRight h1
      have T1 := p_twiceL h1
      cases h2 : rB (2 * x1) (2 * y1) with
      | false =>
        have R2 := p_pRight h2
        rw [h1, h2, Bool.true_and, Bool.false_and] at hal
        clear h1 h2
        (repeat (first | ((with_reducible apply rwp_seq)) | ((with_reducible apply rthen_normal)) | ((with_reducible apply rwp_region)) | ((with_reducible apply hs_nil)) | ((with_reducible apply rwp_ret)) | ((with_reducible apply rwp_block)) | ((with_reducible apply rblock_ret)) | ((with_reducible apply rwp_cond_1); exact rfl; (first | assumption | exact decide_eq_true (by omega) | (simp only [Bool.not_eq_true', decide_eq_false_iff_not, decide_eq_true_eq, Bool.not_eq_false']; (first | done | omega)) | exact rfl)) | ((with_reducible apply hs_c); exact rfl; (repeat (first | ((with_reducible apply al_q); exact rfl) | (refine al_call1 rfl rfl rfl (by (first | exact T1 | exact R1 | exact R2)) rfl ?_))); (with_reducible apply al_nil))))
        exact ⟨_, [[.c (.bool false)]], ⟨rfl, rfl, rfl, hal⟩, RLe.refl _, (fun i r h => by cases h), rfl, ⟨rfl, trivial⟩, rfl⟩
      | true =>
        have R2 := p_pRight h2
        rw [h1, h2, Bool.true_and, Bool.true_and] at hal
        clear h1 h2
        (repeat (first | ((with_reducible apply rwp_seq)) | ((with_reducible apply rthen_normal)) | ((with_reducible apply rwp_region)) | ((with_reducible apply hs_nil)) | ((with_reducible apply rwp_skip)) | ((with_reducible apply rwp_block)) | ((with_reducible apply rblock_normal)) | ((with_reducible apply rwp_cond_0); exact rfl; (first | assumption | exact decide_eq_false (by omega) | (simp only [Bool.not_eq_true', decide_eq_false_iff_not, decide_eq_true_eq, Bool.not_eq_false']; (first | done | omega)) | exact rfl)) | ((with_reducible apply hs_c); exact rfl; (repeat (first | ((with_reducible apply al_q); exact rfl) | (refine al_call1 rfl rfl rfl (by (first | exact T1 | exact R1 | exact R2)) rfl ?_))); (with_reducible apply al_nil))))
        exact ⟨_, [[.c (.bool false)]], ⟨rfl, rfl, hal⟩, RLe.refl _, (fun i r h => by cases h), rfl, ⟨rfl, trivial⟩, rfl⟩
  case done =>
    rintro R css ⟨rfl, rfl, hal⟩ hok
    clear hok
    rw [List.length_map, List.drop_length, List.all_nil] at hal
    rw [hal]
    (repeat (first | ((with_reducible apply rwt_seq)) | ((with_reducible apply rwt_region)) | ((with_reducible apply rwt_ret)) | ((with_reducible apply rthen_normal)) | ((with_reducible apply hs_nil)) | ((with_reducible apply rblock_normal)) | ((with_reducible apply hs_c); exact rfl; (repeat (first | ((with_reducible apply al_q); exact rfl))); (with_reducible apply al_nil))))
    (first | (refine apost_ret rfl (resl_agg rfl rfl rfl resl_nil) ?_) | (refine apost_ret rfl (resl_one rfl rfl rfl resl_nil) ?_))
    exact AV.Le.refl _
  case stop =>
    rintro e c R css he ⟨rfl, rfl, rfl, hal⟩ hok
    clear hok he
    rw [hal]
    (repeat (first | ((with_reducible apply rthen_ret)) | ((with_reducible apply rblock_ret))))
    (first | (refine apost_ret rfl (resl_agg rfl rfl rfl resl_nil) ?_) | (refine apost_ret rfl (resl_one rfl rfl rfl resl_nil) ?_))
    exact AV.Le.refl _
theorem sgn4_pos {n : Int} : 0 < sgn4 n ↔ 0 < n := by unfold sgn4; repeat' split <;> omega
theorem sgn4_neg {n : Int} : sgn4 n < 0 ↔ n < 0 := by unfold sgn4; repeat' split <;> omega
set_option maxRecDepth 100000 in
set_option maxHeartbeats 8000000 in
theorem p_passes {a1 a2 b1 b2 x y : Int} (ho : rB x y = true) (ha : rB a1 a2 = true) (hb : rB b1 b2 = true) : PCall Try.prog 40 [vP a1 a2, vP b1 b2, vP x y] (vI (crR (a1 - x) (a2 - y) (b1 - x) (b2 - y))) := by
  have T1 := p_Turn (o1 := a1) (o2 := a2) (a1 := b1) (a2 := b2) (b1 := x) (b2 := y)
  have q1 := crV_rel ho ha hb
  have p0 := sgn4_pos (n := crV a1 a2 b1 b2 x y)
  have n0 := sgn4_neg (n := crV a1 a2 b1 b2 x y)
  rw [q1] at T1 p0 n0
  clear q1 ho ha hb
  generalize ht : sgn4 (dtR (a1 - x) (a2 - y) (b1 - x) (b2 - y)) = t at T1 p0 n0
  have cs : ∃ c, crR (a1 - x) (a2 - y) (b1 - x) (b2 - y) = c ∧ ((a2 ≤ y ∧ y < b2 ∧ t > 0 ∧ c = 1) ∨ (a2 ≤ y ∧ y < b2 ∧ ¬ t > 0 ∧ ¬ b2 ≤ y ∧ c = 0) ∨ (a2 ≤ y ∧ ¬ y < b2 ∧ b2 ≤ y ∧ ¬ y < a2 ∧ c = 0) ∨ (¬ a2 ≤ y ∧ b2 ≤ y ∧ y < a2 ∧ t < 0 ∧ c = -1) ∨ (¬ a2 ≤ y ∧ b2 ≤ y ∧ y < a2 ∧ ¬ t < 0 ∧ c = 0) ∨ (¬ a2 ≤ y ∧ ¬ b2 ≤ y ∧ c = 0)) := by
    refine ⟨_, rfl, ?_⟩
    unfold crR
    generalize dtR (a1 - x) (a2 - y) (b1 - x) (b2 - y) = d at p0 n0
    clear ht T1
    by_cases h1 : a2 ≤ y
    · by_cases h2 : y < b2
      · by_cases h3 : t > 0
        · exact .inl ⟨h1, h2, h3, by rw [if_pos (by omega)]⟩
        · exact .inr (.inl ⟨h1, h2, h3, by omega, by rw [if_neg (by omega), if_neg (by omega)]⟩)
      · exact .inr (.inr (.inl ⟨h1, h2, by omega, by omega, by rw [if_neg (by omega), if_neg (by omega)]⟩))
    · by_cases h2 : b2 ≤ y
      · by_cases h3 : t < 0
        · exact .inr (.inr (.inr (.inl ⟨h1, h2, by omega, h3, by rw [if_neg (by omega), if_pos (by omega)]⟩)))
        · exact .inr (.inr (.inr (.inr (.inl ⟨h1, h2, by omega, h3, by rw [if_neg (by omega), if_neg (by omega)]⟩))))
      · exact .inr (.inr (.inr (.inr (.inr ⟨h1, h2, by rw [if_neg (by omega), if_neg (by omega)]⟩))))
  obtain ⟨c, e, cs⟩ := cs
  rw [e]
  clear e ht p0 n0
  rcases cs with ⟨h1, h2, h3, rfl⟩ | ⟨h1, h2, h3, h4, rfl⟩ | ⟨h1, h2, h3, h4, rfl⟩ | ⟨h1, h2, h3, h4, rfl⟩ | ⟨h1, h2, h3, h4, rfl⟩ | ⟨h1, h2, rfl⟩
  all_goals
    refine pcall_body (f := 40) Try.func40 rfl rfl rfl rfl ?_
    (repeat (first | ((with_reducible apply al_q); exact rfl) | (refine al_call3 rfl rfl rfl rfl rfl (by (first | exact T1)) rfl ?_) | ((with_reducible apply al_guard_b (c := true)); exact rfl; exact rfl; (first | assumption | exact decide_eq_true (by omega) | (simp only [Bool.not_eq_true', decide_eq_false_iff_not, decide_eq_true_eq, Bool.not_eq_false']; (first | done | omega)))) | ((with_reducible apply al_guard_b (c := false)); exact rfl; exact rfl; (first | assumption | exact decide_eq_false (by omega) | (simp only [Bool.not_eq_true', decide_eq_false_iff_not, decide_eq_true_eq, Bool.not_eq_false']; (first | done | omega)))) | ((with_reducible apply awp_seq)) | ((with_reducible apply athen_normal)) | ((with_reducible apply awp_region)) | ((with_reducible apply al_nil)) | ((with_reducible apply awp_ret)) | ((with_reducible apply awp_skip)) | ((with_reducible apply athen_ret)) | ((with_reducible apply awp_block)) | ((with_reducible apply ablock_normal)) | ((with_reducible apply ablock_ret)) | ((with_reducible apply awp_cond_f); exact rfl) | ((with_reducible apply awp_cond_1); exact rfl; (first | assumption | exact decide_eq_true (by omega) | (simp only [Bool.not_eq_true', decide_eq_false_iff_not, decide_eq_true_eq, Bool.not_eq_false']; (first | done | omega)))) | ((with_reducible apply awp_cond_0); exact rfl; (first | assumption | exact decide_eq_false (by omega) | (simp only [Bool.not_eq_true', decide_eq_false_iff_not, decide_eq_true_eq, Bool.not_eq_false']; (first | done | omega))))))
    (first | (refine apost_ret rfl (resl_tmp rfl resl_nil) ?_))
    exact AV.Le.refl _
end Go.Proofs.Ytlfkllmnekdghaa

namespace Go.Proofs.Ytlfkllmnekdghaa
open Go.RowKit
set_option linter.unusedVariables false
set_option linter.unusedSimpArgs false
def ptB (p : Pt) : Bool := rB p.1 p.2 && rB (2 * p.1) (2 * p.2)
theorem edgM_fst (l : List Pt) : (edgM l).map Prod.fst = l := by
  unfold edgM
  exact List.map_fst_zip (by simp only [List.length_append, List.length_drop, List.length_take]; omega)
theorem edgM_ends {l : List Pt} {e : Pt × Pt} (h : e ∈ edgM l) : e.1 ∈ l ∧ e.2 ∈ l := by
  obtain ⟨a, b⟩ := e
  obtain ⟨h1, h2⟩ := List.of_mem_zip h
  refine ⟨h1, ?_⟩
  rcases List.mem_append.1 h2 with h2 | h2
  · exact List.mem_of_mem_drop h2
  · exact List.mem_of_mem_take h2
theorem edgsM_rt {L : List (List Pt)} : (edgsM L).all rtE = L.all fun r => r.all ptB := by
  induction L with
  | nil => rfl
  | cons r L ih =>
    have e : edgsM (r :: L) = edgM r ++ edgsM L := by simp [edgsM]
    rw [e, List.all_append, ih, List.all_cons]
    congr 1
    conv => rhs; rw [← edgM_fst r, List.all_map]
    rfl
theorem rt_ends {L : List (List Pt)} (h : (edgsM L).all rtE = true) {e : Pt × Pt} (he : e ∈ edgsM L) : ptB e.1 = true ∧ ptB e.2 = true := by
  rw [edgsM_rt, List.all_eq_true] at h
  obtain ⟨r, hr, her⟩ := List.mem_flatMap.1 he
  have h1 := List.all_eq_true.1 (h r hr)
  obtain ⟨q1, q2⟩ := edgM_ends her
  exact ⟨h1 _ q1, h1 _ q2⟩
theorem crR_bd (u1 u2 v1 v2 : Int) : -1 ≤ crR u1 u2 v1 v2 ∧ crR u1 u2 v1 v2 ≤ 1 := by unfold crR; repeat' split <;> omega
theorem wndR_bd {x y : Int} : ∀ (E : List (Pt × Pt)), -(E.length : Int) ≤ wndE crR x y E ∧ wndE crR x y E ≤ E.length
  | [] => ⟨by simp [wndE], by simp [wndE]⟩
  | e :: E => by
    have ih := wndR_bd (x := x) (y := y) E
    have h := crR_bd (2 * e.1.1 - x) (2 * e.1.2 - y) (2 * e.2.1 - x) (2 * e.2.2 - y)
    have e1 : wndE crR x y (e :: E) = relR crR x y e + wndE crR x y E := by simp [wndE]
    rw [e1]
    unfold relR
    simp only [List.length_cons, Int.natCast_add]
    omega
/-- as Wind tells it. -/
def wndL (x y : Int) (E : List (Pt × Pt)) : Int × Bool := if (rB x y && E.all rtE) = true then wndV x y E else (0, false)
def WdI (E : List (Pt × Pt)) (x y : Int) (i : Nat) (R : Rws) (css : List (List AC)) : Prop := ∃ c : Int, R = noRows ∧ css = [[.c (.int .i64 c)], [.c (.bool false)], [.c (.int .i64 x), .c (.int .i64 y)]] ∧ c = wndE crR x y (E.take i) ∧ anyE x y (E.take i) = false
def WdX (E : List (Pt × Pt)) (x y : Int) (e : Exit) (R : Rws) (css : List (List AC)) : Prop := e = .ret ∧ R = noRows ∧ css = [[.c (.int .i64 0)], [.c (.bool true)], [.c (.int .i64 x), .c (.int .i64 y)]] ∧ anyE x y E = true
set_option maxRecDepth 100000 in
set_option maxHeartbeats 8000000 in
theorem p_Wind11L {L : List (List Pt)} {x y : Int} (hL : L.length ≤ 4611686018427387904) (hr : ∀ r ∈ L, r.length ≤ 4611686018427387904) (hM : (edgsM L).length ≤ 4611686018427387904) :
    PCall Try.prog 19 [.w (.one (ringsA L)), vI x, vI y] (vWnd (wndL x y (edgsM L)).1 (wndL x y (edgsM L)).2) := by
  have S1 := p_around11 L
  have Q1 := iseq_around (L := L) hL hr
  have A1 := p_areRight hL hr
  cases hxy : rB x y with
  | false =>
    have e : wndL x y (edgsM L) = (0, false) := by unfold wndL; rw [hxy]; rfl
    rw [e]
    have R0 := p_pRight hxy
    clear e hxy
    refine pcall_bodyR (f := 19) Try.func19 rfl rfl rfl rfl ?_
    (repeat (first | ((with_reducible apply rwt_seq)) | ((with_reducible apply rwt_region)) | ((with_reducible apply rwt_ret)) | ((with_reducible apply rthen_normal)) | ((with_reducible apply hs_nil)) | ((with_reducible apply rthen_ret)) | ((with_reducible apply hs_c); exact rfl; (repeat (first | ((with_reducible apply al_q); exact rfl) | (refine al_call1 rfl rfl rfl (by (first | exact R0 | exact A1)) rfl ?_))); (with_reducible apply al_nil)) | ((with_reducible apply rwt_cond_1); exact rfl; (first | assumption | exact decide_eq_true (by omega) | (simp only [Bool.not_eq_true', decide_eq_false_iff_not, decide_eq_true_eq, Bool.not_eq_false']; (first | done | omega)) | exact rfl))))
    (first | (refine apost_ret rfl (resl_agg rfl rfl rfl (resl_agg rfl rfl rfl resl_nil)) ?_) | (refine apost_ret rfl (resl_one rfl rfl rfl (resl_agg rfl rfl rfl resl_nil)) ?_) | (refine apost_ret rfl (resl_agg rfl rfl rfl (resl_one rfl rfl rfl resl_nil)) ?_) | (refine apost_ret rfl (resl_one rfl rfl rfl (resl_one rfl rfl rfl resl_nil)) ?_))
    exact AV.Le.refl _
  | true =>
    have R0 := p_pRight hxy
    cases hrt : (edgsM L).all rtE with
    | false =>
      have e : wndL x y (edgsM L) = (0, false) := by unfold wndL; rw [hrt, Bool.and_false]; rfl
      rw [e]
      rw [hrt] at A1
      clear e hrt hxy
      refine pcall_bodyR (f := 19) Try.func19 rfl rfl rfl rfl ?_
      (repeat (first | ((with_reducible apply rwt_seq)) | ((with_reducible apply rwt_region)) | ((with_reducible apply rwt_ret)) | ((with_reducible apply rthen_normal)) | ((with_reducible apply hs_nil)) | ((with_reducible apply rthen_ret)) | ((with_reducible apply hs_c); exact rfl; (repeat (first | ((with_reducible apply al_q); exact rfl) | (refine al_call1 rfl rfl rfl (by (first | exact R0 | exact A1)) rfl ?_))); (with_reducible apply al_nil)) | ((with_reducible apply rwt_cond_1); exact rfl; (first | assumption | exact decide_eq_true (by omega) | (simp only [Bool.not_eq_true', decide_eq_false_iff_not, decide_eq_true_eq, Bool.not_eq_false']; (first | done | omega)) | exact rfl))))
      (first | (refine apost_ret rfl (resl_agg rfl rfl rfl (resl_agg rfl rfl rfl resl_nil)) ?_) | (refine apost_ret rfl (resl_one rfl rfl rfl (resl_agg rfl rfl rfl resl_nil)) ?_) | (refine apost_ret rfl (resl_agg rfl rfl rfl (resl_one rfl rfl rfl resl_nil)) ?_) | (refine apost_ret rfl (resl_one rfl rfl rfl (resl_one rfl rfl rfl resl_nil)) ?_))
      exact AV.Le.refl _
    | true =>
      have e : wndL x y (edgsM L) = wndV x y (edgsM L) := by unfold wndL; rw [hrt, hxy]; rfl
      rw [e]
      rw [hrt] at A1
      clear e
      have hends : ∀ e ∈ edgsM L, ptB e.1 = true ∧ ptB e.2 = true := fun e he => rt_ends hrt he
      clear hrt
      refine pcall_bodyR (f := 19) Try.func19 rfl rfl rfl rfl ?_
      (repeat (first | ((with_reducible apply rwt_seq)) | ((with_reducible apply rwt_region)) | ((with_reducible apply rwt_skip)) | ((with_reducible apply rwt_block)) | ((with_reducible apply rthen_normal)) | ((with_reducible apply hs_nil)) | ((with_reducible apply hs_c); exact rfl; (repeat (first | ((with_reducible apply al_q); exact rfl) | (refine al_call1 rfl rfl rfl (by (first | exact R0 | exact A1 | exact S1)) rfl ?_))); (with_reducible apply al_nil)) | ((with_reducible apply rwt_cond_0); exact rfl; (first | assumption | exact decide_eq_false (by omega) | (simp only [Bool.not_eq_true', decide_eq_false_iff_not, decide_eq_true_eq, Bool.not_eq_false']; (first | done | omega)) | exact rfl))))
      refine rwt_ren (swp 6 1006) (swp_swp _ _) ?_
      refine rwt_ren (swp 7 1007) (swp_swp _ _) ?_
      refine rwt_ren (swp 8 1008) (swp_swp _ _) ?_
      refine rwt_range 41 [(6, vOw11 1006), (7, vOw11 1007), (8, vOw11 1008)] [1006, 1007, 1008] [[.c (.int .i64 0)], [.c (.bool false)], [.c (.int .i64 x), .c (.int .i64 y)]] noRows (WdI (edgsM L) x y) (WdX (edgsM L) x y) rfl Q1 (by decide) vEd_hxs ?hp rfl ⟨rfl, rfl, rfl, trivial⟩ ⟨rfl, rfl, rfl, trivial⟩ (by decide) rfl rfl ⟨0, rfl, rfl, rfl, rfl⟩ (RLe.refl _) (fun i r h => by cases h) ?round ?done ?stop
      case hp =>
        intro p hp
        simp only [List.mem_cons, List.not_mem_nil, or_false] at hp
        rcases hp with rfl | rfl <;> exact ⟨by decide, rfl⟩
      case round =>
        rintro i z R css hx ⟨c, rfl, rfl, hc, hany⟩ hok
        rw [List.getElem?_map] at hx
        obtain ⟨⟨⟨x1, y1⟩, x2, y2⟩, he, rfl⟩ := Option.map_eq_some_iff.1 hx
        clear hx hok
        have hi := (List.getElem?_eq_some_iff.1 he).1
        obtain ⟨m1, m2⟩ := hends _ (List.mem_of_getElem? he)
        unfold ptB at m1 m2
        rw [Bool.and_eq_true] at m1 m2
        obtain ⟨m1, k1⟩ := m1
        obtain ⟨m2, k2⟩ := m2
        have T1 := p_twiceL m1
        have T2 := p_twiceL m2
        have O1 := p_On (p1 := x) (p2 := y) (a1 := 2 * x1) (a2 := 2 * y1) (b1 := 2 * x2) (b2 := 2 * y2) rfl
        rw [onB_rel hxy k1 k2] at O1
        have P1 := p_passes hxy k1 k2
        have hbd := wndR_bd (x := x) (y := y) ((edgsM L).take i)
        have hb1 := crR_bd (2 * x1 - x) (2 * y1 - y) (2 * x2 - x) (2 * y2 - y)
        have htl : ((edgsM L).take i).length = i := by rw [List.length_take]; omega
        rw [htl, ← hc] at hbd
        have hone := take_one he
        have ho : anyE x y ((edgsM L).take (i + 1)) = onR (2 * x1 - x) (2 * y1 - y) (2 * x2 - x) (2 * y2 - y) := by rw [hone, anyE_one, hany, Bool.false_or]; rfl
        have hw : wndE crR x y ((edgsM L).take (i + 1)) = c + crR (2 * x1 - x) (2 * y1 - y) (2 * x2 - x) (2 * y2 - y) := by rw [hone, wndE_one, ← hc]; rfl
        cases hon : onR (2 * x1 - x) (2 * y1 - y) (2 * x2 - x) (2 * y2 - y) with
        | true =>
          have hX : anyE x y (edgsM L) = true := anyE_take he hon
          rw [hon] at O1
          clear hone ho hw hany hc he hon hends hxy m1 m2 k1 k2
          (repeat (first | ((with_reducible apply hs_nilS); kernel_rfl) | ((with_reducible apply rwp_draw (id := 7) [0,1,2,3,4,5]); kernel_rfl; kernel_rfl; exact rfl) | ((with_reducible apply rwp_seq)) | ((with_reducible apply rthen_normal)) | ((with_reducible apply rwp_region)) | ((with_reducible apply hs_nil)) | ((with_reducible apply rwp_ret)) | ((with_reducible apply rthen_ret)) | ((with_reducible apply rwp_block)) | ((with_reducible apply rblock_ret)) | ((with_reducible apply rwp_cond_1); exact rfl; (first | assumption | exact decide_eq_true (by omega) | (simp only [Bool.not_eq_true', decide_eq_false_iff_not, decide_eq_true_eq, Bool.not_eq_false']; (first | done | omega)) | exact rfl)) | ((with_reducible apply hs_c); exact rfl; (repeat (first | ((with_reducible apply al_q); exact rfl) | (refine al_call1 rfl rfl rfl (by (first | exact T1 | exact T2 | exact O1 | exact P1)) rfl ?_) | (refine al_call3 rfl rfl rfl rfl rfl (by (first | exact T1 | exact T2 | exact O1 | exact P1)) rfl ?_))); (with_reducible apply al_nil))))
          exact ⟨_, [[.c (.int .i64 0)], [.c (.bool true)], [.c (.int .i64 x), .c (.int .i64 y)]], ⟨rfl, rfl, rfl, hX⟩, RLe.refl _, (fun i r h => by cases h), rfl, ⟨rfl, rfl, rfl, trivial⟩, rfl⟩
        | false =>
          rw [hon] at O1 ho
          generalize crR (2 * x1 - x) (2 * y1 - y) (2 * x2 - x) (2 * y2 - y) = d at P1 hb1 hw
          clear hone hany hc he hon hends hxy m1 m2 k1 k2
          (repeat (first | ((with_reducible apply hs_nilS); kernel_rfl) | ((with_reducible apply rwp_draw (id := 7) [0,1,2,3,4,5]); kernel_rfl; kernel_rfl; exact rfl) | ((with_reducible apply rwp_draw (id := 10) [0,1,2,3,4,5,6]); kernel_rfl; kernel_rfl; exact rfl) | ((with_reducible apply rwp_seq)) | ((with_reducible apply rthen_normal)) | ((with_reducible apply rwp_region)) | ((with_reducible apply hs_nil)) | ((with_reducible apply rwp_skip)) | ((with_reducible apply rwp_block)) | ((with_reducible apply rblock_normal)) | ((with_reducible apply rwp_cond_0); exact rfl; (first | assumption | exact decide_eq_false (by omega) | (simp only [Bool.not_eq_true', decide_eq_false_iff_not, decide_eq_true_eq, Bool.not_eq_false']; (first | done | omega)) | exact rfl)) | ((with_reducible apply hs_c); exact rfl; (repeat (first | ((with_reducible apply al_q); exact rfl) | ((with_reducible apply al_add); (iterate 3 exact rfl); (first | exact i64_wrap (by omega) | assumption | rfl); exact rfl) | (refine al_call1 rfl rfl rfl (by (first | exact T1 | exact T2 | exact O1 | exact P1)) rfl ?_) | (refine al_call3 rfl rfl rfl rfl rfl (by (first | exact T1 | exact T2 | exact O1 | exact P1)) rfl ?_))); (with_reducible apply al_nil))))
          exact ⟨_, [[.c (.int .i64 (c + d))], [.c (.bool false)], [.c (.int .i64 x), .c (.int .i64 y)]], ⟨_, rfl, rfl, hw.symm, ho⟩, RLe.refl _, (fun i r h => by cases h), rfl, ⟨rfl, rfl, rfl, trivial⟩, rfl⟩
      case done =>
        rintro R css ⟨c, rfl, rfl, hc, hany⟩ hok
        clear hok
        rw [List.length_map, List.take_length] at hc hany
        have e : wndV x y (edgsM L) = (c, false) := by
          unfold wndV
          rw [hany, if_neg (by simp), hc]
          have := wnd_rings (f := crR) (f' := cuR) (g := q1R) (fun _ _ _ _ h => crR_cuR h) (L := L) hany
          rw [show edgsM L = L.flatMap edgM from rfl, this]
        rw [e]
        (repeat (first | ((with_reducible apply rwt_seq)) | ((with_reducible apply rwt_region)) | ((with_reducible apply rwt_ret)) | ((with_reducible apply rthen_normal)) | ((with_reducible apply hs_nil)) | ((with_reducible apply rblock_normal)) | ((with_reducible apply hs_c); exact rfl; (repeat (first | ((with_reducible apply al_q); exact rfl))); (with_reducible apply al_nil))))
        (first | (refine apost_ret rfl (resl_agg rfl rfl rfl (resl_agg rfl rfl rfl resl_nil)) ?_) | (refine apost_ret rfl (resl_one rfl rfl rfl (resl_agg rfl rfl rfl resl_nil)) ?_) | (refine apost_ret rfl (resl_agg rfl rfl rfl (resl_one rfl rfl rfl resl_nil)) ?_) | (refine apost_ret rfl (resl_one rfl rfl rfl (resl_one rfl rfl rfl resl_nil)) ?_))
        exact AV.Le.refl _
      case stop =>
        rintro e c R css he ⟨rfl, rfl, rfl, hX⟩ hok
        clear hok he
        have e : wndV x y (edgsM L) = (0, true) := by unfold wndV; rw [if_pos hX]
        rw [e]
        (repeat (first | ((with_reducible apply rthen_ret)) | ((with_reducible apply rblock_ret))))
        (first | (refine apost_ret rfl (resl_agg rfl rfl rfl (resl_agg rfl rfl rfl resl_nil)) ?_) | (refine apost_ret rfl (resl_one rfl rfl rfl (resl_agg rfl rfl rfl resl_nil)) ?_) | (refine apost_ret rfl (resl_agg rfl rfl rfl (resl_one rfl rfl rfl resl_nil)) ?_) | (refine apost_ret rfl (resl_one rfl rfl rfl (resl_one rfl rfl rfl resl_nil)) ?_))
        exact AV.Le.refl _
end Go.Proofs.Ytlfkllmnekdghaa

namespace Go.Proofs.Ytlfkllmnekdghaa
open Go.RowKit
set_option linter.unusedVariables false
set_option linter.unusedSimpArgs false
/-- a bool of which this is known. -/
def BlP (Φ : Bool → Prop) : SP where
  holds w v := ∃ b, v = .bool b ∧ Φ b
  foot w v b := False
  frame w w' v := fun h hf => ⟨h, fun b hb => hb⟩
  old w v b := fun h hf => hf.elim
  cell w v := by rintro ⟨b, rfl, _⟩; rfl
abbrev vBl (Φ : Bool → Prop) : AV := .w (.one (.p (BlP Φ)))
section
variable {P : Program} {ops : Array Oper} {K : AS → Prop} {rest : List Oper} {s : AS} {d ty : Nat} {pos : String} {after : Array Edge} {guard : Option (Nat × Bool)}
theorem guard_sl {op : BinOp} {t : TypeId} {x y : Operand} {a : Option Addr} {n c : Nat} {v : Value} : eqGuard op t x y (.slice a n c) v = pure () := by cases op <;> rfl
theorem al_eqnilS {t yt sz n e bytes : Nat} {x : Operand} {xs : List AC} [T : RowTy P t e sz bytes] (hw : want ops ⟨some d, .binOp .eql t x (.const (.slice none 0 0)) yt, ty, pos, after, guard⟩ s = some true) (hx : s.look x = some (vS sz n xs)) (hd : Nat.blt d s.n = true) (h : aList P ops K rest (s.put (some d) (vBl fun b => b = true → n = 0))) : aList P ops K (⟨some d, .binOp .eql t x (.const (.slice none 0 0)) yt, ty, pos, after, guard⟩ :: rest) s := by
  obtain ⟨_, _, hu, _⟩ := rowTy_spec T.h
  refine al_quiet (av := vBl fun b => b = true → n = 0) hw ⟨fun _ _ h => (by cases h), fun z hz => ?_, fun U ρ W env he => ?_, fun j hj => absurd hj (noownp _ j)⟩ hd h
  · simp [Op.operands] at hz
    rcases hz with rfl | rfl
    · exact ⟨_, hx⟩
    · exact ⟨_, rfl⟩
  · obtain ⟨⟨A, c, hv, _, _, hA⟩, _⟩ := he x (by simp [Op.operands]) _ hx
    have e2 : env (.const (.slice none 0 0)) = .slice none 0 0 := (he (.const (.slice none 0 0)) (by simp [Op.operands]) _ rfl).1
    refine ⟨.bool A.isNone, ?_, ⟨_, rfl, fun hb => ?_⟩, fun b hb => hb.elim⟩
    · simp only [execOp, hv, e2, guard_sl, Sem.run_bind, Sem.run_pure, Result.andThen_ok, Lib.run_eql_slice_nil W t e A n c 0 0 hu]
    · refine Classical.byContradiction fun hn => ?_
      obtain ⟨a, _, e, _⟩ := hA (by omega)
      rw [e] at hb; cases hb
end
section
variable {P : Program} {c : Code} {s : AS}
theorem Rel.tellB {B : Base} {A : Nat → Prop} {ρ : Nat → Nat} {a : Act} {w : World} {d : Nat} {Φ : Bool → Prop} (h : Rel B A s ρ a w) (hd : s.tmps d = some (vBl Φ)) : ∃ b, Φ b ∧ Rel B A (s.put (some d) (vB b)) ρ a w := by
  obtain ⟨v, h1, ⟨b, rfl, hb⟩, _⟩ := h.tm d _ hd
  refine ⟨b, hb, h.retell hd fun u hu _ => ?_⟩
  rw [h1] at hu
  cases hu
  exact ⟨rfl, rfl⟩
theorem awp_tellB (d : Nat) {Q : Exit → AS → Prop} {Φ : Bool → Prop} (hd : s.tmps d = some (vBl Φ)) (h : ∀ b, Φ b → AWp P c Q (s.put (some d) (vB b))) : AWp P c Q s := by
  intro ok B A ρ a w hR
  obtain ⟨b, hb, hR'⟩ := hR.tellB hd
  exact h b hb (ok.put fun j hj => absurd hj (noown _ j)) B A ρ a w hR'
theorem rwp_tellB (d : Nat) {Q : Exit → Rws → AS → Prop} {R : Rws} {Φ : Bool → Prop} (hd : s.tmps d = some (vBl Φ)) (h : ∀ b, Φ b → RWp P c Q R (s.put (some d) (vB b))) : RWp P c Q R s := by
  intro ok B0 A0 a w ⟨A, ρ, hR⟩
  obtain ⟨b, hb, hR'⟩ := hR.rel.tellB hd
  exact h b hb (ok.put fun j hj => absurd hj (noown _ j)) B0 A0 a w ⟨A, ρ, hR.next hR'⟩
end
end Go.Proofs.Ytlfkllmnekdghaa

namespace Go.Proofs.Ytlfkllmnekdghaa
open Go.RowKit
set_option linter.unusedVariables false
set_option linter.unusedSimpArgs false
instance iInpU_1 : RowTy Try.prog 22 45 1 24 := ⟨by kernel_rfl⟩
/-- the same numbers, and rings? -/
def smB (A B : List (List Pt)) (op fill rung cap : Int) (A' B' : List (List Pt)) (op' fill' rung' cap' : Int) : Bool := decide (op = op' ∧ fill = fill' ∧ rung = rung' ∧ cap = cap' ∧ A = A' ∧ B = B')
def SmI (X Y : List (List Pt)) (n : Nat) (ts : List (Nat × AV)) (ms : List (Nat × List AC)) : Prop :=
  ∃ (k : Nat) (ki : Int), k ≤ X.length ∧ n = X.length - k ∧ ki = k ∧ X.take k = Y.take k ∧ ms = [] ∧ ts = [(5, .w (.one (ringsA X))), (6, .w (.one (ringsA Y))), (7, vI ki)]
def SnI (X Y : List (List Pt)) (r s : List Pt) (ki : Int) (n : Nat) (ts : List (Nat × AV)) (ms : List (Nat × List AC)) : Prop :=
  ∃ (i : Nat) (ii : Int), i ≤ r.length ∧ n = r.length - i ∧ ii = i ∧ r.take i = s.take i ∧ ms = [] ∧ ts = [(5, .w (.one (ringsA X))), (6, .w (.one (ringsA Y))), (7, vI ki), (8, vI ii)]
theorem ringsC_cl (L : List (List Pt)) : (L.map ringA).all AC.closedB = true := by
  rw [List.all_eq_true]
  intro x hx
  obtain ⟨r, _, rfl⟩ := List.mem_map.1 hx
  rfl
end Go.Proofs.Ytlfkllmnekdghaa

namespace Go.Proofs.Ytlfkllmnekdghaa
open Go.RowKit
set_option linter.unusedVariables false
set_option linter.unusedSimpArgs false
instance iInpI_1 : RowTy Try.prog 45 37 2 16 := ⟨by kernel_rfl⟩
instance iInpI_2 : RowTy Try.prog 22 45 1 24 := ⟨by kernel_rfl⟩
set_option maxRecDepth 100000 in
set_option maxHeartbeats 8000000 in
/-- a copy of a ring. -/
theorem p_cloneP {r : List Pt} (hr : r.length ≤ 900000) : PCall Try.prog 50 [.w (.one (ringA r))] (.w (.one (ringA r))) := by
  refine pcall_body (f := 50) Try.func50 rfl rfl rfl rfl ?_
  (repeat (first | ((with_reducible apply al_q); exact rfl) | ((with_reducible apply al_eqnilS); (iterate 3 exact rfl)) | ((with_reducible apply awp_seq)) | ((with_reducible apply athen_normal)) | ((with_reducible apply awp_region)) | ((with_reducible apply al_nil))))
  refine awp_tellB 4 rfl ?_
  intro b hb
  cases b with
  | true =>
    have h0 := List.eq_nil_of_length_eq_zero (hb rfl)
    subst h0
    clear hb
    (repeat (first | ((with_reducible apply al_q); exact rfl) | ((with_reducible apply awp_seq)) | ((with_reducible apply athen_normal)) | ((with_reducible apply awp_region)) | ((with_reducible apply al_nil)) | ((with_reducible apply awp_ret)) | ((with_reducible apply athen_ret)) | ((with_reducible apply awp_cond_t); exact rfl)))
    (first | (refine apost_ret rfl (resl_tmp rfl resl_nil) ?_))
    exact nilS_le 2
  | false =>
    clear hb
    have z0 : 0 + r.length = r.length := Nat.zero_add _
    (repeat (first | ((with_reducible apply al_q); exact rfl) | ((with_reducible apply al_new0F); exact rfl; exact rfl) | ((with_reducible apply al_appF); (iterate 3 exact rfl); (first | exact le_maxLen (by omega) | assumption); (first | assumption | omega); (first | assumption | rfl); (first | assumption | rfl); exact rfl) | ((with_reducible apply awp_seq)) | ((with_reducible apply athen_normal)) | ((with_reducible apply awp_region)) | ((with_reducible apply al_nil)) | ((with_reducible apply awp_ret)) | ((with_reducible apply awp_skip)) | ((with_reducible apply awp_cond_f); exact rfl)))
    (first | (refine apost_ret rfl (resl_tmp rfl resl_nil) ?_))
    exact AV.Le.refl _
set_option maxRecDepth 100000 in
set_option maxHeartbeats 8000000 in
theorem a_cloneR {n : Nat} {xs : List AC} (hn : n ≤ 900000) (hc : xs.all AC.closedB = true) (hx : xs.length = n) : ACall Try.prog 49 [vS 1 n xs] fun v q => ∃ v', v = vC v' ∧ q = ⟨45, 1, v', n, xs⟩ := by
  refine acall_of rfl (fun v q h => by obtain ⟨v', rfl, _⟩ := h; rfl) ?_
  refine hcall_of_body (f := 49) Try.func49 rfl (Nat.le_of_ble_eq_true rfl) (by first | exact big0 | exact big1 rfl) ?_
  (repeat (first | ((with_reducible apply rwp_seq)) | ((with_reducible apply rthen_normal)) | ((with_reducible apply rwp_region)) | ((with_reducible apply hs_nil)) | ((with_reducible apply hs_c); exact rfl; (repeat (first | ((with_reducible apply al_q); exact rfl) | ((with_reducible apply al_eqnilS); (iterate 3 exact rfl)))); (with_reducible apply al_nil))))
  refine rwp_tellB 4 rfl ?_
  intro b hb
  cases b with
  | true =>
    have h0 := hb rfl
    subst h0
    have h1 := List.eq_nil_of_length_eq_zero hx
    subst h1
    clear hb
    refine rwp_nil 0 45 1 rfl ?_
    (repeat (first | ((with_reducible apply rwp_seq)) | ((with_reducible apply rthen_normal)) | ((with_reducible apply rwp_region)) | ((with_reducible apply hs_nil)) | ((with_reducible apply rwp_ret)) | ((with_reducible apply rthen_ret)) | ((with_reducible apply rwp_cond_1); exact rfl; (first | assumption | exact decide_eq_true (by omega) | (simp only [Bool.not_eq_true', decide_eq_false_iff_not, decide_eq_true_eq, Bool.not_eq_false']; (first | done | omega)) | exact rfl)) | ((with_reducible apply hs_c); exact rfl; (repeat (first | ((with_reducible apply al_q); exact rfl))); (with_reducible apply al_nil))))
    (first | (refine hfin_a rfl (resl_tmp rfl resl_nil) rfl rfl (Nat.zero_lt_succ _) ?_))
    exact ⟨.slice none 0 0, rfl, rfl⟩
  | false =>
    clear hb
    (repeat (first | ((with_reducible apply rwp_seq)) | ((with_reducible apply rthen_normal)) | ((with_reducible apply rwp_region)) | ((with_reducible apply rwp_skip)) | ((with_reducible apply rwp_cond_0); exact rfl; (first | assumption | exact decide_eq_false (by omega) | (simp only [Bool.not_eq_true', decide_eq_false_iff_not, decide_eq_true_eq, Bool.not_eq_false']; (first | done | omega)) | exact rfl))))
    refine hs_new0 0 rfl rfl rfl rfl rfl (fun v0 hv0 => ?_)
    (repeat (first | ((with_reducible apply hs_c); exact rfl; (repeat (first | ((with_reducible apply al_q); exact rfl))); (with_reducible apply al_nil))))
    refine hs_app0 0 rfl rfl rfl rfl ?q1 ?q2 hc rfl (fun v1 hv1 => ?_)
    case q1 => exact le_maxLen (by show 0 + n ≤ 1000000; omega)
    case q2 => show (0 + n) * 24 ≤ 140737488355328; omega
    (repeat (first | ((with_reducible apply rthen_normal)) | ((with_reducible apply hs_nil)) | ((with_reducible apply rwp_ret)) | ((with_reducible apply hs_c); exact rfl; (repeat (first | ((with_reducible apply al_q); exact rfl))); (with_reducible apply al_nil))))
    (first | (refine hfin_a rfl (resl_tmp rfl resl_nil) rfl rfl (Nat.zero_lt_succ _) ?_))
    exact ⟨v1, rfl, by rw [List.nil_append, Nat.zero_add]⟩
theorem splice_same {xs : List AC} {i : Nat} {x : AC} (h : xs[i]? = some x) : splice xs i [x] = xs := by
  have hi := (List.getElem?_eq_some_iff.1 h).1
  have e := (List.getElem?_eq_some_iff.1 h).2
  unfold splice
  conv => rhs; rw [← List.take_append_drop i xs, List.drop_eq_getElem_cons hi, e]
  simp
def ClI (L : List (List Pt)) (v : Value) (k : Nat) (R : Rws) (ts : List (Nat × AV)) (ms : List (Nat × List AC)) : Prop :=
  ∃ (i : Nat) (ii : Int), i ≤ L.length ∧ k = L.length - i ∧ ii = i ∧ R = row1 0 ⟨45, 1, v, L.length, L.map ringA⟩ ∧ ms = [] ∧ ts = [(3, vC v), (8, vC v), (9, vI L.length), (10, vI ii)]
set_option maxRecDepth 100000 in
set_option maxHeartbeats 8000000 in
theorem p_cloneRings {L : List (List Pt)} (hL : L.length ≤ 900000) (hr : ∀ r ∈ L, r.length ≤ 900000) : PCall Try.prog 34 [.w (.one (ringsA L))] (.w (.one (ringsA L))) := by
  have A1 := a_cloneR (n := L.length) (xs := L.map ringA) hL (ringsC_cl L) (by simp)
  refine pcall_body (f := 34) Try.func34 rfl rfl rfl rfl ?_
  refine awp_rows ?_
  (repeat (first | ((with_reducible apply rwp_seq)) | ((with_reducible apply rthen_normal)) | ((with_reducible apply rwp_region)) | ((with_reducible apply hs_nil)) | ((with_reducible apply hs_c); exact rfl; (repeat (first | ((with_reducible apply al_q); exact rfl))); (with_reducible apply al_nil))))
  refine hs_a 0 rfl rfl rfl rfl A1 rfl rfl (fun rv q h => ?_)
  obtain ⟨v, rfl, rfl⟩ := h
  (repeat (first | ((with_reducible apply rwp_seq)) | ((with_reducible apply rthen_normal)) | ((with_reducible apply rwp_region)) | ((with_reducible apply hs_nil)) | ((with_reducible apply rwp_block)) | ((with_reducible apply hs_c); exact rfl; (repeat (first | ((with_reducible apply al_q); exact rfl))); (with_reducible apply al_nil)) | ((with_reducible apply hs_len 0); (iterate 4 exact rfl); kernel_rfl; exact rfl)))
  refine rwp_loopL 22 (ClI L v) L.length _ _ _ ⟨0, 0, Nat.zero_le _, rfl, rfl, rfl, rfl, rfl⟩ (RLe.refl _) rfl ⟨rfl, rfl, rfl, rfl, trivial⟩ trivial rfl ?_
  rintro n R ts ms ⟨j, jj, hj, rfl, hjj, rfl, rfl, rfl⟩ hok
  clear hok
  by_cases hp : j < L.length
  · have p2 : jj < (L.length : Int) := by omega
    have p3 : 0 ≤ jj := by omega
    have p4 : 0 < L.length := by omega
    obtain ⟨r, g1⟩ : ∃ r, L[j]? = some r := ⟨_, List.getElem?_eq_getElem hp⟩
    have C1 := p_cloneP (hr r (List.mem_of_getElem? g1))
    have e1 : jj.toNat * 1 = j := by omega
    have F1 : (L.map ringA)[jj.toNat * 1]? = some (ringA r) := by rw [e1, List.getElem?_map, g1]; rfl
    have hoff : jj.toNat * 1 + 1 ≤ (L.map ringA).length := by rw [e1, List.length_map]; omega
    (repeat (first | ((with_reducible apply rwp_seq)) | ((with_reducible apply rthen_normal)) | ((with_reducible apply rwp_region)) | ((with_reducible apply hs_nil)) | ((with_reducible apply rwp_skip)) | ((with_reducible apply rwp_block)) | ((with_reducible apply rwp_cond_1); exact rfl; (first | assumption | exact decide_eq_true (by omega) | (simp only [Bool.not_eq_true', decide_eq_false_iff_not, decide_eq_true_eq, Bool.not_eq_false']; (first | done | omega)) | exact rfl)) | ((with_reducible apply hs_c); exact rfl; (repeat (first | ((with_reducible apply al_q); exact rfl) | (refine al_call1 rfl rfl rfl (by (first | exact C1)) rfl ?_))); (with_reducible apply al_nil)) | ((with_reducible apply hs_idx 0); (iterate 4 exact rfl); (first | omega); (first | assumption | omega); exact rfl; kernel_rfl; exact rfl) | ((with_reducible apply hs_load1 0); (iterate 3 exact rfl); (first | assumption | omega); assumption; exact rfl; kernel_rfl; exact rfl)))
    refine hs_store 0 rfl rfl rfl rfl p4 rfl rfl hoff rfl ?_
    have e2 : splice (L.map ringA) (jj.toNat * 1) [ringA r] = L.map ringA := splice_same F1
    (repeat (first | ((with_reducible apply rthen_normal)) | ((with_reducible apply rwp_region)) | ((with_reducible apply hs_nil)) | ((with_reducible apply rblock_normal)) | ((with_reducible apply hs_c); exact rfl; (repeat (first | ((with_reducible apply al_q); exact rfl) | ((with_reducible apply al_add); (iterate 3 exact rfl); (first | exact i64_wrap (by omega) | assumption | rfl); exact rfl))); (with_reducible apply al_nil))))
    exact ⟨L.length - (j + 1), _, _, [], by omega, ⟨j + 1, jj + 1, hp, rfl, by omega, rfl, rfl, rfl⟩, fun k q hk => by obtain ⟨rfl, rfl⟩ := row1_iff hk; show some (⟨_, _, _, _, splice (L.map ringA) (jj.toNat * 1) [ringA r]⟩ : HRow) = some _; rw [e2], rfl, ⟨rfl, rfl, rfl, rfl, trivial⟩, trivial, rfl⟩
  · have e : j = L.length := by omega
    subst e
    refine rwp_cool 0 3 _ rfl rfl ?_
    (repeat (first | ((with_reducible apply rwp_seq)) | ((with_reducible apply rthen_normal)) | ((with_reducible apply rwp_region)) | ((with_reducible apply hs_nil)) | ((with_reducible apply rwp_ret)) | ((with_reducible apply rblock_same)) | ((with_reducible apply rwp_exit)) | ((with_reducible apply rthen_exit)) | ((with_reducible apply rwp_cond_0); exact rfl; (first | assumption | exact decide_eq_false (by omega) | (simp only [Bool.not_eq_true', decide_eq_false_iff_not, decide_eq_true_eq, Bool.not_eq_false']; (first | done | omega)) | exact rfl)) | ((with_reducible apply hs_c); exact rfl; (repeat (first | ((with_reducible apply al_q); exact rfl))); (with_reducible apply al_nil))))
    (first | (refine apost_ret rfl (resl_tmp rfl resl_nil) ?_))
    exact AV.Le.refl _
set_option maxRecDepth 100000 in
set_option maxHeartbeats 8000000 in
theorem p_Clone11 {A B : List (List Pt)} {op fill rung cap : Int} (hA : A.length ≤ 900000) (hB : B.length ≤ 900000) (hr : ∀ r ∈ A ++ B, r.length ≤ 900000) : PCall Try.prog 16 [.w (.agg (jobC A B op fill rung cap))] (.w (.agg (jobC A B op fill rung cap))) := by
  have C1 := p_cloneRings hA (fun r h => hr r (List.mem_append_left _ h))
  have C2 := p_cloneRings hB (fun r h => hr r (List.mem_append_right _ h))
  refine pcall_body (f := 16) Try.func16 rfl rfl rfl rfl ?_
  (repeat (first | ((with_reducible apply al_q); exact rfl) | (refine al_call1 rfl rfl rfl (by (first | exact C1 | exact C2)) rfl ?_) | ((with_reducible apply al_nilS); kernel_rfl) | ((with_reducible apply awp_region_draw); kernel_rfl; kernel_rfl; exact rfl) | ((with_reducible apply awp_seq)) | ((with_reducible apply athen_normal)) | ((with_reducible apply awp_region)) | ((with_reducible apply al_nil)) | ((with_reducible apply awp_ret))))
  (first | (refine apost_ret rfl (resl_agg rfl rfl rfl resl_nil) ?_) | (refine apost_ret rfl (resl_one rfl rfl rfl resl_nil) ?_))
  exact AV.Le.refl _
theorem ptsC_ringC : ∀ (l : List Pt), ptsC l = ringC l
  | [] => rfl
  | p :: l => by rw [show ringC (p :: l) = .c (.int .i64 p.1) :: .c (.int .i64 p.2) :: ringC l from rfl, ← ptsC_ringC l]; rfl
theorem p_Equal11 {r s : List Pt} (b2 : r.length ≤ 4611686018427387904) : PCall Try.prog 53 [.w (.one (ringA r)), .w (.one (ringA s))] (vB (decide (r = s))) := by
  have h := p_Equal (l := r) (m := s) (by omega)
  rw [show vPs r = .w (.one (ringA r)) from by unfold vPs ringA; rw [ptsC_ringC], show vPs s = .w (.one (ringA s)) from by unfold vPs ringA; rw [ptsC_ringC]] at h
  exact h
set_option maxRecDepth 100000 in
set_option maxHeartbeats 8000000 in
theorem p_sameRings1 {r s : List Pt} (b2 : r.length ≤ 4611686018427387904) : PCall Try.prog 52 [.w (.one (ringA r)), .w (.one (ringA s))] (vB (decide (r = s))) := by
  have C1 := p_Equal11 (s := s) b2
  refine pcall_body (f := 52) Try.func52 rfl rfl rfl rfl ?_
  (repeat (first | ((with_reducible apply al_q); exact rfl) | (refine al_call2 rfl rfl rfl rfl (by (first | exact C1)) rfl ?_) | ((with_reducible apply awp_seq)) | ((with_reducible apply athen_normal)) | ((with_reducible apply awp_region)) | ((with_reducible apply al_nil)) | ((with_reducible apply awp_ret))))
  (first | (refine apost_ret rfl (resl_tmp rfl resl_nil) ?_))
  exact AV.Le.refl _
def EfI (L M : List (List Pt)) (k : Nat) (ts : List (Nat × AV)) (ms : List (Nat × List AC)) : Prop :=
  ∃ (i : Nat) (ii : Int), i ≤ L.length ∧ k = L.length - i ∧ ii = i ∧ L.take i = M.take i ∧ ms = [] ∧ ts = [(1, .w (.one (ringsA M))), (2, vC (.func (.func 52) #[] #[])), (15, .w (.one (ringsA L))), (16, vI L.length), (17, vI ii)]
set_option maxRecDepth 100000 in
set_option maxHeartbeats 8000000 in
theorem p_EqualFunc {L M : List (List Pt)} (hL : L.length ≤ 4611686018427387904) (hM : M.length ≤ 4611686018427387904) (hr : ∀ r ∈ L, r.length ≤ 4611686018427387904) : PCall Try.prog 51 [.w (.one (ringsA L)), .w (.one (ringsA M)), vC (.func (.func 52) #[] #[])] (vB (decide (L = M))) := by
  by_cases hl : L.length = M.length
  · have hl' : (L.length : Int) = M.length := by omega
    refine pcall_body (f := 51) Try.func51 rfl rfl rfl rfl ?_
    (repeat (first | ((with_reducible apply al_q); exact rfl) | ((with_reducible apply al_len); (iterate 3 exact rfl)) | ((with_reducible apply awp_seq)) | ((with_reducible apply athen_normal)) | ((with_reducible apply awp_region)) | ((with_reducible apply al_nil)) | ((with_reducible apply awp_skip)) | ((with_reducible apply awp_block)) | ((with_reducible apply awp_cond_0); exact rfl; (first | assumption | exact decide_eq_false (by omega) | (simp only [Bool.not_eq_true', decide_eq_false_iff_not, decide_eq_true_eq, Bool.not_eq_false']; (first | done | omega))))))
    refine awp_loopL 32 (EfI L M) L.length _ [] ⟨0, 0, Nat.zero_le _, rfl, rfl, rfl, rfl, rfl⟩ rfl ⟨rfl, rfl, rfl, rfl, rfl, trivial⟩ trivial rfl ?_
    rintro n ts ms ⟨j, jj, hj, rfl, hjj, htk, rfl, rfl⟩ hok
    clear hok
    by_cases hp : j < L.length
    · have p2 : jj < (L.length : Int) := by omega
      have p3 : 0 ≤ jj := by omega
      have p4 : jj < (M.length : Int) := by omega
      obtain ⟨r, g1⟩ : ∃ r, L[j]? = some r := ⟨_, List.getElem?_eq_getElem hp⟩
      obtain ⟨s, g2⟩ : ∃ s, M[j]? = some s := ⟨_, List.getElem?_eq_getElem (by omega)⟩
      have F1 := ringsC_at hjj g1
      have F2 := ringsC_at hjj g2
      have C1 := p_sameRings1 (s := s) (hr r (List.mem_of_getElem? g1))
      by_cases he : r = s
      · have ht : L.take (j + 1) = M.take (j + 1) := by rw [take_one g1, take_one g2, htk, he]
        rw [decide_eq_true he] at C1
        (repeat (first | ((with_reducible apply al_q); exact rfl) | ((with_reducible apply al_loadP1); (iterate 5 exact rfl)) | ((with_reducible apply al_idxS); (iterate 3 exact rfl); (first | decide | omega); (first | decide | omega); (first | assumption | rfl); exact rfl) | ((with_reducible apply al_add); (iterate 3 exact rfl); (first | exact i64_wrap (by omega) | assumption | rfl); exact rfl) | (refine al_call2 rfl rfl rfl rfl (by (first | exact C1)) rfl ?_) | ((with_reducible apply awp_seq)) | ((with_reducible apply athen_normal)) | ((with_reducible apply awp_region)) | ((with_reducible apply al_nil)) | ((with_reducible apply awp_skip)) | ((with_reducible apply awp_block)) | ((with_reducible apply ablock_normal)) | ((with_reducible apply awp_cond_f); exact rfl) | ((with_reducible apply awp_cond_1); exact rfl; (first | assumption | exact decide_eq_true (by omega) | (simp only [Bool.not_eq_true', decide_eq_false_iff_not, decide_eq_true_eq, Bool.not_eq_false']; (first | done | omega))))))
        exact ⟨L.length - (j + 1), _, [], by omega, ⟨j + 1, jj + 1, hp, rfl, by omega, ht, rfl, rfl⟩, rfl, ⟨rfl, rfl, rfl, rfl, rfl, trivial⟩, trivial, rfl⟩
      · have hne : L ≠ M := fun e => by subst e; rw [g1] at g2; cases g2; exact he rfl
        rw [decide_eq_false he] at C1
        rw [decide_eq_false hne]
        (repeat (first | ((with_reducible apply al_q); exact rfl) | ((with_reducible apply al_loadP1); (iterate 5 exact rfl)) | ((with_reducible apply al_idxS); (iterate 3 exact rfl); (first | decide | omega); (first | decide | omega); (first | assumption | rfl); exact rfl) | (refine al_call2 rfl rfl rfl rfl (by (first | exact C1)) rfl ?_) | ((with_reducible apply awp_seq)) | ((with_reducible apply athen_normal)) | ((with_reducible apply awp_region)) | ((with_reducible apply al_nil)) | ((with_reducible apply awp_ret)) | ((with_reducible apply awp_skip)) | ((with_reducible apply athen_ret)) | ((with_reducible apply awp_block)) | ((with_reducible apply ablock_ret)) | ((with_reducible apply awp_cond_t); exact rfl) | ((with_reducible apply awp_cond_1); exact rfl; (first | assumption | exact decide_eq_true (by omega) | (simp only [Bool.not_eq_true', decide_eq_false_iff_not, decide_eq_true_eq, Bool.not_eq_false']; (first | done | omega))))))
        (first | (refine apost_ret rfl (resl_tmp rfl resl_nil) ?_))
        exact AV.Le.refl _
    · have e : j = L.length := by omega
      subst e
      have hEq : L = M := by rw [List.take_length, hl, List.take_length] at htk; exact htk
      rw [decide_eq_true hEq]
      (repeat (first | ((with_reducible apply al_q); exact rfl) | ((with_reducible apply awp_seq)) | ((with_reducible apply athen_normal)) | ((with_reducible apply awp_region)) | ((with_reducible apply al_nil)) | ((with_reducible apply awp_ret)) | ((with_reducible apply ablock_same)) | ((with_reducible apply awp_exit)) | ((with_reducible apply athen_exit)) | ((with_reducible apply awp_cond_0); exact rfl; (first | assumption | exact decide_eq_false (by omega) | (simp only [Bool.not_eq_true', decide_eq_false_iff_not, decide_eq_true_eq, Bool.not_eq_false']; (first | done | omega))))))
      (first | (refine apost_ret rfl (resl_tmp rfl resl_nil) ?_))
      exact AV.Le.refl _
  · have hl' : ¬ (L.length : Int) = M.length := by omega
    have hne : L ≠ M := fun e => hl (by rw [e])
    rw [decide_eq_false hne]
    refine pcall_body (f := 51) Try.func51 rfl rfl rfl rfl ?_
    (repeat (first | ((with_reducible apply al_q); exact rfl) | ((with_reducible apply al_len); (iterate 3 exact rfl)) | ((with_reducible apply awp_seq)) | ((with_reducible apply athen_normal)) | ((with_reducible apply awp_region)) | ((with_reducible apply al_nil)) | ((with_reducible apply awp_ret)) | ((with_reducible apply athen_ret)) | ((with_reducible apply awp_cond_1); exact rfl; (first | assumption | exact decide_eq_true (by omega) | (simp only [Bool.not_eq_true', decide_eq_false_iff_not, decide_eq_true_eq, Bool.not_eq_false']; (first | done | omega))))))
    (first | (refine apost_ret rfl (resl_tmp rfl resl_nil) ?_))
    exact AV.Le.refl _
set_option maxRecDepth 100000 in
set_option maxHeartbeats 8000000 in
theorem p_sameRings {L M : List (List Pt)} (hL : L.length ≤ 4611686018427387904) (hM : M.length ≤ 4611686018427387904) (hr : ∀ r ∈ L, r.length ≤ 4611686018427387904) : PCall Try.prog 35 [.w (.one (ringsA L)), .w (.one (ringsA M))] (vB (decide (L = M))) := by
  have C1 := p_EqualFunc hL hM hr
  refine pcall_body (f := 35) Try.func35 rfl rfl rfl rfl ?_
  (repeat (first | ((with_reducible apply al_q); exact rfl) | (refine al_call3 rfl rfl rfl rfl rfl (by (first | exact C1)) rfl ?_) | ((with_reducible apply awp_seq)) | ((with_reducible apply athen_normal)) | ((with_reducible apply awp_region)) | ((with_reducible apply al_nil)) | ((with_reducible apply awp_ret))))
  (first | (refine apost_ret rfl (resl_tmp rfl resl_nil) ?_))
  exact AV.Le.refl _
set_option maxRecDepth 100000 in
set_option maxHeartbeats 8000000 in
theorem p_Same11 {A B A' B' : List (List Pt)} {op fill rung cap op' fill' rung' cap' : Int} (hA : A.length ≤ 4611686018427387904) (hB : B.length ≤ 4611686018427387904) (hA' : A'.length ≤ 4611686018427387904) (hB' : B'.length ≤ 4611686018427387904) (hr : ∀ r ∈ A ++ B, r.length ≤ 4611686018427387904) :
    PCall Try.prog 17 [.w (.agg (jobC A B op fill rung cap)), .w (.agg (jobC A' B' op' fill' rung' cap'))] (vB (smB A B op fill rung cap A' B' op' fill' rung' cap')) := by
  have C1 := p_sameRings (M := A') hA hA' (fun r h => hr r (List.mem_append_left _ h))
  have C2 := p_sameRings (M := B') hB hB' (fun r h => hr r (List.mem_append_right _ h))
  have cs : ∃ c, smB A B op fill rung cap A' B' op' fill' rung' cap' = c ∧ ((op ≠ op' ∧ c = false) ∨ (op = op' ∧ fill ≠ fill' ∧ c = false) ∨ (op = op' ∧ fill = fill' ∧ rung ≠ rung' ∧ c = false) ∨ (op = op' ∧ fill = fill' ∧ rung = rung' ∧ cap ≠ cap' ∧ c = false) ∨ (op = op' ∧ fill = fill' ∧ rung = rung' ∧ cap = cap' ∧ A ≠ A' ∧ c = false) ∨ (op = op' ∧ fill = fill' ∧ rung = rung' ∧ cap = cap' ∧ A = A' ∧ c = decide (B = B'))) := by
    refine ⟨_, rfl, ?_⟩
    unfold smB
    by_cases h1 : op = op'
    · by_cases h2 : fill = fill'
      · by_cases h3 : rung = rung'
        · by_cases h4 : cap = cap'
          · by_cases h5 : A = A'
            · exact .inr (.inr (.inr (.inr (.inr ⟨h1, h2, h3, h4, h5, by rw [decide_eq_decide]; exact ⟨fun h => h.2.2.2.2.2, fun h => ⟨h1, h2, h3, h4, h5, h⟩⟩⟩))))
            · exact .inr (.inr (.inr (.inr (.inl ⟨h1, h2, h3, h4, h5, decide_eq_false fun h => h5 h.2.2.2.2.1⟩))))
          · exact .inr (.inr (.inr (.inl ⟨h1, h2, h3, h4, decide_eq_false fun h => h4 h.2.2.2.1⟩)))
        · exact .inr (.inr (.inl ⟨h1, h2, h3, decide_eq_false fun h => h3 h.2.2.1⟩))
      · exact .inr (.inl ⟨h1, h2, decide_eq_false fun h => h2 h.2.1⟩)
    · exact .inl ⟨h1, decide_eq_false fun h => h1 h.1⟩
  obtain ⟨c, e, cs⟩ := cs
  rw [e]
  clear e hA hB hA' hB' hr
  rcases cs with ⟨h1, rfl⟩ | ⟨h1, h2, rfl⟩ | ⟨h1, h2, h3, rfl⟩ | ⟨h1, h2, h3, h4, rfl⟩ | ⟨h1, h2, h3, h4, h5, rfl⟩ | ⟨h1, h2, h3, h4, h5, rfl⟩
  · refine pcall_body (f := 17) Try.func17 rfl rfl rfl rfl ?_
    (repeat (first | ((with_reducible apply al_q); exact rfl) | ((with_reducible apply al_guard_b (c := false)); exact rfl; exact rfl; (first | assumption | exact decide_eq_false (by omega) | (simp only [Bool.not_eq_true', decide_eq_false_iff_not, decide_eq_true_eq, Bool.not_eq_false']; (first | done | omega)))) | ((with_reducible apply awp_seq)) | ((with_reducible apply athen_normal)) | ((with_reducible apply awp_region)) | ((with_reducible apply al_nil)) | ((with_reducible apply awp_ret))))
    (first | (refine apost_ret rfl (resl_tmp rfl resl_nil) ?_))
    exact AV.Le.refl _
  · refine pcall_body (f := 17) Try.func17 rfl rfl rfl rfl ?_
    (repeat (first | ((with_reducible apply al_q); exact rfl) | ((with_reducible apply al_guard_b (c := true)); exact rfl; exact rfl; (first | assumption | exact decide_eq_true (by omega) | (simp only [Bool.not_eq_true', decide_eq_false_iff_not, decide_eq_true_eq, Bool.not_eq_false']; (first | done | omega)))) | ((with_reducible apply al_guard_b (c := false)); exact rfl; exact rfl; (first | assumption | exact decide_eq_false (by omega) | (simp only [Bool.not_eq_true', decide_eq_false_iff_not, decide_eq_true_eq, Bool.not_eq_false']; (first | done | omega)))) | ((with_reducible apply awp_seq)) | ((with_reducible apply athen_normal)) | ((with_reducible apply awp_region)) | ((with_reducible apply al_nil)) | ((with_reducible apply awp_ret))))
    (first | (refine apost_ret rfl (resl_tmp rfl resl_nil) ?_))
    exact AV.Le.refl _
  · refine pcall_body (f := 17) Try.func17 rfl rfl rfl rfl ?_
    (repeat (first | ((with_reducible apply al_q); exact rfl) | ((with_reducible apply al_guard_b (c := true)); exact rfl; exact rfl; (first | assumption | exact decide_eq_true (by omega) | (simp only [Bool.not_eq_true', decide_eq_false_iff_not, decide_eq_true_eq, Bool.not_eq_false']; (first | done | omega)))) | ((with_reducible apply al_guard_b (c := false)); exact rfl; exact rfl; (first | assumption | exact decide_eq_false (by omega) | (simp only [Bool.not_eq_true', decide_eq_false_iff_not, decide_eq_true_eq, Bool.not_eq_false']; (first | done | omega)))) | ((with_reducible apply awp_seq)) | ((with_reducible apply athen_normal)) | ((with_reducible apply awp_region)) | ((with_reducible apply al_nil)) | ((with_reducible apply awp_ret))))
    (first | (refine apost_ret rfl (resl_tmp rfl resl_nil) ?_))
    exact AV.Le.refl _
  · refine pcall_body (f := 17) Try.func17 rfl rfl rfl rfl ?_
    (repeat (first | ((with_reducible apply al_q); exact rfl) | ((with_reducible apply al_guard_b (c := true)); exact rfl; exact rfl; (first | assumption | exact decide_eq_true (by omega) | (simp only [Bool.not_eq_true', decide_eq_false_iff_not, decide_eq_true_eq, Bool.not_eq_false']; (first | done | omega)))) | ((with_reducible apply al_guard_b (c := false)); exact rfl; exact rfl; (first | assumption | exact decide_eq_false (by omega) | (simp only [Bool.not_eq_true', decide_eq_false_iff_not, decide_eq_true_eq, Bool.not_eq_false']; (first | done | omega)))) | ((with_reducible apply awp_seq)) | ((with_reducible apply athen_normal)) | ((with_reducible apply awp_region)) | ((with_reducible apply al_nil)) | ((with_reducible apply awp_ret))))
    (first | (refine apost_ret rfl (resl_tmp rfl resl_nil) ?_))
    exact AV.Le.refl _
  · rw [decide_eq_false h5] at C1
    refine pcall_body (f := 17) Try.func17 rfl rfl rfl rfl ?_
    (repeat (first | ((with_reducible apply al_q); exact rfl) | (refine al_call2 rfl rfl rfl rfl (by (first | exact C1)) rfl ?_) | ((with_reducible apply al_guard_b (c := true)); exact rfl; exact rfl; (first | assumption | exact decide_eq_true (by omega) | (simp only [Bool.not_eq_true', decide_eq_false_iff_not, decide_eq_true_eq, Bool.not_eq_false']; (first | done | omega)))) | ((with_reducible apply awp_seq)) | ((with_reducible apply athen_normal)) | ((with_reducible apply awp_region)) | ((with_reducible apply al_nil)) | ((with_reducible apply awp_ret))))
    (first | (refine apost_ret rfl (resl_tmp rfl resl_nil) ?_))
    exact AV.Le.refl _
  · rw [decide_eq_true h5] at C1
    refine pcall_body (f := 17) Try.func17 rfl rfl rfl rfl ?_
    (repeat (first | ((with_reducible apply al_q); exact rfl) | (refine al_call2 rfl rfl rfl rfl (by (first | exact C1 | exact C2)) rfl ?_) | ((with_reducible apply al_guard_b (c := true)); exact rfl; exact rfl; (first | assumption | exact decide_eq_true (by omega) | (simp only [Bool.not_eq_true', decide_eq_false_iff_not, decide_eq_true_eq, Bool.not_eq_false']; (first | done | omega)))) | ((with_reducible apply awp_seq)) | ((with_reducible apply athen_normal)) | ((with_reducible apply awp_region)) | ((with_reducible apply al_nil)) | ((with_reducible apply awp_ret))))
    (first | (refine apost_ret rfl (resl_tmp rfl resl_nil) ?_))
    exact AV.Le.refl _
end Go.Proofs.Ytlfkllmnekdghaa

namespace Go.Proofs.Ytlfkllmnekdghaa
open Go.RowKit
set_option linter.unusedVariables false
set_option linter.unusedSimpArgs false
set_option maxRecDepth 100000 in
set_option maxHeartbeats 8000000 in
theorem p_Does11 {op : Int} {a b : Bool} : PCall Try.prog 24 [vI op, vB a, vB b] (vB (dsF op a b)) := by
  have cs : op = 0 ∨ op = 1 ∨ op = 2 ∨ op = 3 ∨ (¬ op = 0 ∧ ¬ op = 1 ∧ ¬ op = 2 ∧ ¬ op = 3) := by omega
  have e4 : (¬ op = 0 ∧ ¬ op = 1 ∧ ¬ op = 2 ∧ ¬ op = 3) → dsF op a b = false := fun ⟨h0, h1, h2, h3⟩ => by unfold dsF; simp [h0, h1, h2, h3]
  rcases cs with rfl | rfl | rfl | rfl | ⟨h0, h1, h2, h3⟩
  · clear e4
    cases a <;> cases b
    all_goals
      refine pcall_body (f := 24) Try.func24 rfl rfl rfl rfl ?_
      (repeat (first | ((with_reducible apply al_q); exact rfl) | ((with_reducible apply awp_seq)) | ((with_reducible apply athen_normal)) | ((with_reducible apply awp_region)) | ((with_reducible apply al_nil)) | ((with_reducible apply awp_ret)) | ((with_reducible apply athen_ret)) | ((with_reducible apply awp_block)) | ((with_reducible apply ablock_ret)) | ((with_reducible apply awp_cond_t); exact rfl)))
      (first | (refine apost_ret rfl (resl_tmp rfl resl_nil) ?_))
      exact AV.Le.of_eq (by rfl)
  · clear e4
    cases a <;> cases b
    all_goals
      refine pcall_body (f := 24) Try.func24 rfl rfl rfl rfl ?_
      (repeat (first | ((with_reducible apply al_q); exact rfl) | ((with_reducible apply awp_seq)) | ((with_reducible apply athen_normal)) | ((with_reducible apply awp_region)) | ((with_reducible apply al_nil)) | ((with_reducible apply awp_ret)) | ((with_reducible apply athen_ret)) | ((with_reducible apply awp_block)) | ((with_reducible apply ablock_ret)) | ((with_reducible apply awp_cond_t); exact rfl) | ((with_reducible apply awp_cond_f); exact rfl)))
      (first | (refine apost_ret rfl (resl_tmp rfl resl_nil) ?_))
      exact AV.Le.of_eq (by rfl)
  · clear e4
    cases a <;> cases b
    all_goals
      refine pcall_body (f := 24) Try.func24 rfl rfl rfl rfl ?_
      (repeat (first | ((with_reducible apply al_q); exact rfl) | ((with_reducible apply awp_seq)) | ((with_reducible apply athen_normal)) | ((with_reducible apply awp_region)) | ((with_reducible apply al_nil)) | ((with_reducible apply awp_ret)) | ((with_reducible apply athen_ret)) | ((with_reducible apply awp_block)) | ((with_reducible apply ablock_ret)) | ((with_reducible apply awp_cond_t); exact rfl) | ((with_reducible apply awp_cond_f); exact rfl)))
      (first | (refine apost_ret rfl (resl_tmp rfl resl_nil) ?_))
      exact AV.Le.of_eq (by rfl)
  · clear e4
    cases a <;> cases b
    all_goals
      refine pcall_body (f := 24) Try.func24 rfl rfl rfl rfl ?_
      (repeat (first | ((with_reducible apply al_q); exact rfl) | ((with_reducible apply al_neT); (iterate 4 exact rfl); kernel_rfl) | ((with_reducible apply awp_seq)) | ((with_reducible apply athen_normal)) | ((with_reducible apply awp_region)) | ((with_reducible apply al_nil)) | ((with_reducible apply awp_ret)) | ((with_reducible apply athen_ret)) | ((with_reducible apply awp_block)) | ((with_reducible apply ablock_ret)) | ((with_reducible apply awp_cond_t); exact rfl) | ((with_reducible apply awp_cond_f); exact rfl)))
      (first | (refine apost_ret rfl (resl_tmp rfl resl_nil) ?_))
      exact AV.Le.of_eq (by rfl)
  · rw [e4 ⟨h0, h1, h2, h3⟩]
    clear e4
    refine pcall_body (f := 24) Try.func24 rfl rfl rfl rfl ?_
    (repeat (first | ((with_reducible apply al_q); exact rfl) | ((with_reducible apply awp_seq)) | ((with_reducible apply athen_normal)) | ((with_reducible apply awp_region)) | ((with_reducible apply al_nil)) | ((with_reducible apply awp_ret)) | ((with_reducible apply awp_skip)) | ((with_reducible apply awp_block)) | ((with_reducible apply ablock_normal)) | ((with_reducible apply awp_cond_0); exact rfl; (first | assumption | exact decide_eq_false (by omega) | (simp only [Bool.not_eq_true', decide_eq_false_iff_not, decide_eq_true_eq, Bool.not_eq_false']; (first | done | omega))))))
    (first | (refine apost_ret rfl (resl_tmp rfl resl_nil) ?_))
    exact AV.Le.refl _
set_option maxRecDepth 100000 in
set_option maxHeartbeats 8000000 in
theorem p_Fills11 {f n : Int} : PCall Try.prog 23 [vI f, vI n] (vB (flF f n)) := by
  have cs : ∃ q, n.tmod 2 = q ∧ ((f = 0 ∧ ¬ q = 0 ∧ flF f n = true) ∨ (f = 0 ∧ q = 0 ∧ flF f n = false) ∨ (¬ f = 0 ∧ f = 1 ∧ n = 0 ∧ flF f n = false) ∨ (¬ f = 0 ∧ f = 1 ∧ ¬ n = 0 ∧ flF f n = true) ∨ (¬ f = 0 ∧ ¬ f = 1 ∧ flF f n = false)) := by
    refine ⟨_, rfl, ?_⟩
    have hm : (n % 2 = 0 ↔ n.tmod 2 = 0) := by
      rcases Int.le_total 0 n with h | h
      · rw [Int.tmod_eq_emod_of_nonneg h]
      · have e : n.tmod 2 = - ((-n) % 2) := by
          rw [← Int.tmod_eq_emod_of_nonneg (show 0 ≤ -n by omega), Int.neg_tmod, Int.neg_neg]
        omega
    unfold flF
    by_cases h0 : f = 0 <;> by_cases h1 : f = 1 <;> by_cases h2 : n = 0 <;> by_cases h3 : n % 2 = 0 <;> simp [h0, h1, h2, h3] <;> omega
  obtain ⟨q, hq, cs⟩ := cs
  rcases cs with ⟨rfl, h1, h⟩ | ⟨rfl, h1, h⟩ | ⟨h0, rfl, h2, h⟩ | ⟨h0, rfl, h2, h⟩ | ⟨h0, h1, h⟩ <;> rw [h] <;> clear h
  all_goals
    refine pcall_body (f := 23) Try.func23 rfl rfl rfl rfl ?_
    (repeat (first | ((with_reducible apply al_q); exact rfl) | ((with_reducible apply al_bin); (iterate 5 exact rfl); (intro W; go_simp; try rfl); (intro W; go_simp; try rfl); exact rfl; exact rfl) | ((with_reducible apply awp_seq)) | ((with_reducible apply athen_normal)) | ((with_reducible apply awp_region)) | ((with_reducible apply al_nil)) | ((with_reducible apply awp_ret)) | ((with_reducible apply awp_skip)) | ((with_reducible apply athen_ret)) | ((with_reducible apply awp_block)) | ((with_reducible apply ablock_normal)) | ((with_reducible apply ablock_ret)) | ((with_reducible apply awp_cond_t); exact rfl) | ((with_reducible apply awp_cond_f); exact rfl) | ((with_reducible apply awp_cond_0); exact rfl; (first | assumption | exact decide_eq_false (by omega) | (simp only [Bool.not_eq_true', decide_eq_false_iff_not, decide_eq_true_eq, Bool.not_eq_false']; (first | done | omega))))))
    (first | (refine apost_ret rfl (resl_tmp rfl resl_nil) ?_))
    first | exact AV.Le.refl _ | exact AV.Le.of_eq (by rw [decide_eq_true h1]; rfl) | exact AV.Le.of_eq (by rw [decide_eq_false h1]; rfl) | exact AV.Le.of_eq (by rw [decide_eq_true h2]; rfl) | exact AV.Le.of_eq (by rw [decide_eq_false h2]; rfl) | exact AV.Le.of_eq (by rw [h2]; rfl)
set_option maxRecDepth 100000 in
set_option maxHeartbeats 8000000 in
theorem p_Wants11 {A B : List (List Pt)} {op fill rung cap a b : Int} : PCall Try.prog 26 [.w (.agg (jobC A B op fill rung cap)), vI a, vI b] (vB (dsF op (flF fill a) (flF fill b))) := by
  have F1 := p_Fills11 (f := fill) (n := a)
  have F2 := p_Fills11 (f := fill) (n := b)
  have D1 := p_Does11 (op := op) (a := flF fill a) (b := flF fill b)
  generalize flF fill a = u at *
  generalize flF fill b = v at *
  refine pcall_body (f := 26) Try.func26 rfl rfl rfl rfl ?_
  (repeat (first | ((with_reducible apply al_q); exact rfl) | (refine al_call2 rfl rfl rfl rfl (by (first | exact F1 | exact F2 | exact D1)) rfl ?_) | (refine al_call3 rfl rfl rfl rfl rfl (by (first | exact F1 | exact F2 | exact D1)) rfl ?_) | ((with_reducible apply al_nilS); kernel_rfl) | ((with_reducible apply awp_region_draw); kernel_rfl; kernel_rfl; exact rfl) | ((with_reducible apply awp_seq)) | ((with_reducible apply athen_normal)) | ((with_reducible apply awp_region)) | ((with_reducible apply al_nil)) | ((with_reducible apply awp_ret))))
  (first | (refine apost_ret rfl (resl_tmp rfl resl_nil) ?_))
  exact AV.Le.refl _
end Go.Proofs.Ytlfkllmnekdghaa

namespace Go.Proofs.Ytlfkllmnekdghaa
open Go.RowKit
set_option linter.unusedVariables false
set_option linter.unusedSimpArgs false
theorem pcall_less {P : Program} {f : FuncId} {args args' : List AV} {r : AV} (h : PCall P f args r) (ca : args'.all AV.closedB = true) (hl : args'.length = args.length) (hle : ∀ (i : Nat) x y, args'[i]? = some x → args[i]? = some y → x.Le y) : PCall P f args' r :=
  ⟨fun x hx => AV.closed_of (List.all_eq_true.1 ca x hx), h.cr, fun U W vs hvs => h.call U W vs ⟨by rw [← hl]; exact hvs.1, fun i y v hy hv => by
    have hi : i < args'.length := by rw [hl]; exact (List.getElem?_eq_some_iff.1 hy).1
    exact hle i _ y (List.getElem?_eq_getElem hi) hy U id W v (hvs.2 i _ v (List.getElem?_eq_getElem hi) hv)⟩⟩
def sqR : List Pt := [(0, 0), (2, 0), (2, 2), (0, 2)]
/-- a job without B; one without rings. -/
theorem job1_le {A : List (List Pt)} {op fill rung cap : Int} : AV.Le (.w (.agg [ringsA A, .c (.slice none 0 0), .c (.int .i64 op), .c (.int .i64 fill), .c (.int .i64 rung), .c (.int .i64 cap)])) (.w (.agg (jobC A [] op fill rung cap))) := agg_le rfl fun j x y hx hy => by
  match j with
  | 0 => cases hx; cases hy; exact .inl rfl
  | 1 => cases hx; cases hy; exact .inr ⟨rfl, 1, rfl⟩
  | 2 => cases hx; cases hy; exact .inl rfl
  | 3 => cases hx; cases hy; exact .inl rfl
  | 4 => cases hx; cases hy; exact .inl rfl
  | 5 => cases hx; cases hy; exact .inl rfl
  | j + 6 => simp at hx
theorem job0_le {op fill rung cap : Int} : AV.Le (.w (.agg [.c (.slice none 0 0), .c (.slice none 0 0), .c (.int .i64 op), .c (.int .i64 fill), .c (.int .i64 rung), .c (.int .i64 cap)])) (.w (.agg (jobC [] [] op fill rung cap))) := agg_le rfl fun j x y hx hy => by
  match j with
  | 0 => cases hx; cases hy; exact .inr ⟨rfl, 1, rfl⟩
  | 1 => cases hx; cases hy; exact .inr ⟨rfl, 1, rfl⟩
  | 2 => cases hx; cases hy; exact .inl rfl
  | 3 => cases hx; cases hy; exact .inl rfl
  | 4 => cases hx; cases hy; exact .inl rfl
  | 5 => cases hx; cases hy; exact .inl rfl
  | j + 6 => simp at hx
theorem le1 {P : Program} {f : FuncId} {x y : AV} {ys : List AV} {r : AV} (h : PCall P f (y :: ys) r) (cx : x.closedB = true) (cs : ys.all AV.closedB = true) (hle : x.Le y) : PCall P f (x :: ys) r := pcall_less h (by rw [List.all_cons, cx, cs]; rfl) rfl fun i a b ha hb => by
  cases i with
  | zero => cases ha; cases hb; exact hle
  | succ i => rw [List.getElem?_cons_succ] at ha hb; rw [ha] at hb; cases hb; exact .refl _
set_option maxRecDepth 100000 in
set_option maxHeartbeats 16000000 in
theorem p_alive11 : PCall Try.prog 10 [] (vB true) := by
  have W1 := p_Wind11L (L := [sqR]) (x := 2) (y := 2) (by decide) (by decide) (by decide)
  rw [show wndL 2 2 (edgsM [sqR]) = (1, false) by decide] at W1
  have W2 := p_Wind11L (L := [sqR]) (x := 0) (y := 2) (by decide) (by decide) (by decide)
  rw [show wndL 0 2 (edgsM [sqR]) = (0, true) by decide] at W2
  have E1 := le1 (p_Edges11 (A := [sqR]) (B := []) (op := 0) (fill := 0) (rung := 0) (cap := 9) (by decide) (by decide) (by decide) (by decide) (by decide)) rfl rfl job1_le
  have C1 := le1 (p_Check11 (A := [sqR]) (B := []) (op := 0) (fill := 0) (rung := 0) (cap := 9) (by decide) (by decide) (by decide)) rfl rfl job1_le
  rw [show chkV [sqR] [] 0 0 0 9 = 0 by decide] at C1
  have C2 := le1 (p_Check11 (A := []) (B := []) (op := 0) (fill := 0) (rung := 0) (cap := 0) (by decide) (by decide) (by decide)) rfl rfl job0_le
  rw [show chkV [] [] 0 0 0 0 = 113 by decide] at C2
  have F1 := p_Fills11 (f := 0) (n := -1)
  rw [show flF 0 (-1) = true by decide] at F1
  have D1 := p_Does11 (op := 2) (a := true) (b := false)
  rw [show dsF 2 true false = true by decide] at D1
  have V1 := le1 (p_Wants11 (A := [sqR]) (B := []) (op := 0) (fill := 0) (rung := 0) (cap := 9) (a := 1) (b := 0)) rfl rfl job1_le
  rw [show dsF 0 (flF 0 1) (flF 0 0) = true by decide] at V1
  have L1 := le1 (p_Clone11 (A := [sqR]) (B := []) (op := 0) (fill := 0) (rung := 0) (cap := 9) (by decide) (by decide) (by decide)) rfl rfl job1_le
  have S1 := le1 (p_Same11 (A := [sqR]) (B := []) (A' := [sqR]) (B' := []) (op := 0) (fill := 0) (rung := 0) (cap := 9) (op' := 0) (fill' := 0) (rung' := 0) (cap' := 9) (by decide) (by decide) (by decide) (by decide) (by decide)) rfl rfl job1_le
  rw [show smB [sqR] [] 0 0 0 9 [sqR] [] 0 0 0 9 = true by decide] at S1
  refine pcall_body (f := 10) Try.func10 rfl rfl rfl rfl ?_
  (repeat (first | ((with_reducible apply al_q); exact rfl) | ((with_reducible apply al_loadPN); (iterate 5 exact rfl)) | ((with_reducible apply al_idxS); (iterate 3 exact rfl); (first | decide | omega); (first | decide | omega); (first | assumption | rfl); exact rfl) | ((with_reducible apply al_len); (iterate 3 exact rfl)) | ((with_reducible apply al_bslice); (iterate 10 exact rfl)) | (refine al_call1 rfl rfl rfl (by (first | exact W1 | exact W2 | exact E1 | exact C1 | exact C2 | exact F1 | exact D1 | exact V1 | exact L1 | exact S1)) rfl ?_) | (refine al_call2 rfl rfl rfl rfl (by (first | exact W1 | exact W2 | exact E1 | exact C1 | exact C2 | exact F1 | exact D1 | exact V1 | exact L1 | exact S1)) rfl ?_) | (refine al_call3 rfl rfl rfl rfl rfl (by (first | exact W1 | exact W2 | exact E1 | exact C1 | exact C2 | exact F1 | exact D1 | exact V1 | exact L1 | exact S1)) rfl ?_) | ((with_reducible apply al_bin); (iterate 5 exact rfl); (intro W; go_simp; try rfl); (intro W; go_simp; try rfl); exact rfl; exact rfl) | ((with_reducible apply al_nilS); kernel_rfl) | ((with_reducible apply awp_region_draw); kernel_rfl; kernel_rfl; exact rfl) | ((with_reducible apply awp_seq)) | ((with_reducible apply athen_normal)) | ((with_reducible apply awp_region)) | ((with_reducible apply al_nil)) | ((with_reducible apply awp_ret))))
  (first | (refine apost_ret rfl (resl_tmp rfl resl_nil) ?_))
  exact AV.Le.refl _
end Go.Proofs.Ytlfkllmnekdghaa

namespace Go.Proofs.Ytlfkllmnekdghaa
open Go.RowKit
set_option linter.unusedVariables false
set_option linter.unusedSimpArgs false
def MyI (L : List (List Pt)) (b : Nat) (n : Nat) (ts : List (Nat × AV)) (ms : List (Nat × List AC)) : Prop :=
  ∃ (i : Nat) (ii c : Int), i ≤ L.length ∧ n = L.length - i ∧ ii = i ∧ c = ((b + sumL (L.take i) : Nat) : Int) ∧ ms = [] ∧ ts = [(3, vI c), (24, .w (.one (ringsA L))), (25, vI L.length), (26, vI ii)]
def rgB11 (L : List (List Pt)) (x y : Int) : Bool := (L.all fun r => r.all ptB) && rB x y
def RiO (L : List (List Pt)) (x y : Int) (n : Nat) (ts : List (Nat × AV)) (ms : List (Nat × List AC)) : Prop :=
  ∃ (i : Nat) (ii : Int), i ≤ L.length ∧ n = L.length - i ∧ ii = i ∧ (L.all fun r => r.all ptB) = ((L.drop i).all fun r => r.all ptB) ∧ ms = [] ∧ ts = [(1, vI x), (2, vI y), (11, .w (.one (ringsA L))), (12, vI L.length), (13, vI ii)]
def RiN (L : List (List Pt)) (r : List Pt) (x y oo : Int) (n : Nat) (ts : List (Nat × AV)) (ms : List (Nat × List AC)) : Prop :=
  ∃ (i : Nat) (ii : Int), i ≤ r.length ∧ n = r.length - i ∧ ii = i ∧ r.all ptB = (r.drop i).all ptB ∧ ms = [] ∧ ts = [(1, vI x), (2, vI y), (11, .w (.one (ringsA L))), (12, vI L.length), (13, vI oo), (17, .w (.one (ringA r))), (18, vI r.length), (19, vI ii)]
set_option maxRecDepth 100000 in
set_option maxHeartbeats 8000000 in
theorem p_right11 {L : List (List Pt)} {x y : Int} (hL : L.length ≤ 4611686018427387904) (hr : ∀ r ∈ L, r.length ≤ 4611686018427387904) : PCall Try.prog 20 [.w (.one (ringsA L)), vI x, vI y] (vB (rgB11 L x y)) := by
  have X1 := p_r4Right (x := x) (y := y) rfl
  refine pcall_body (f := 20) Try.func20 rfl rfl rfl rfl ?_
  (repeat (first | ((with_reducible apply al_q); exact rfl) | ((with_reducible apply al_len); (iterate 3 exact rfl)) | ((with_reducible apply awp_seq)) | ((with_reducible apply athen_normal)) | ((with_reducible apply awp_region)) | ((with_reducible apply al_nil)) | ((with_reducible apply awp_block))))
  refine awp_loopL 43 (RiO L x y) L.length _ [] ⟨0, 0, Nat.zero_le _, rfl, rfl, rfl, rfl, rfl⟩ rfl ⟨rfl, rfl, rfl, rfl, rfl, trivial⟩ trivial rfl ?_
  rintro n ts ms ⟨i, ii, hi, rfl, hii, hal, rfl, rfl⟩ hok
  clear hok
  by_cases hq : i < L.length
  · have q2 : ii < (L.length : Int) := by omega
    have q3 : 0 ≤ ii := by omega
    obtain ⟨r, hri⟩ : ∃ r, L[i]? = some r := ⟨_, List.getElem?_eq_getElem hq⟩
    have E1 := ringsC_at hii hri
    have hrl := hr r (List.mem_of_getElem? hri)
    have hd : L.drop i = r :: L.drop (i + 1) := by rw [List.drop_eq_getElem_cons hq, (List.getElem?_eq_some_iff.1 hri).2]
    rw [hd, List.all_cons] at hal
    (repeat (first | ((with_reducible apply al_q); exact rfl) | ((with_reducible apply al_loadP1); (iterate 5 exact rfl)) | ((with_reducible apply al_idxS); (iterate 3 exact rfl); (first | decide | omega); (first | decide | omega); (first | assumption | rfl); exact rfl) | ((with_reducible apply al_len); (iterate 3 exact rfl)) | ((with_reducible apply awp_seq)) | ((with_reducible apply athen_normal)) | ((with_reducible apply awp_region)) | ((with_reducible apply al_nil)) | ((with_reducible apply awp_skip)) | ((with_reducible apply awp_block)) | ((with_reducible apply awp_cond_1); exact rfl; (first | assumption | exact decide_eq_true (by omega) | (simp only [Bool.not_eq_true', decide_eq_false_iff_not, decide_eq_true_eq, Bool.not_eq_false']; (first | done | omega))))))
    refine awp_loopL 43 (RiN L r x y ii) r.length _ [] ⟨0, 0, Nat.zero_le _, rfl, rfl, rfl, rfl, rfl⟩ rfl ⟨rfl, rfl, rfl, rfl, rfl, rfl, rfl, rfl, trivial⟩ trivial rfl ?_
    rintro n ts ms ⟨j, jj, hj, rfl, hjj, hal2, rfl, rfl⟩ hok
    clear hok
    by_cases hp : j < r.length
    · have p2 : jj < (r.length : Int) := by omega
      have p3 : 0 ≤ jj := by omega
      obtain ⟨a, b, g1⟩ : ∃ a b, r[j]? = some (a, b) := ⟨_, _, List.getElem?_eq_getElem hp⟩
      have F1 := ringC_at hjj g1
      have hd2 : r.drop j = (a, b) :: r.drop (j + 1) := by rw [List.drop_eq_getElem_cons hp, (List.getElem?_eq_some_iff.1 g1).2]
      rw [hd2, List.all_cons, show ptB (a, b) = (rB a b && rB (2 * a) (2 * b)) from rfl] at hal2
      cases h1 : rB a b with
      | false =>
        have R1 := p_r4Right h1
        have e : rgB11 L x y = false := by unfold rgB11; rw [hal, hal2, h1]; rfl
        rw [e]
        clear hal hal2 h1 hd hd2 e X1
        (repeat (first | ((with_reducible apply al_q); exact rfl) | ((with_reducible apply al_loadPN); (iterate 5 exact rfl)) | ((with_reducible apply al_idxS); (iterate 3 exact rfl); (first | decide | omega); (first | decide | omega); (first | assumption | rfl); exact rfl) | (refine al_call1 rfl rfl rfl (by (first | exact R1)) rfl ?_) | ((with_reducible apply awp_seq)) | ((with_reducible apply athen_normal)) | ((with_reducible apply awp_region)) | ((with_reducible apply al_nil)) | ((with_reducible apply awp_ret)) | ((with_reducible apply awp_skip)) | ((with_reducible apply athen_ret)) | ((with_reducible apply awp_block)) | ((with_reducible apply ablock_ret)) | ((with_reducible apply awp_cond_t); exact rfl) | ((with_reducible apply awp_cond_1); exact rfl; (first | assumption | exact decide_eq_true (by omega) | (simp only [Bool.not_eq_true', decide_eq_false_iff_not, decide_eq_true_eq, Bool.not_eq_false']; (first | done | omega))))))
        (first | (refine apost_ret rfl (resl_tmp rfl resl_nil) ?_))
        exact AV.Le.refl _
      | true =>
        have R1 := p_r4Right h1
        have hb := rB_iff.1 h1
        cases h2 : rB (2 * a) (2 * b) with
        | false =>
          have R2 := p_r4Right h2
          have e : rgB11 L x y = false := by unfold rgB11; rw [hal, hal2, h1, h2]; rfl
          rw [e]
          clear hal hal2 h1 h2 hd hd2 e X1
          (repeat (first | ((with_reducible apply al_q); exact rfl) | ((with_reducible apply al_loadPN); (iterate 5 exact rfl)) | ((with_reducible apply al_idxS); (iterate 3 exact rfl); (first | decide | omega); (first | decide | omega); (first | assumption | rfl); exact rfl) | ((with_reducible apply al_mul); (iterate 3 exact rfl); (first | exact i64_wrap (by omega) | assumption | rfl); exact rfl) | (refine al_call1 rfl rfl rfl (by (first | exact R1 | exact R2)) rfl ?_) | ((with_reducible apply awp_seq)) | ((with_reducible apply athen_normal)) | ((with_reducible apply awp_region)) | ((with_reducible apply al_nil)) | ((with_reducible apply awp_ret)) | ((with_reducible apply awp_skip)) | ((with_reducible apply athen_ret)) | ((with_reducible apply awp_block)) | ((with_reducible apply ablock_ret)) | ((with_reducible apply awp_cond_t); exact rfl) | ((with_reducible apply awp_cond_1); exact rfl; (first | assumption | exact decide_eq_true (by omega) | (simp only [Bool.not_eq_true', decide_eq_false_iff_not, decide_eq_true_eq, Bool.not_eq_false']; (first | done | omega))))))
          (first | (refine apost_ret rfl (resl_tmp rfl resl_nil) ?_))
          exact AV.Le.refl _
        | true =>
          have R2 := p_r4Right h2
          rw [h1, h2, Bool.true_and, Bool.true_and] at hal2
          clear h1 h2 hd hd2 X1
          (repeat (first | ((with_reducible apply al_q); exact rfl) | ((with_reducible apply al_loadPN); (iterate 5 exact rfl)) | ((with_reducible apply al_idxS); (iterate 3 exact rfl); (first | decide | omega); (first | decide | omega); (first | assumption | rfl); exact rfl) | ((with_reducible apply al_add); (iterate 3 exact rfl); (first | exact i64_wrap (by omega) | assumption | rfl); exact rfl) | ((with_reducible apply al_mul); (iterate 3 exact rfl); (first | exact i64_wrap (by omega) | assumption | rfl); exact rfl) | (refine al_call1 rfl rfl rfl (by (first | exact R1 | exact R2)) rfl ?_) | ((with_reducible apply awp_seq)) | ((with_reducible apply athen_normal)) | ((with_reducible apply awp_region)) | ((with_reducible apply al_nil)) | ((with_reducible apply awp_skip)) | ((with_reducible apply awp_block)) | ((with_reducible apply ablock_normal)) | ((with_reducible apply awp_cond_f); exact rfl) | ((with_reducible apply awp_cond_1); exact rfl; (first | assumption | exact decide_eq_true (by omega) | (simp only [Bool.not_eq_true', decide_eq_false_iff_not, decide_eq_true_eq, Bool.not_eq_false']; (first | done | omega))))))
          exact ⟨r.length - (j + 1), _, [], by omega, ⟨j + 1, jj + 1, hp, rfl, by omega, hal2, rfl, rfl⟩, rfl, ⟨rfl, rfl, rfl, rfl, rfl, rfl, rfl, rfl, trivial⟩, trivial, rfl⟩
    · have e : j = r.length := by omega
      subst e
      rw [List.drop_length, List.all_nil] at hal2
      rw [hal2, Bool.true_and] at hal
      (repeat (first | ((with_reducible apply al_q); exact rfl) | ((with_reducible apply al_add); (iterate 3 exact rfl); (first | exact i64_wrap (by omega) | assumption | rfl); exact rfl) | ((with_reducible apply awp_seq)) | ((with_reducible apply athen_normal)) | ((with_reducible apply awp_region)) | ((with_reducible apply al_nil)) | ((with_reducible apply ablock_normal)) | ((with_reducible apply ablock_same)) | ((with_reducible apply awp_exit)) | ((with_reducible apply athen_exit)) | ((with_reducible apply awp_cond_0); exact rfl; (first | assumption | exact decide_eq_false (by omega) | (simp only [Bool.not_eq_true', decide_eq_false_iff_not, decide_eq_true_eq, Bool.not_eq_false']; (first | done | omega))))))
      exact ⟨L.length - (i + 1), _, [], by omega, ⟨i + 1, ii + 1, hq, rfl, by omega, hal, rfl, rfl⟩, rfl, ⟨rfl, rfl, rfl, rfl, rfl, trivial⟩, trivial, rfl⟩
  · have e : i = L.length := by omega
    subst e
    rw [List.drop_length, List.all_nil] at hal
    have e : rgB11 L x y = rB x y := by unfold rgB11; rw [hal, Bool.true_and]
    rw [e]
    generalize rB x y = b at X1
    (repeat (first | ((with_reducible apply al_q); exact rfl) | (refine al_call1 rfl rfl rfl (by (first | exact X1)) rfl ?_) | ((with_reducible apply awp_seq)) | ((with_reducible apply athen_normal)) | ((with_reducible apply awp_region)) | ((with_reducible apply al_nil)) | ((with_reducible apply awp_ret)) | ((with_reducible apply ablock_same)) | ((with_reducible apply awp_exit)) | ((with_reducible apply athen_exit)) | ((with_reducible apply awp_cond_0); exact rfl; (first | assumption | exact decide_eq_false (by omega) | (simp only [Bool.not_eq_true', decide_eq_false_iff_not, decide_eq_true_eq, Bool.not_eq_false']; (first | done | omega))))))
    (first | (refine apost_ret rfl (resl_tmp rfl resl_nil) ?_))
    exact AV.Le.refl _
end Go.Proofs.Ytlfkllmnekdghaa

namespace Go.Proofs.Ytlfkllmnekdghaa
open Go.RowKit
set_option linter.unusedVariables false
set_option linter.unusedSimpArgs false
def EsI (M : List (Int × (Pt × Pt))) (n : Nat) (ts : List (Nat × AV)) (ms : List (Nat × List AC)) : Prop :=
  ∃ (i : Nat) (ii : Int), i ≤ M.length ∧ n = M.length - i ∧ ii = i ∧ ms = [] ∧ ts = [(4, vS 5 M.length (edsC M)), (35, vS 5 M.length (edsC M)), (36, vI M.length), (37, vI ii)]
theorem wndL_yes {L : List (List Pt)} {x y : Int} (h : rgB11 L x y = true) : wndL x y (edgsM L) = wndV x y (edgsM L) := by
  unfold wndL
  rw [edgsM_rt, if_pos]
  unfold rgB11 at h
  rw [Bool.and_comm, h]
theorem rgB_ends {L : List (List Pt)} {x y : Int} (h : rgB11 L x y = true) : rB x y = true ∧ ∀ e ∈ edgsM L, rB (2 * e.1.1) (2 * e.1.2) = true ∧ rB (2 * e.2.1) (2 * e.2.2) = true := by
  unfold rgB11 at h
  rw [Bool.and_eq_true] at h
  refine ⟨h.2, fun e he => ?_⟩
  obtain ⟨m1, m2⟩ := rt_ends (by rw [edgsM_rt]; exact h.1) he
  unfold ptB at m1 m2
  rw [Bool.and_eq_true] at m1 m2
  exact ⟨m1.2, m2.2⟩
end Go.Proofs.Ytlfkllmnekdghaa

namespace Go.Proofs.Ytlfkllmnekdghaa
open Go.RowKit
set_option linter.unusedVariables false
set_option linter.unusedSimpArgs false
def TbI (a b : List Pt) (x y at_ : Int) (n : Nat) (R : Rws) (ts : List (Nat × AV)) (ms : List (Nat × List AC)) : Prop :=
  ∃ (i : Nat) (ii : Int) (v : Value), i ≤ a.length ∧ n = a.length - i ∧ ii = i ∧ R = row1 0 ⟨37, 2, v, i, ringC (a.reverse.take i)⟩ ∧ ms = [] ∧ ts = [(0, .w (.one (ringA a))), (1, .w (.one (ringA b))), (7, vI x), (8, vI y), (9, vI at_), (10, vC v), (11, vC (.slice none 0 0)), (39, vI a.length), (40, vI ii)]
theorem ringC_one (l : List Pt) (p : Pt) : ringC (l ++ [p]) = ringC l ++ ptC p := by simp [ringC]
end Go.Proofs.Ytlfkllmnekdghaa

namespace Go.Proofs.Ytlfkllmnekdghaa
open Go.RowKit
set_option linter.unusedVariables false
set_option linter.unusedSimpArgs false
def mvE (d : Pt) (e : Pt × Pt) : Pt × Pt := (mvP d e.1, mvP d e.2)
theorem edgsM_moved (d : Pt) (L : List (List Pt)) : edgsM (L.map fun r => r.map (mvP d)) = (edgsM L).map (mvE d) := by
  induction L with
  | nil => rfl
  | cons r L ih =>
    have e : ∀ (r : List Pt) (L : List (List Pt)), edgsM (r :: L) = edgM r ++ edgsM L := fun r L => by simp [edgsM]
    rw [List.map_cons, e, e, ih, edgM_map, List.map_append]; rfl
theorem wnd_movedE (d : Pt) (x y : Int) : ∀ (E : List (Pt × Pt)), wndE cuR (x + 2 * d.1) (y + 2 * d.2) (E.map (mvE d)) = wndE cuR x y E ∧ anyE (x + 2 * d.1) (y + 2 * d.2) (E.map (mvE d)) = anyE x y E
  | [] => ⟨rfl, rfl⟩
  | e :: E => by
    obtain ⟨h1, h2⟩ := wnd_movedE d x y E
    have e1 : ∀ a b c : Int, 2 * (a + b) - (c + 2 * b) = 2 * a - c := fun a b c => by omega
    have r1 : relR cuR (x + 2 * d.1) (y + 2 * d.2) (mvE d e) = relR cuR x y e := by simp only [relR, mvE, mvP, e1]
    have r2 : relB onR (x + 2 * d.1) (y + 2 * d.2) (mvE d e) = relB onR x y e := by simp only [relB, mvE, mvP, e1]
    refine ⟨?_, ?_⟩
    · show relR cuR _ _ (mvE d e) + wndE cuR _ _ (E.map (mvE d)) = relR cuR x y e + wndE cuR x y E
      rw [r1, h1]
    · show (relB onR _ _ (mvE d e) || anyE _ _ (E.map (mvE d))) = (relB onR x y e || anyE x y E)
      rw [r2, h2]
theorem wndL_moved {d : Pt} {L : List (List Pt)} {x y : Int} (h1 : rgB11 L x y = true) (h2 : rgB11 (L.map fun r => r.map (mvP d)) (x + 2 * d.1) (y + 2 * d.2) = true) : wndL (x + 2 * d.1) (y + 2 * d.2) (edgsM (L.map fun r => r.map (mvP d))) = wndL x y (edgsM L) := by
  rw [wndL_yes h1, wndL_yes h2, edgsM_moved]
  obtain ⟨q1, q2⟩ := wnd_movedE d x y (edgsM L)
  unfold wndV
  rw [q1, q2]
def mvA (d : Pt) (r : List Pt) : AC := .p (SlP 2 r.length (ringC (r.map (mvP d))))
theorem mvA_eq (d : Pt) (r : List Pt) : ringA (r.map (mvP d)) = mvA d r := by unfold ringA mvA; rw [List.length_map]
theorem mvL_eq (d : Pt) (L : List (List Pt)) : ringsA (L.map fun r => r.map (mvP d)) = .p (SlP 1 L.length (L.map (mvA d))) := by
  unfold ringsA
  rw [List.length_map, List.map_map]
  have : (ringA ∘ fun r => r.map (mvP d)) = mvA d := funext fun r => mvA_eq d r
  rw [this]
theorem rle_twice {R : Rws} {i : Nat} {A B : HRow} : RLe (upd R i B) (upd (upd R i A) i B) := fun k q hk => by
  by_cases e : k = i
  · subst e; rw [upd_same] at hk ⊢; exact hk
  · rw [upd_ne _ _ e] at hk; rw [upd_ne _ _ e, upd_ne _ _ e]; exact hk
def MoI (L : List (List Pt)) (x y : Int) (d : Pt) (n : Nat) (R : Rws) (ts : List (Nat × AV)) (ms : List (Nat × List AC)) : Prop :=
  ∃ (i : Nat) (ii : Int) (v : Value), i ≤ L.length ∧ n = L.length - i ∧ ii = i ∧ R = row1 0 ⟨45, 1, v, i, (L.take i).map (mvA d)⟩ ∧ ms = [(4, [.c (.int .i64 x), .c (.int .i64 y)]), (5, [.c (.int .i64 d.1), .c (.int .i64 d.2)])] ∧
    ts = [(0, .w (.one (ringsA L))), (4, .w (.one (.own 4 0))), (5, .w (.one (.own 5 0))), (7, vC v), (52, .w (.one (ringsA L))), (53, vI L.length), (54, vI ii)]
def MnI (L : List (List Pt)) (x y : Int) (d : Pt) (r : List Pt) (v : Value) (k : Nat) (oo : Int) (n : Nat) (R : Rws) (ts : List (Nat × AV)) (ms : List (Nat × List AC)) : Prop :=
  ∃ (i : Nat) (ii : Int) (v' : Value), i ≤ r.length ∧ n = r.length - i ∧ ii = i ∧ R = upd (row1 0 ⟨45, 1, v, k, (L.take k).map (mvA d)⟩) 1 ⟨37, 2, v', i, ringC ((r.map (mvP d)).take i)⟩ ∧ ms = [(4, [.c (.int .i64 x), .c (.int .i64 y)]), (5, [.c (.int .i64 d.1), .c (.int .i64 d.2)])] ∧
    ts = [(0, .w (.one (ringsA L))), (4, .w (.one (.own 4 0))), (5, .w (.one (.own 5 0))), (7, vC v), (10, vC v'), (52, .w (.one (ringsA L))), (53, vI L.length), (54, vI oo), (58, .w (.one (ringA r))), (59, vI r.length), (60, vI ii)]
end Go.Proofs.Ytlfkllmnekdghaa

namespace Go.Proofs.Ytlfkllmnekdghaa
open Go.RowKit
set_option linter.unusedVariables false
set_option linter.unusedSimpArgs false
/-- a number as int64 keeps it. -/
def wI (n : Int) : Int := IntKind.wrap .i64 n
theorem wI_0 : wI 0 = 0 := rfl
theorem wI_eq (n : Int) : wI n = (n + 9223372036854775808) % 18446744073709551616 - 9223372036854775808 := by
  have e : wI n = if n % 18446744073709551616 ≥ 9223372036854775808 then n % 18446744073709551616 - 18446744073709551616 else n % 18446744073709551616 := by
    unfold wI IntKind.wrap
    simp [IntKind.bits, IntKind.signed]
  rw [e]
  split <;> omega
theorem wI_add (a b : Int) : IntKind.wrap .i64 (wI a + b) = wI (a + b) := by
  rw [show IntKind.wrap .i64 (wI a + b) = wI (wI a + b) from rfl, wI_eq, wI_eq, wI_eq]
  omega
def MwI (L : List (List Pt)) (b : Nat) (n : Nat) (ts : List (Nat × AV)) (ms : List (Nat × List AC)) : Prop :=
  ∃ (i : Nat) (ii c : Int), i ≤ L.length ∧ n = L.length - i ∧ ii = i ∧ c = wI ((b + sumL (L.take i) : Nat) : Int) ∧ ms = [] ∧ ts = [(3, vI c), (24, .w (.one (ringsA L))), (25, vI L.length), (26, vI ii)]
set_option maxRecDepth 100000 in
set_option maxHeartbeats 8000000 in
theorem p_ManyW {A : List (List Pt)} (hA : A.length * 24 ≤ 140737488351232) (hr : ∀ r ∈ A, r.length ≤ 8796093022208) :
    PCall Try.prog 13 [.w (.agg (jobC A [] 0 0 0 0))] (vI (wI ((A.length + sumL A : Nat) : Int))) := by
  have z1 : (A.length : Int).toNat - 0 = A.length := by omega
  have z2 : ((A.map ringA).drop (0 * 1)).take (A.length * 1) = A.map ringA := by rw [Nat.zero_mul, List.drop_zero, Nat.mul_one, List.take_of_length_le (by simp)]
  have z3 : A.length + ([] : List (List Pt)).length = A.length := rfl
  have z4 : A.map ringA ++ ([] : List (List Pt)).map ringA = A.map ringA := List.append_nil _
  have z5 : (A.length + ([] : List (List Pt)).length) * 24 ≤ 140737488355328 := by show (A.length + 0) * 24 ≤ 140737488355328; omega
  have z8 : (A.length : Int) + (([] : List (List Pt)).length : Int) = wI ((A.length + sumL (A.take 0) : Nat) : Int) := by
    rw [List.take_zero, show sumL [] = 0 from rfl]
    unfold wI
    rw [i64_wrap (by omega)]
    show (A.length : Int) + 0 = _
    omega
  have zm : A.length + ([] : List (List Pt)).length ≤ maxLen := Nat.le_trans (m := 140737488351232) (by show A.length + 0 ≤ 140737488351232; omega) (by decide)
  refine pcall_body (f := 13) Try.func13 rfl rfl rfl rfl ?_
  (repeat (first | ((with_reducible apply al_q); exact rfl) | ((with_reducible apply al_add); (iterate 3 exact rfl); (first | exact i64_wrap (by omega) | assumption | rfl); exact rfl) | ((with_reducible apply al_len); (iterate 3 exact rfl)) | ((with_reducible apply al_sl_hmF); (iterate 4 exact rfl); (first | assumption | omega); (first | assumption | omega); (first | assumption | rfl); (first | assumption | rfl); exact rfl) | ((with_reducible apply al_appF); (iterate 3 exact rfl); (first | exact le_maxLen (by omega) | assumption); (first | assumption | omega); (first | assumption | rfl); (first | assumption | rfl); exact rfl) | ((with_reducible apply al_nilS); kernel_rfl) | ((with_reducible apply awp_region_draw); kernel_rfl; kernel_rfl; exact rfl) | ((with_reducible apply awp_seq)) | ((with_reducible apply athen_normal)) | ((with_reducible apply awp_region)) | ((with_reducible apply al_nil)) | ((with_reducible apply awp_block))))
  refine awp_loopL 36 (MwI A A.length) A.length _ [] ⟨0, 0, _, Nat.zero_le _, rfl, rfl, z8, rfl, rfl⟩ rfl ⟨rfl, rfl, rfl, rfl, trivial⟩ trivial rfl ?_
  rintro n ts ms ⟨i, ii, c, hi, rfl, hii, hc, rfl, rfl⟩ hok
  clear hok z1 z2 z4 z5 z8 zm
  by_cases hq : i < A.length
  · have q2 : ii < (A.length : Int) := by omega
    have q3 : 0 ≤ ii := by omega
    obtain ⟨r, hri⟩ : ∃ r, A[i]? = some r := ⟨_, List.getElem?_eq_getElem hq⟩
    have E1 := ringsC_at hii hri
    have hs := sumL_take hri
    have hrl := hr r (List.mem_of_getElem? hri)
    obtain ⟨c', hc'⟩ : ∃ c', IntKind.wrap .i64 (c + r.length) = c' := ⟨_, rfl⟩
    have hcn : c' = wI ((A.length + sumL (A.take (i + 1)) : Nat) : Int) := by rw [← hc', hc, hs]; refine (wI_add _ _).trans ?_; unfold wI; congr 1; omega
    (repeat (first | ((with_reducible apply al_q); exact rfl) | ((with_reducible apply al_loadP1); (iterate 5 exact rfl)) | ((with_reducible apply al_idxS); (iterate 3 exact rfl); (first | decide | omega); (first | decide | omega); (first | assumption | rfl); exact rfl) | ((with_reducible apply al_add); (iterate 3 exact rfl); (first | exact i64_wrap (by omega) | assumption | rfl); exact rfl) | ((with_reducible apply al_len); (iterate 3 exact rfl)) | ((with_reducible apply awp_seq)) | ((with_reducible apply athen_normal)) | ((with_reducible apply awp_region)) | ((with_reducible apply al_nil)) | ((with_reducible apply awp_skip)) | ((with_reducible apply awp_block)) | ((with_reducible apply ablock_normal)) | ((with_reducible apply awp_cond_1); exact rfl; (first | assumption | exact decide_eq_true (by omega) | (simp only [Bool.not_eq_true', decide_eq_false_iff_not, decide_eq_true_eq, Bool.not_eq_false']; (first | done | omega))))))
    exact ⟨A.length - (i + 1), _, [], by omega, ⟨i + 1, ii + 1, c', hq, rfl, by omega, hcn, rfl, rfl⟩, rfl, ⟨rfl, rfl, rfl, rfl, trivial⟩, trivial, rfl⟩
  · have e : i = A.length := by omega
    subst e
    rw [List.take_length] at hc
    rw [← hc]
    (repeat (first | ((with_reducible apply al_q); exact rfl) | ((with_reducible apply awp_seq)) | ((with_reducible apply athen_normal)) | ((with_reducible apply awp_region)) | ((with_reducible apply al_nil)) | ((with_reducible apply awp_ret)) | ((with_reducible apply ablock_same)) | ((with_reducible apply awp_exit)) | ((with_reducible apply athen_exit)) | ((with_reducible apply awp_cond_0); exact rfl; (first | assumption | exact decide_eq_false (by omega) | (simp only [Bool.not_eq_true', decide_eq_false_iff_not, decide_eq_true_eq, Bool.not_eq_false']; (first | done | omega))))))
    (first | (refine apost_ret rfl (resl_tmp rfl resl_nil) ?_))
    exact AV.Le.refl _
def WwI (E : List (Pt × Pt)) (x y : Int) (i : Nat) (R : Rws) (css : List (List AC)) : Prop := ∃ c : Int, R = noRows ∧ css = [[.c (.int .i64 c)], [.c (.bool false)], [.c (.int .i64 x), .c (.int .i64 y)]] ∧ c = wI (wndE crR x y (E.take i)) ∧ anyE x y (E.take i) = false
set_option maxRecDepth 100000 in
set_option maxHeartbeats 8000000 in
theorem p_WindW {L : List (List Pt)} {x y : Int} (hL : L.length ≤ 4611686018427387904) (hr : ∀ r ∈ L, r.length ≤ 4611686018427387904) :
    PCall Try.prog 19 [.w (.one (ringsA L)), vI x, vI y] (vWnd (wI (wndL x y (edgsM L)).1) (wndL x y (edgsM L)).2) := by
  have S1 := p_around11 L
  have Q1 := iseq_around (L := L) hL hr
  have A1 := p_areRight hL hr
  cases hxy : rB x y with
  | false =>
    have e : wndL x y (edgsM L) = (0, false) := by unfold wndL; rw [hxy]; rfl
    rw [e, wI_0]
    have R0 := p_pRight hxy
    clear e hxy
    refine pcall_bodyR (f := 19) Try.func19 rfl rfl rfl rfl ?_
    (repeat (first | ((with_reducible apply rwt_seq)) | ((with_reducible apply rwt_region)) | ((with_reducible apply rwt_ret)) | ((with_reducible apply rthen_normal)) | ((with_reducible apply hs_nil)) | ((with_reducible apply rthen_ret)) | ((with_reducible apply hs_c); exact rfl; (repeat (first | ((with_reducible apply al_q); exact rfl) | (refine al_call1 rfl rfl rfl (by (first | exact R0 | exact A1)) rfl ?_))); (with_reducible apply al_nil)) | ((with_reducible apply rwt_cond_1); exact rfl; (first | assumption | exact decide_eq_true (by omega) | (simp only [Bool.not_eq_true', decide_eq_false_iff_not, decide_eq_true_eq, Bool.not_eq_false']; (first | done | omega)) | exact rfl))))
    (first | (refine apost_ret rfl (resl_agg rfl rfl rfl (resl_agg rfl rfl rfl resl_nil)) ?_) | (refine apost_ret rfl (resl_one rfl rfl rfl (resl_agg rfl rfl rfl resl_nil)) ?_) | (refine apost_ret rfl (resl_agg rfl rfl rfl (resl_one rfl rfl rfl resl_nil)) ?_) | (refine apost_ret rfl (resl_one rfl rfl rfl (resl_one rfl rfl rfl resl_nil)) ?_))
    exact AV.Le.refl _
  | true =>
    have R0 := p_pRight hxy
    cases hrt : (edgsM L).all rtE with
    | false =>
      have e : wndL x y (edgsM L) = (0, false) := by unfold wndL; rw [hrt, Bool.and_false]; rfl
      rw [e, wI_0]
      rw [hrt] at A1
      clear e hrt hxy
      refine pcall_bodyR (f := 19) Try.func19 rfl rfl rfl rfl ?_
      (repeat (first | ((with_reducible apply rwt_seq)) | ((with_reducible apply rwt_region)) | ((with_reducible apply rwt_ret)) | ((with_reducible apply rthen_normal)) | ((with_reducible apply hs_nil)) | ((with_reducible apply rthen_ret)) | ((with_reducible apply hs_c); exact rfl; (repeat (first | ((with_reducible apply al_q); exact rfl) | (refine al_call1 rfl rfl rfl (by (first | exact R0 | exact A1)) rfl ?_))); (with_reducible apply al_nil)) | ((with_reducible apply rwt_cond_1); exact rfl; (first | assumption | exact decide_eq_true (by omega) | (simp only [Bool.not_eq_true', decide_eq_false_iff_not, decide_eq_true_eq, Bool.not_eq_false']; (first | done | omega)) | exact rfl))))
      (first | (refine apost_ret rfl (resl_agg rfl rfl rfl (resl_agg rfl rfl rfl resl_nil)) ?_) | (refine apost_ret rfl (resl_one rfl rfl rfl (resl_agg rfl rfl rfl resl_nil)) ?_) | (refine apost_ret rfl (resl_agg rfl rfl rfl (resl_one rfl rfl rfl resl_nil)) ?_) | (refine apost_ret rfl (resl_one rfl rfl rfl (resl_one rfl rfl rfl resl_nil)) ?_))
      exact AV.Le.refl _
    | true =>
      have e : wndL x y (edgsM L) = wndV x y (edgsM L) := by unfold wndL; rw [hrt, hxy]; rfl
      rw [e]
      rw [hrt] at A1
      clear e
      have hends : ∀ e ∈ edgsM L, ptB e.1 = true ∧ ptB e.2 = true := fun e he => rt_ends hrt he
      clear hrt
      refine pcall_bodyR (f := 19) Try.func19 rfl rfl rfl rfl ?_
      (repeat (first | ((with_reducible apply rwt_seq)) | ((with_reducible apply rwt_region)) | ((with_reducible apply rwt_skip)) | ((with_reducible apply rwt_block)) | ((with_reducible apply rthen_normal)) | ((with_reducible apply hs_nil)) | ((with_reducible apply hs_c); exact rfl; (repeat (first | ((with_reducible apply al_q); exact rfl) | (refine al_call1 rfl rfl rfl (by (first | exact R0 | exact A1 | exact S1)) rfl ?_))); (with_reducible apply al_nil)) | ((with_reducible apply rwt_cond_0); exact rfl; (first | assumption | exact decide_eq_false (by omega) | (simp only [Bool.not_eq_true', decide_eq_false_iff_not, decide_eq_true_eq, Bool.not_eq_false']; (first | done | omega)) | exact rfl))))
      refine rwt_ren (swp 6 1006) (swp_swp _ _) ?_
      refine rwt_ren (swp 7 1007) (swp_swp _ _) ?_
      refine rwt_ren (swp 8 1008) (swp_swp _ _) ?_
      refine rwt_range 41 [(6, vOw11 1006), (7, vOw11 1007), (8, vOw11 1008)] [1006, 1007, 1008] [[.c (.int .i64 0)], [.c (.bool false)], [.c (.int .i64 x), .c (.int .i64 y)]] noRows (WwI (edgsM L) x y) (WdX (edgsM L) x y) rfl Q1 (by decide) vEd_hxs ?hp rfl ⟨rfl, rfl, rfl, trivial⟩ ⟨rfl, rfl, rfl, trivial⟩ (by decide) rfl rfl ⟨0, rfl, rfl, wI_0.symm, rfl⟩ (RLe.refl _) (fun i r h => by cases h) ?round ?done ?stop
      case hp =>
        intro p hp
        simp only [List.mem_cons, List.not_mem_nil, or_false] at hp
        rcases hp with rfl | rfl <;> exact ⟨by decide, rfl⟩
      case round =>
        rintro i z R css hx ⟨c, rfl, rfl, hc, hany⟩ hok
        rw [List.getElem?_map] at hx
        obtain ⟨⟨⟨x1, y1⟩, x2, y2⟩, he, rfl⟩ := Option.map_eq_some_iff.1 hx
        clear hx hok
        have hi := (List.getElem?_eq_some_iff.1 he).1
        obtain ⟨m1, m2⟩ := hends _ (List.mem_of_getElem? he)
        unfold ptB at m1 m2
        rw [Bool.and_eq_true] at m1 m2
        obtain ⟨m1, k1⟩ := m1
        obtain ⟨m2, k2⟩ := m2
        have T1 := p_twiceL m1
        have T2 := p_twiceL m2
        have O1 := p_On (p1 := x) (p2 := y) (a1 := 2 * x1) (a2 := 2 * y1) (b1 := 2 * x2) (b2 := 2 * y2) rfl
        rw [onB_rel hxy k1 k2] at O1
        have P1 := p_passes hxy k1 k2
        have hone := take_one he
        have ho : anyE x y ((edgsM L).take (i + 1)) = onR (2 * x1 - x) (2 * y1 - y) (2 * x2 - x) (2 * y2 - y) := by rw [hone, anyE_one, hany, Bool.false_or]; rfl
        have hw : IntKind.wrap .i64 (c + crR (2 * x1 - x) (2 * y1 - y) (2 * x2 - x) (2 * y2 - y)) = wI (wndE crR x y ((edgsM L).take (i + 1))) := by rw [hone, wndE_one, hc]; exact wI_add _ _
        cases hon : onR (2 * x1 - x) (2 * y1 - y) (2 * x2 - x) (2 * y2 - y) with
        | true =>
          have hX : anyE x y (edgsM L) = true := anyE_take he hon
          rw [hon] at O1
          clear hone ho hw hany hc he hon hends hxy m1 m2 k1 k2
          (repeat (first | ((with_reducible apply hs_nilS); kernel_rfl) | ((with_reducible apply rwp_draw (id := 7) [0,1,2,3,4,5]); kernel_rfl; kernel_rfl; exact rfl) | ((with_reducible apply rwp_seq)) | ((with_reducible apply rthen_normal)) | ((with_reducible apply rwp_region)) | ((with_reducible apply hs_nil)) | ((with_reducible apply rwp_ret)) | ((with_reducible apply rthen_ret)) | ((with_reducible apply rwp_block)) | ((with_reducible apply rblock_ret)) | ((with_reducible apply rwp_cond_1); exact rfl; (first | assumption | exact decide_eq_true (by omega) | (simp only [Bool.not_eq_true', decide_eq_false_iff_not, decide_eq_true_eq, Bool.not_eq_false']; (first | done | omega)) | exact rfl)) | ((with_reducible apply hs_c); exact rfl; (repeat (first | ((with_reducible apply al_q); exact rfl) | (refine al_call1 rfl rfl rfl (by (first | exact T1 | exact T2 | exact O1 | exact P1)) rfl ?_) | (refine al_call3 rfl rfl rfl rfl rfl (by (first | exact T1 | exact T2 | exact O1 | exact P1)) rfl ?_))); (with_reducible apply al_nil))))
          exact ⟨_, [[.c (.int .i64 0)], [.c (.bool true)], [.c (.int .i64 x), .c (.int .i64 y)]], ⟨rfl, rfl, rfl, hX⟩, RLe.refl _, (fun i r h => by cases h), rfl, ⟨rfl, rfl, rfl, trivial⟩, rfl⟩
        | false =>
          rw [hon] at O1 ho
          generalize crR (2 * x1 - x) (2 * y1 - y) (2 * x2 - x) (2 * y2 - y) = d at P1 hw
          generalize hc' : wI (wndE crR x y ((edgsM L).take (i + 1))) = c' at hw
          clear hone hany hc he hon hends hxy m1 m2 k1 k2
          (repeat (first | ((with_reducible apply hs_nilS); kernel_rfl) | ((with_reducible apply rwp_draw (id := 7) [0,1,2,3,4,5]); kernel_rfl; kernel_rfl; exact rfl) | ((with_reducible apply rwp_draw (id := 10) [0,1,2,3,4,5,6]); kernel_rfl; kernel_rfl; exact rfl) | ((with_reducible apply rwp_seq)) | ((with_reducible apply rthen_normal)) | ((with_reducible apply rwp_region)) | ((with_reducible apply hs_nil)) | ((with_reducible apply rwp_skip)) | ((with_reducible apply rwp_block)) | ((with_reducible apply rblock_normal)) | ((with_reducible apply rwp_cond_0); exact rfl; (first | assumption | exact decide_eq_false (by omega) | (simp only [Bool.not_eq_true', decide_eq_false_iff_not, decide_eq_true_eq, Bool.not_eq_false']; (first | done | omega)) | exact rfl)) | ((with_reducible apply hs_c); exact rfl; (repeat (first | ((with_reducible apply al_q); exact rfl) | ((with_reducible apply al_add); (iterate 3 exact rfl); (first | exact i64_wrap (by omega) | assumption | rfl); exact rfl) | (refine al_call1 rfl rfl rfl (by (first | exact T1 | exact T2 | exact O1 | exact P1)) rfl ?_) | (refine al_call3 rfl rfl rfl rfl rfl (by (first | exact T1 | exact T2 | exact O1 | exact P1)) rfl ?_))); (with_reducible apply al_nil))))
          exact ⟨_, [[.c (.int .i64 c')], [.c (.bool false)], [.c (.int .i64 x), .c (.int .i64 y)]], ⟨_, rfl, rfl, hc'.symm, ho⟩, RLe.refl _, (fun i r h => by cases h), rfl, ⟨rfl, rfl, rfl, trivial⟩, rfl⟩
      case done =>
        rintro R css ⟨c, rfl, rfl, hc, hany⟩ hok
        clear hok
        rw [List.length_map, List.take_length] at hc hany
        have e : wndV x y (edgsM L) = (wndE crR x y (edgsM L), false) := by
          unfold wndV
          rw [hany, if_neg (by simp)]
          have := wnd_rings (f := crR) (f' := cuR) (g := q1R) (fun _ _ _ _ h => crR_cuR h) (L := L) hany
          rw [show edgsM L = L.flatMap edgM from rfl, this]
        rw [e, ← hc]
        (repeat (first | ((with_reducible apply rwt_seq)) | ((with_reducible apply rwt_region)) | ((with_reducible apply rwt_ret)) | ((with_reducible apply rthen_normal)) | ((with_reducible apply hs_nil)) | ((with_reducible apply rblock_normal)) | ((with_reducible apply hs_c); exact rfl; (repeat (first | ((with_reducible apply al_q); exact rfl))); (with_reducible apply al_nil))))
        (first | (refine apost_ret rfl (resl_agg rfl rfl rfl (resl_agg rfl rfl rfl resl_nil)) ?_) | (refine apost_ret rfl (resl_one rfl rfl rfl (resl_agg rfl rfl rfl resl_nil)) ?_) | (refine apost_ret rfl (resl_agg rfl rfl rfl (resl_one rfl rfl rfl resl_nil)) ?_) | (refine apost_ret rfl (resl_one rfl rfl rfl (resl_one rfl rfl rfl resl_nil)) ?_))
        exact AV.Le.refl _
      case stop =>
        rintro e c R css he ⟨rfl, rfl, rfl, hX⟩ hok
        clear hok he
        have e : wndV x y (edgsM L) = (0, true) := by unfold wndV; rw [if_pos hX]
        rw [e, wI_0]
        (repeat (first | ((with_reducible apply rthen_ret)) | ((with_reducible apply rblock_ret))))
        (first | (refine apost_ret rfl (resl_agg rfl rfl rfl (resl_agg rfl rfl rfl resl_nil)) ?_) | (refine apost_ret rfl (resl_one rfl rfl rfl (resl_agg rfl rfl rfl resl_nil)) ?_) | (refine apost_ret rfl (resl_agg rfl rfl rfl (resl_one rfl rfl rfl resl_nil)) ?_) | (refine apost_ret rfl (resl_one rfl rfl rfl (resl_one rfl rfl rfl resl_nil)) ?_))
        exact AV.Le.refl _
end Go.Proofs.Ytlfkllmnekdghaa

