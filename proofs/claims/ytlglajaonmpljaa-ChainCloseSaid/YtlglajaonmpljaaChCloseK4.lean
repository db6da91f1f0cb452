/-
  My own texts, without what this claim does not need. My own text.
-/
import Derived.Test.YtlglajaonmpljaaProg
import Derived.ProofKit
import Derived.OpenShut
import Derived.Deep.DeepHandedRow
import Derived.Lib.LaidTab
import Derived.Lib.SmallJoins
import Derived.Laws.BytesArg
import Derived.Test.YtlglajaonmpljaaChCloseK3
namespace Go.Proofs.Ytlglajaonmpljaa
open Go.RowKit
set_option linter.unusedVariables false
set_option linter.unusedSimpArgs false
instance iPixB_1 : IPart Try.prog 111 4 false 1 := ⟨by kernel_rfl⟩
abbrev vBox (l1 l2 h1 h2 : Int) (o p : Bool) : AV := .w (.agg [.c (.int .i64 l1), .c (.int .i64 l2), .c (.int .i64 h1), .c (.int .i64 h2), .c (.bool o), .c (.bool p)])
/-- a corner's number may be so great. -/
def cb6 (n : Int) : Bool := decide (-536870912 ≤ n) && decide (n ≤ 536870912)
theorem cb6_iff {n : Int} : cb6 n = true ↔ -536870912 ≤ n ∧ n ≤ 536870912 := by unfold cb6; simp
def co6 (x y : Int) : Bool := cb6 x && cb6 y
theorem co6_iff {x y : Int} : co6 x y = true ↔ (-536870912 ≤ x ∧ x ≤ 536870912) ∧ -536870912 ≤ y ∧ y ≤ 536870912 := by unfold co6; rw [Bool.and_eq_true, cb6_iff, cb6_iff]
def kd6 (k : Int) : Bool := decide (0 ≤ k) && decide (k ≤ 2)
set_option maxRecDepth 100000 in
set_option maxHeartbeats 4000000 in
theorem p_cutLeft {a1 a2 b1 b2 l1 l2 h1 h2 n d m e n' d' m' e' : Int} {o p q r q' r' : Bool} (ha : -134217728 ≤ a1 ∧ a1 ≤ 134217728) (hb : -134217728 ≤ b1 ∧ b1 ≤ 134217728) (hl : -536870912 ≤ l1 ∧ l1 ≤ 536870912)
    (C1 : PCall Try.prog 83 [vPart a1 a2 b1 b2 n d q m e r, vI (2 * a1 - l1), vI (2 * b1 - l1), vB o] (vPart a1 a2 b1 b2 n' d' q' m' e' r')) : PCall Try.prog 61 [vBox l1 l2 h1 h2 o p, vPart a1 a2 b1 b2 n d q m e r] (vPart a1 a2 b1 b2 n' d' q' m' e' r') := by
  refine pcall_body (f := 61) Try.func61 rfl rfl rfl rfl ?_
  (repeat (first | ((with_reducible apply al_q); exact rfl) | ((with_reducible apply al_sub); (iterate 3 exact rfl); (first | exact i64_wrap (by omega) | assumption | rfl); exact rfl) | ((with_reducible apply al_mul); (iterate 3 exact rfl); (first | exact i64_wrap (by omega) | assumption | rfl); exact rfl) | (refine al_call4 rfl rfl rfl rfl rfl rfl (by (first | exact C1)) rfl ?_) | ((with_reducible apply awp_seq)) | ((with_reducible apply athen_normal)) | ((with_reducible apply awp_region)) | ((with_reducible apply al_nil)) | ((with_reducible apply awp_ret))))
  (first | (refine apost_ret rfl (resl_agg rfl rfl rfl resl_nil) ?_) | (refine apost_ret rfl (resl_one rfl rfl rfl resl_nil) ?_))
  exact AV.Le.refl _
set_option maxRecDepth 100000 in
set_option maxHeartbeats 4000000 in
theorem p_cutBelow {a1 a2 b1 b2 l1 l2 h1 h2 n d m e n' d' m' e' : Int} {o p q r q' r' : Bool} (ha : -134217728 ≤ a2 ∧ a2 ≤ 134217728) (hb : -134217728 ≤ b2 ∧ b2 ≤ 134217728) (hl : -536870912 ≤ l2 ∧ l2 ≤ 536870912)
    (C1 : PCall Try.prog 83 [vPart a1 a2 b1 b2 n d q m e r, vI (2 * a2 - l2), vI (2 * b2 - l2), vB o] (vPart a1 a2 b1 b2 n' d' q' m' e' r')) : PCall Try.prog 62 [vBox l1 l2 h1 h2 o p, vPart a1 a2 b1 b2 n d q m e r] (vPart a1 a2 b1 b2 n' d' q' m' e' r') := by
  refine pcall_body (f := 62) Try.func62 rfl rfl rfl rfl ?_
  (repeat (first | ((with_reducible apply al_q); exact rfl) | ((with_reducible apply al_sub); (iterate 3 exact rfl); (first | exact i64_wrap (by omega) | assumption | rfl); exact rfl) | ((with_reducible apply al_mul); (iterate 3 exact rfl); (first | exact i64_wrap (by omega) | assumption | rfl); exact rfl) | (refine al_call4 rfl rfl rfl rfl rfl rfl (by (first | exact C1)) rfl ?_) | ((with_reducible apply awp_seq)) | ((with_reducible apply athen_normal)) | ((with_reducible apply awp_region)) | ((with_reducible apply al_nil)) | ((with_reducible apply awp_ret))))
  (first | (refine apost_ret rfl (resl_agg rfl rfl rfl resl_nil) ?_) | (refine apost_ret rfl (resl_one rfl rfl rfl resl_nil) ?_))
  exact AV.Le.refl _
set_option maxRecDepth 100000 in
set_option maxHeartbeats 4000000 in
theorem p_cutRight {a1 a2 b1 b2 l1 l2 h1 h2 n d m e n' d' m' e' : Int} {o p q r q' r' : Bool} (ha : -134217728 ≤ a1 ∧ a1 ≤ 134217728) (hb : -134217728 ≤ b1 ∧ b1 ≤ 134217728) (hl : -536870912 ≤ h1 ∧ h1 ≤ 536870912)
    (C1 : PCall Try.prog 83 [vPart a1 a2 b1 b2 n d q m e r, vI (h1 - 2 * a1), vI (h1 - 2 * b1), vB p] (vPart a1 a2 b1 b2 n' d' q' m' e' r')) : PCall Try.prog 63 [vBox l1 l2 h1 h2 o p, vPart a1 a2 b1 b2 n d q m e r] (vPart a1 a2 b1 b2 n' d' q' m' e' r') := by
  refine pcall_body (f := 63) Try.func63 rfl rfl rfl rfl ?_
  (repeat (first | ((with_reducible apply al_q); exact rfl) | ((with_reducible apply al_sub); (iterate 3 exact rfl); (first | exact i64_wrap (by omega) | assumption | rfl); exact rfl) | ((with_reducible apply al_mul); (iterate 3 exact rfl); (first | exact i64_wrap (by omega) | assumption | rfl); exact rfl) | (refine al_call4 rfl rfl rfl rfl rfl rfl (by (first | exact C1)) rfl ?_) | ((with_reducible apply awp_seq)) | ((with_reducible apply athen_normal)) | ((with_reducible apply awp_region)) | ((with_reducible apply al_nil)) | ((with_reducible apply awp_ret))))
  (first | (refine apost_ret rfl (resl_agg rfl rfl rfl resl_nil) ?_) | (refine apost_ret rfl (resl_one rfl rfl rfl resl_nil) ?_))
  exact AV.Le.refl _
set_option maxRecDepth 100000 in
set_option maxHeartbeats 4000000 in
theorem p_cutAbove {a1 a2 b1 b2 l1 l2 h1 h2 n d m e n' d' m' e' : Int} {o p q r q' r' : Bool} (ha : -134217728 ≤ a2 ∧ a2 ≤ 134217728) (hb : -134217728 ≤ b2 ∧ b2 ≤ 134217728) (hl : -536870912 ≤ h2 ∧ h2 ≤ 536870912)
    (C1 : PCall Try.prog 83 [vPart a1 a2 b1 b2 n d q m e r, vI (h2 - 2 * a2), vI (h2 - 2 * b2), vB p] (vPart a1 a2 b1 b2 n' d' q' m' e' r')) : PCall Try.prog 64 [vBox l1 l2 h1 h2 o p, vPart a1 a2 b1 b2 n d q m e r] (vPart a1 a2 b1 b2 n' d' q' m' e' r') := by
  refine pcall_body (f := 64) Try.func64 rfl rfl rfl rfl ?_
  (repeat (first | ((with_reducible apply al_q); exact rfl) | ((with_reducible apply al_sub); (iterate 3 exact rfl); (first | exact i64_wrap (by omega) | assumption | rfl); exact rfl) | ((with_reducible apply al_mul); (iterate 3 exact rfl); (first | exact i64_wrap (by omega) | assumption | rfl); exact rfl) | (refine al_call4 rfl rfl rfl rfl rfl rfl (by (first | exact C1)) rfl ?_) | ((with_reducible apply awp_seq)) | ((with_reducible apply athen_normal)) | ((with_reducible apply awp_region)) | ((with_reducible apply al_nil)) | ((with_reducible apply awp_ret))))
  (first | (refine apost_ret rfl (resl_agg rfl rfl rfl resl_nil) ?_) | (refine apost_ret rfl (resl_one rfl rfl rfl resl_nil) ?_))
  exact AV.Le.refl _
set_option maxRecDepth 100000 in
set_option maxHeartbeats 4000000 in
theorem p_allOf {a1 a2 b1 b2 : Int} : PCall Try.prog 60 [vP a1 a2, vP b1 b2] (vPaB a1 a2 b1 b2 alB) := by
  refine pcall_body (f := 60) Try.func60 rfl rfl rfl rfl ?_
  (repeat (first | ((with_reducible apply al_q); exact rfl) | ((with_reducible apply awp_seq)) | ((with_reducible apply athen_normal)) | ((with_reducible apply awp_region)) | ((with_reducible apply al_nil)) | ((with_reducible apply awp_ret))))
  (first | (refine apost_ret rfl (resl_agg rfl rfl rfl resl_nil) ?_) | (refine apost_ret rfl (resl_one rfl rfl rfl resl_nil) ?_))
  exact AV.Le.refl _
set_option maxRecDepth 100000 in
set_option maxHeartbeats 4000000 in
theorem p_hasAny' {a1 a2 b1 b2 n d m e c : Int} {o q r : Bool} (C1 : PCall Try.prog 84 [vBd n d o, vBd m e q] (vI c)) (cs : (c < 0 ∧ r = true) ∨ (¬ c < 0 ∧ c = 0 ∧ o = true ∧ r = q) ∨ (¬ c < 0 ∧ c = 0 ∧ o = false ∧ r = false) ∨ (¬ c < 0 ∧ ¬ c = 0 ∧ r = false)) : PCall Try.prog 65 [vPart a1 a2 b1 b2 n d o m e q] (vB r) := by
  rcases cs with ⟨q1, rfl⟩ | ⟨q1, q2, rfl, rfl⟩ | ⟨q1, q2, rfl, rfl⟩ | ⟨q1, q2, rfl⟩
  all_goals
    refine pcall_body (f := 65) Try.func65 rfl rfl rfl rfl ?_
    (repeat (first | ((with_reducible apply al_q); exact rfl) | (refine al_call2 rfl rfl rfl rfl (by (first | exact C1)) rfl ?_) | ((with_reducible apply al_guard_b (c := true)); exact rfl; exact rfl; (first | assumption | exact decide_eq_true (by omega) | (simp only [Bool.not_eq_true', decide_eq_false_iff_not, decide_eq_true_eq, Bool.not_eq_false']; (first | done | omega)))) | ((with_reducible apply al_guard_b (c := false)); exact rfl; exact rfl; (first | assumption | exact decide_eq_false (by omega) | (simp only [Bool.not_eq_true', decide_eq_false_iff_not, decide_eq_true_eq, Bool.not_eq_false']; (first | done | omega)))) | ((with_reducible apply awp_seq)) | ((with_reducible apply athen_normal)) | ((with_reducible apply awp_region)) | ((with_reducible apply al_nil)) | ((with_reducible apply awp_ret))))
    (first | (refine apost_ret rfl (resl_tmp rfl resl_nil) ?_))
    exact AV.Le.refl _
theorem p_hasAny {a1 a2 b1 b2 : Int} {p : Pa} (hp : PaOK p) : PCall Try.prog 65 [vPaB a1 a2 b1 b2 p] (vB (anB p)) := by
  refine p_hasAny' (p_xcompare hp.1 hp.2) ?_
  unfold anB
  by_cases h1 : cmB p.f p.t < 0
  · exact .inl ⟨h1, by rw [decide_eq_true h1]; rfl⟩
  · rw [decide_eq_false h1]
    by_cases h2 : cmB p.f p.t = 0
    · rw [decide_eq_true h2]
      cases h3 : p.f.own with
      | true => exact .inr (.inl ⟨h1, h2, rfl, rfl⟩)
      | false => exact .inr (.inr (.inl ⟨h1, h2, rfl, rfl⟩))
    · exact .inr (.inr (.inr ⟨h1, h2, by rw [decide_eq_false h2]; rfl⟩))
set_option maxRecDepth 100000 in
set_option maxHeartbeats 4000000 in
theorem p_far6 {n : Int} {b : Bool} (hb : cb6 n = b) : PCall Try.prog 82 [vI n] (vB b) := by
  have cs : (-536870912 ≤ n ∧ n ≤ 536870912 ∧ b = true) ∨ (-536870912 ≤ n ∧ ¬ n ≤ 536870912 ∧ b = false) ∨ (¬ -536870912 ≤ n ∧ b = false) := by
    rw [← hb]; unfold cb6
    by_cases h1 : -536870912 ≤ n <;> by_cases h2 : n ≤ 536870912 <;> simp [h1, h2]
  clear hb
  rcases cs with ⟨h1, h2, rfl⟩ | ⟨h1, h2, rfl⟩ | ⟨h1, rfl⟩
  all_goals
    refine pcall_body (f := 82) Try.func82 rfl rfl rfl rfl ?_
    (repeat (first | ((with_reducible apply al_q); exact rfl) | ((with_reducible apply al_guard_b (c := true)); exact rfl; exact rfl; (first | assumption | exact decide_eq_true (by omega) | (simp only [Bool.not_eq_true', decide_eq_false_iff_not, decide_eq_true_eq, Bool.not_eq_false']; (first | done | omega)))) | ((with_reducible apply al_guard_b (c := false)); exact rfl; exact rfl; (first | assumption | exact decide_eq_false (by omega) | (simp only [Bool.not_eq_true', decide_eq_false_iff_not, decide_eq_true_eq, Bool.not_eq_false']; (first | done | omega)))) | ((with_reducible apply awp_seq)) | ((with_reducible apply athen_normal)) | ((with_reducible apply awp_region)) | ((with_reducible apply al_nil)) | ((with_reducible apply awp_ret))))
    (first | (refine apost_ret rfl (resl_tmp rfl resl_nil) ?_))
    first | exact AV.Le.refl _ | exact AV.Le.of_eq (by rw [decide_eq_true h2]; rfl) | exact AV.Le.of_eq (by rw [decide_eq_false h2]; rfl)
set_option maxRecDepth 100000 in
set_option maxHeartbeats 4000000 in
theorem p_isCorner {x y : Int} {b : Bool} (hb : co6 x y = b) : PCall Try.prog 58 [vP x y] (vB b) := by
  have C1 := p_far6 (n := x) rfl
  have C2 := p_far6 (n := y) rfl
  unfold co6 at hb
  cases q1 : cb6 x <;> cases q2 : cb6 y <;> rw [q1] at C1 <;> rw [q2] at C2 <;> rw [q1, q2] at hb <;> subst hb <;> clear q1 q2
  all_goals
    refine pcall_body (f := 58) Try.func58 rfl rfl rfl rfl ?_
    (repeat (first | ((with_reducible apply al_q); exact rfl) | (refine al_call1 rfl rfl rfl (by (first | exact C1 | exact C2)) rfl ?_) | ((with_reducible apply awp_seq)) | ((with_reducible apply athen_normal)) | ((with_reducible apply awp_region)) | ((with_reducible apply al_nil)) | ((with_reducible apply awp_ret))))
    (first | (refine apost_ret rfl (resl_tmp rfl resl_nil) ?_))
    exact AV.Le.refl _
set_option maxRecDepth 100000 in
set_option maxHeartbeats 4000000 in
theorem p_isKind {k : Int} {b : Bool} (hb : kd6 k = b) : PCall Try.prog 59 [vI k] (vB b) := by
  have cs : (k = 0 ∧ b = true) ∨ (¬ k = 0 ∧ k = 1 ∧ b = true) ∨ (¬ k = 0 ∧ ¬ k = 1 ∧ k = 2 ∧ b = true) ∨ (¬ k = 0 ∧ ¬ k = 1 ∧ ¬ k = 2 ∧ b = false) := by
    rw [← hb]; unfold kd6
    by_cases h1 : k = 0
    · exact .inl ⟨h1, by subst h1; rfl⟩
    · by_cases h2 : k = 1
      · exact .inr (.inl ⟨h1, h2, by subst h2; rfl⟩)
      · by_cases h3 : k = 2
        · exact .inr (.inr (.inl ⟨h1, h2, h3, by subst h3; rfl⟩))
        · refine .inr (.inr (.inr ⟨h1, h2, h3, ?_⟩))
          rw [Bool.and_eq_false_iff, decide_eq_false_iff_not, decide_eq_false_iff_not]
          omega
  clear hb
  rcases cs with ⟨h1, rfl⟩ | ⟨h1, h2, rfl⟩ | ⟨h1, h2, h3, rfl⟩ | ⟨h1, h2, h3, rfl⟩
  all_goals
    refine pcall_body (f := 59) Try.func59 rfl rfl rfl rfl ?_
    (repeat (first | ((with_reducible apply al_q); exact rfl) | ((with_reducible apply al_guard_b (c := true)); exact rfl; exact rfl; (first | assumption | exact decide_eq_true (by omega) | (simp only [Bool.not_eq_true', decide_eq_false_iff_not, decide_eq_true_eq, Bool.not_eq_false']; (first | done | omega)))) | ((with_reducible apply al_guard_b (c := false)); exact rfl; exact rfl; (first | assumption | exact decide_eq_false (by omega) | (simp only [Bool.not_eq_true', decide_eq_false_iff_not, decide_eq_true_eq, Bool.not_eq_false']; (first | done | omega)))) | ((with_reducible apply awp_seq)) | ((with_reducible apply athen_normal)) | ((with_reducible apply awp_region)) | ((with_reducible apply al_nil)) | ((with_reducible apply awp_ret))))
    (first | (refine apost_ret rfl (resl_tmp rfl resl_nil) ?_))
    first | exact AV.Le.refl _ | exact AV.Le.of_eq (by rw [decide_eq_true h3]; rfl) | exact AV.Le.of_eq (by rw [decide_eq_false h3]; rfl)
set_option maxRecDepth 100000 in
set_option maxHeartbeats 8000000 in
theorem p_Meets' {a1 a2 b1 b2 l1 l2 h1 h2 k : Int} {o p r : Bool} {n1 d1 m1 e1 n2 d2 m2 e2 n3 d3 m3 e3 n4 d4 m4 e4 : Int} {q1 r1 q2 r2 q3 r3 q4 r4 : Bool} (R1 : PCall Try.prog 46 [vP a1 a2] (vB true)) (R2 : PCall Try.prog 46 [vP b1 b2] (vB true)) (K1 : PCall Try.prog 58 [vP l1 l2] (vB true)) (K2 : PCall Try.prog 58 [vP h1 h2] (vB true)) (K3 : PCall Try.prog 59 [vI k] (vB true))
    (eo : (!decide (k = 2)) = o) (ep : decide (k = 1) = p) (A0 : PCall Try.prog 60 [vP a1 a2, vP b1 b2] (vPart a1 a2 b1 b2 0 1 true 1 1 true))
    (C1 : PCall Try.prog 61 [vBox l1 l2 h1 h2 o p, vPart a1 a2 b1 b2 0 1 true 1 1 true] (vPart a1 a2 b1 b2 n1 d1 q1 m1 e1 r1))
    (C2 : PCall Try.prog 62 [vBox l1 l2 h1 h2 o p, vPart a1 a2 b1 b2 n1 d1 q1 m1 e1 r1] (vPart a1 a2 b1 b2 n2 d2 q2 m2 e2 r2))
    (C3 : PCall Try.prog 63 [vBox l1 l2 h1 h2 o p, vPart a1 a2 b1 b2 n2 d2 q2 m2 e2 r2] (vPart a1 a2 b1 b2 n3 d3 q3 m3 e3 r3))
    (C4 : PCall Try.prog 64 [vBox l1 l2 h1 h2 o p, vPart a1 a2 b1 b2 n3 d3 q3 m3 e3 r3] (vPart a1 a2 b1 b2 n4 d4 q4 m4 e4 r4))
    (H1 : PCall Try.prog 65 [vPart a1 a2 b1 b2 n4 d4 q4 m4 e4 r4] (vB r)) :
    PCall Try.prog 47 [vP a1 a2, vP b1 b2, vP l1 l2, vP h1 h2, vI k] (vB r) := by
  subst eo
  subst ep
  refine pcall_body (f := 47) Try.func47 rfl rfl rfl rfl ?_
  (repeat (first | ((with_reducible apply al_q); exact rfl) | ((with_reducible apply al_mkfnb); (iterate 4 exact rfl)) | (refine al_call1 rfl rfl rfl (by (first | exact R1 | exact R2 | exact K1 | exact K2 | exact K3 | exact A0)) rfl ?_) | (refine al_call2 rfl rfl rfl rfl (by (first | exact R1 | exact R2 | exact K1 | exact K2 | exact K3 | exact A0)) rfl ?_) | ((with_reducible apply awp_seq)) | ((with_reducible apply athen_normal)) | ((with_reducible apply awp_region)) | ((with_reducible apply al_nil)) | ((with_reducible apply awp_skip)) | ((with_reducible apply awp_block)) | ((with_reducible apply awp_cond_f); exact rfl)))
  refine awp_roll 5 ?_
  (repeat (first | ((with_reducible apply al_q); exact rfl) | ((with_reducible apply al_add); (iterate 3 exact rfl); (first | exact i64_wrap (by omega) | assumption | rfl); exact rfl) | ((with_reducible apply al_indexV1); (iterate 3 exact rfl); (first | decide | omega); (first | decide | omega); (first | assumption | rfl); exact rfl) | (refine al_call1 rfl rfl rfl (by (first | exact C1 | exact C2 | exact C3 | exact C4 | exact H1)) rfl ?_) | (refine al_callb (bs := [_]) (args := [_]) rfl rfl rfl rfl (by (first | exact C1 | exact C2 | exact C3 | exact C4 | exact H1)) rfl ?_) | ((with_reducible apply awp_seq)) | ((with_reducible apply athen_normal)) | ((with_reducible apply awp_region)) | ((with_reducible apply al_nil)) | ((with_reducible apply awp_ret)) | ((with_reducible apply awp_skip)) | ((with_reducible apply awp_block)) | ((with_reducible apply ablock_normal)) | ((with_reducible apply ablock_same)) | ((with_reducible apply awp_exit)) | ((with_reducible apply athen_exit)) | ((with_reducible apply roll_succ)) | ((with_reducible apply awp_cond_t); exact rfl) | ((with_reducible apply awp_cond_f); exact rfl)))
  (first | (refine apost_ret rfl (resl_tmp rfl resl_nil) ?_))
  exact AV.Le.refl _
end Go.Proofs.Ytlglajaonmpljaa

namespace Go.Proofs.Ytlglajaonmpljaa
open Go.RowKit
set_option linter.unusedVariables false
set_option linter.unusedSimpArgs false
theorem nb5 {n : Int} (h0 : -9223372036854775808 ≤ n) (h1 : n < 9223372036854775808) : NB 5 n := by unfold NB; omega
/-- is a number (twice, as a fraction) from low to high? -/
def wiB (x y low high kind : Int) : Bool := (decide (icmp (low * y) (x * 1) < 0) || (decide (icmp (low * y) (x * 1) = 0) && !decide (kind = 2))) && (decide (icmp (x * 1) (high * y) < 0) || (decide (icmp (x * 1) (high * y) = 0) && decide (kind = 1)))
/-- the cells of fractions. -/
def frC : List (Int × Int) → List AC
  | [] => []
  | (n, d) :: l => .c (.bool (decide (n < 0))) :: .p (NumP n) :: .c (.bool (decide (d < 0))) :: .p (NumP d) :: frC l
abbrev vFs (l : List (Int × Int)) : AV := vS 4 l.length (frC l)
/-- how far on the way a number is as great as a limit. -/
def waV (a b lim : Int) : List (Int × Int) :=
  let n := lim - 2 * a
  let d := 2 * (b - a)
  let n' := if d < 0 then -n else n
  let d' := if d < 0 then -d else d
  if d' = 0 ∨ n' < 0 ∨ d' < n' then [] else [(n', d')]
end Go.Proofs.Ytlglajaonmpljaa

namespace Go.Proofs.Ytlglajaonmpljaa
open Go.RowKit
set_option linter.unusedVariables false
set_option linter.unusedSimpArgs false
instance iPixS_1 : RowTy Try.prog 117 69 4 64 := ⟨by kernel_rfl⟩
/-- the middle of two fractions, as it is written. -/
def midP (p q : Int × Int) : Int × Int := (p.1 * q.2 + q.1 * p.2, p.2 * q.2 + p.2 * q.2)
def atP (L : List (Int × Int)) (i : Nat) : Int × Int := L.getD i (0, 1)
def rwMid (L : List (Int × Int)) (i k : Nat) : List (Int × Int) := (List.range k).map fun j => midP (atP L i) (atP L j)
def midsN (L : List (Int × Int)) (i : Nat) : List (Int × Int) := (List.range i).flatMap fun j => rwMid L j j
abbrev ptM (a1 a2 b1 b2 l1 l2 h1 h2 : Int) : List (Nat × List AC) := [(5, [.c (.int .i64 a1), .c (.int .i64 a2)]), (6, [.c (.int .i64 b1), .c (.int .i64 b2)]), (7, [.c (.int .i64 l1), .c (.int .i64 l2)]), (8, [.c (.int .i64 h1), .c (.int .i64 h2)])]
abbrev frRow (v : Value) (C : List (Int × Int)) : HRow := ⟨69, 4, v, C.length, frC C⟩
def MeO (L : List (Int × Int)) (N a1 a2 b1 b2 l1 l2 h1 h2 kind : Int) (m : Nat) (R : Rws) (ts : List (Nat × AV)) (ms : List (Nat × List AC)) : Prop :=
  ∃ (i : Nat) (v : Value) (j : Int), i ≤ L.length ∧ m = L.length - i ∧ j = i ∧ R = row1 0 (frRow v (L ++ midsN L i))
    ∧ ts = [(4, vI kind), (5, vO 5 0), (6, vO 6 0), (7, vO 7 0), (8, vO 8 0), (11, vC v), (12, vI N), (13, vI j)] ∧ ms = ptM a1 a2 b1 b2 l1 l2 h1 h2
def MeN (L : List (Int × Int)) (N a1 a2 b1 b2 l1 l2 h1 h2 kind : Int) (i : Nat) (ji : Int) (m : Nat) (R : Rws) (ts : List (Nat × AV)) (ms : List (Nat × List AC)) : Prop :=
  ∃ (k : Nat) (v : Value) (j : Int), k ≤ i ∧ m = i - k ∧ j = k ∧ R = row1 0 (frRow v (L ++ midsN L i ++ rwMid L i k))
    ∧ ts = [(4, vI kind), (5, vO 5 0), (6, vO 6 0), (7, vO 7 0), (8, vO 8 0), (11, vC v), (12, vI N), (13, vI ji), (14, vI j)] ∧ ms = ptM a1 a2 b1 b2 l1 l2 h1 h2
def MeF (F : List (Int × Int)) (g : Int × Int → Bool) (a1 a2 b1 b2 l1 l2 h1 h2 kind : Int) (m : Nat) (ts : List (Nat × AV)) (ms : List (Nat × List AC)) : Prop :=
  ∃ (i : Nat) (j : Int), i ≤ F.length ∧ m = F.length - i ∧ j = i ∧ (F.take i).any g = false
    ∧ ts = [(4, vI kind), (5, vO 5 0), (6, vO 6 0), (7, vO 7 0), (8, vO 8 0), (11, vFs F), (16, vI j)] ∧ ms = ptM a1 a2 b1 b2 l1 l2 h1 h2
end Go.Proofs.Ytlglajaonmpljaa

namespace Go.Proofs.Ytlglajaonmpljaa
open Go.RowKit
set_option linter.unusedVariables false
set_option linter.unusedSimpArgs false
/-- what Meets answers. -/
def cutV (a1 a2 b1 b2 l1 l2 h1 h2 k : Int) : Pa := cut4 (2 * a1 - l1) (2 * b1 - l1) (2 * a2 - l2) (2 * b2 - l2) (h1 - 2 * a1) (h1 - 2 * b1) (h2 - 2 * a2) (h2 - 2 * b2) (!decide (k = 2)) (decide (k = 1))
def meR (a1 a2 b1 b2 l1 l2 h1 h2 k : Int) : Bool := rB5 a1 a2 && rB5 b1 b2 && co6 l1 l2 && co6 h1 h2 && kd6 k
def meB (a1 a2 b1 b2 l1 l2 h1 h2 k : Int) : Bool := meR a1 a2 b1 b2 l1 l2 h1 h2 k && anB (cutV a1 a2 b1 b2 l1 l2 h1 h2 k)
set_option maxRecDepth 100000 in
set_option maxHeartbeats 8000000 in
theorem p_Meets_no {a1 a2 b1 b2 l1 l2 h1 h2 k : Int} {r1 r2 r3 r4 r5 : Bool} (R1 : PCall Try.prog 46 [vP a1 a2] (vB r1)) (R2 : PCall Try.prog 46 [vP b1 b2] (vB r2)) (K1 : PCall Try.prog 58 [vP l1 l2] (vB r3)) (K2 : PCall Try.prog 58 [vP h1 h2] (vB r4)) (K3 : PCall Try.prog 59 [vI k] (vB r5)) (h : (r1 && r2 && r3 && r4 && r5) = false) :
    PCall Try.prog 47 [vP a1 a2, vP b1 b2, vP l1 l2, vP h1 h2, vI k] (vB false) := by
  have cs : r1 = false ∨ (r1 = true ∧ r2 = false) ∨ (r1 = true ∧ r2 = true ∧ r3 = false) ∨ (r1 = true ∧ r2 = true ∧ r3 = true ∧ r4 = false) ∨ (r1 = true ∧ r2 = true ∧ r3 = true ∧ r4 = true ∧ r5 = false) := by
    cases r1 <;> cases r2 <;> cases r3 <;> cases r4 <;> cases r5 <;> simp_all
  clear h
  rcases cs with rfl | ⟨rfl, rfl⟩ | ⟨rfl, rfl, rfl⟩ | ⟨rfl, rfl, rfl, rfl⟩ | ⟨rfl, rfl, rfl, rfl, rfl⟩
  all_goals
    refine pcall_body (f := 47) Try.func47 rfl rfl rfl rfl ?_
    (repeat (first | ((with_reducible apply al_q); exact rfl) | (refine al_call1 rfl rfl rfl (by (first | exact R1 | exact R2 | exact K1 | exact K2 | exact K3)) rfl ?_) | ((with_reducible apply awp_seq)) | ((with_reducible apply athen_normal)) | ((with_reducible apply awp_region)) | ((with_reducible apply al_nil)) | ((with_reducible apply awp_ret)) | ((with_reducible apply athen_ret)) | ((with_reducible apply awp_cond_t); exact rfl)))
    (first | (refine apost_ret rfl (resl_tmp rfl resl_nil) ?_))
    exact AV.Le.refl _
theorem alB_ok : PaOK alB := ⟨⟨by decide, by decide⟩, ⟨by decide, by decide⟩⟩
theorem p_Meets {a1 a2 b1 b2 l1 l2 h1 h2 k : Int} : PCall Try.prog 47 [vP a1 a2, vP b1 b2, vP l1 l2, vP h1 h2, vI k] (vB (meB a1 a2 b1 b2 l1 l2 h1 h2 k)) := by
  unfold meB
  cases hr : meR a1 a2 b1 b2 l1 l2 h1 h2 k with
  | false => exact p_Meets_no (p_cRight rfl) (p_cRight rfl) (p_isCorner rfl) (p_isCorner rfl) (p_isKind rfl) hr
  | true =>
    rw [Bool.true_and]
    unfold meR at hr
    simp only [Bool.and_eq_true] at hr
    obtain ⟨⟨⟨⟨ra, rb⟩, rl⟩, rh⟩, rk⟩ := hr
    have ia := rB5_iff.1 ra
    have ib := rB5_iff.1 rb
    have il := co6_iff.1 rl
    have ih := co6_iff.1 rh
    unfold cutV cut4
    have o1 := kp_ok (u := 2 * a1 - l1) (v := 2 * b1 - l1) (w := !decide (k = 2)) alB_ok (by omega) (by omega)
    have o2 := kp_ok (u := 2 * a2 - l2) (v := 2 * b2 - l2) (w := !decide (k = 2)) o1 (by omega) (by omega)
    have o3 := kp_ok (u := h1 - 2 * a1) (v := h1 - 2 * b1) (w := decide (k = 1)) o2 (by omega) (by omega)
    have o4 := kp_ok (u := h2 - 2 * a2) (v := h2 - 2 * b2) (w := decide (k = 1)) o3 (by omega) (by omega)
    exact p_Meets' (p_cRight ra) (p_cRight rb) (p_isCorner rl) (p_isCorner rh) (p_isKind rk) rfl rfl p_allOf (p_cutLeft ia.1 ib.1 il.1 (p_keep alB_ok (by omega) (by omega))) (p_cutBelow ia.2 ib.2 il.2 (p_keep o1 (by omega) (by omega))) (p_cutRight ia.1 ib.1 ih.1 (p_keep o2 (by omega) (by omega))) (p_cutAbove ia.2 ib.2 ih.2 (p_keep o3 (by omega) (by omega))) (p_hasAny o4)
/-- what Hits answers. -/
def hiB (a1 a2 b1 b2 x y k : Int) : Bool := decide (0 ≤ k) && decide (k ≤ 28) && inB k.toNat x y && meB a1 a2 b1 b2 (2 * (2 ^ k.toNat * x) - 2 ^ k.toNat) (2 * (2 ^ k.toNat * y) - 2 ^ k.toNat) (2 * (2 ^ k.toNat * x) + 2 ^ k.toNat) (2 * (2 ^ k.toNat * y) + 2 ^ k.toNat) 0
set_option maxRecDepth 100000 in
set_option maxHeartbeats 8000000 in
theorem p_Near_no {a1 a2 b1 b2 p1 p2 f : Int} {r1 : Bool} (R1 : PCall Try.prog 46 [vP p1 p2] (vB r1)) (cs : r1 = false ∨ (r1 = true ∧ f < 0) ∨ (r1 = true ∧ ¬ f < 0 ∧ 268435456 < f)) : PCall Try.prog 21 [vP a1 a2, vP b1 b2, vP p1 p2, vI f] (vB false) := by
  rcases cs with rfl | ⟨rfl, q1⟩ | ⟨rfl, q1, q2⟩
  all_goals
    refine pcall_body (f := 21) Try.func21 rfl rfl rfl rfl ?_
    (repeat (first | ((with_reducible apply al_q); exact rfl) | (refine al_call1 rfl rfl rfl (by (first | exact R1)) rfl ?_) | ((with_reducible apply al_guard_b (c := true)); exact rfl; exact rfl; (first | assumption | exact decide_eq_true (by omega) | (simp only [Bool.not_eq_true', decide_eq_false_iff_not, decide_eq_true_eq, Bool.not_eq_false']; (first | done | omega)))) | ((with_reducible apply al_guard_b (c := false)); exact rfl; exact rfl; (first | assumption | exact decide_eq_false (by omega) | (simp only [Bool.not_eq_true', decide_eq_false_iff_not, decide_eq_true_eq, Bool.not_eq_false']; (first | done | omega)))) | ((with_reducible apply awp_seq)) | ((with_reducible apply athen_normal)) | ((with_reducible apply awp_region)) | ((with_reducible apply al_nil)) | ((with_reducible apply awp_ret)) | ((with_reducible apply athen_ret)) | ((with_reducible apply awp_cond_t); exact rfl) | ((with_reducible apply awp_cond_1); exact rfl; (first | assumption | exact decide_eq_true (by omega) | (simp only [Bool.not_eq_true', decide_eq_false_iff_not, decide_eq_true_eq, Bool.not_eq_false']; (first | done | omega))))))
    (first | (refine apost_ret rfl (resl_tmp rfl resl_nil) ?_))
    exact AV.Le.refl _
set_option maxRecDepth 100000 in
set_option maxHeartbeats 8000000 in
theorem p_Near_yes {a1 a2 b1 b2 p1 p2 f : Int} {r : Bool} (R1 : PCall Try.prog 46 [vP p1 p2] (vB true)) (h1 : -134217728 ≤ p1 ∧ p1 ≤ 134217728) (h2 : -134217728 ≤ p2 ∧ p2 ≤ 134217728) (f0 : ¬ f < 0) (f1 : ¬ 268435456 < f) (M : PCall Try.prog 47 [vP a1 a2, vP b1 b2, vP (2 * p1 - f) (2 * p2 - f), vP (2 * p1 + f) (2 * p2 + f), vI 1] (vB r)) : PCall Try.prog 21 [vP a1 a2, vP b1 b2, vP p1 p2, vI f] (vB r) := by
  refine pcall_body (f := 21) Try.func21 rfl rfl rfl rfl ?_
  (repeat (first | ((with_reducible apply al_q); exact rfl) | ((with_reducible apply al_add); (iterate 3 exact rfl); (first | exact i64_wrap (by omega) | assumption | rfl); exact rfl) | ((with_reducible apply al_sub); (iterate 3 exact rfl); (first | exact i64_wrap (by omega) | assumption | rfl); exact rfl) | ((with_reducible apply al_mul); (iterate 3 exact rfl); (first | exact i64_wrap (by omega) | assumption | rfl); exact rfl) | (refine al_call1 rfl rfl rfl (by (first | exact R1 | exact M)) rfl ?_) | (refine al_call5 rfl rfl rfl rfl rfl rfl rfl (by (first | exact R1 | exact M)) rfl ?_) | ((with_reducible apply al_guard_b (c := false)); exact rfl; exact rfl; (first | assumption | exact decide_eq_false (by omega) | (simp only [Bool.not_eq_true', decide_eq_false_iff_not, decide_eq_true_eq, Bool.not_eq_false']; (first | done | omega)))) | ((with_reducible apply awp_seq)) | ((with_reducible apply athen_normal)) | ((with_reducible apply awp_region)) | ((with_reducible apply al_nil)) | ((with_reducible apply awp_ret)) | ((with_reducible apply awp_skip)) | ((with_reducible apply awp_cond_0); exact rfl; (first | assumption | exact decide_eq_false (by omega) | (simp only [Bool.not_eq_true', decide_eq_false_iff_not, decide_eq_true_eq, Bool.not_eq_false']; (first | done | omega))))))
  (first | (refine apost_ret rfl (resl_tmp rfl resl_nil) ?_))
  exact AV.Le.refl _
/-- what Near answers. -/
def neB (a1 a2 b1 b2 p1 p2 f : Int) : Bool := rB5 p1 p2 && !decide (f < 0) && !decide (268435456 < f) && meB a1 a2 b1 b2 (2 * p1 - f) (2 * p2 - f) (2 * p1 + f) (2 * p2 + f) 1
theorem p_Near {a1 a2 b1 b2 p1 p2 f : Int} : PCall Try.prog 21 [vP a1 a2, vP b1 b2, vP p1 p2, vI f] (vB (neB a1 a2 b1 b2 p1 p2 f)) := by
  unfold neB
  cases hr : rB5 p1 p2 with
  | false => exact p_Near_no (p_cRight hr) (.inl rfl)
  | true =>
    by_cases q1 : f < 0
    · rw [decide_eq_true q1]; exact p_Near_no (p_cRight hr) (.inr (.inl ⟨rfl, q1⟩))
    · rw [decide_eq_false q1]
      by_cases q2 : 268435456 < f
      · rw [decide_eq_true q2]; exact p_Near_no (p_cRight hr) (.inr (.inr ⟨rfl, q1, q2⟩))
      · rw [decide_eq_false q2]
        have ir := rB5_iff.1 hr
        exact p_Near_yes (p_cRight hr) ir.1 ir.2 q1 q2 p_Meets
end Go.Proofs.Ytlglajaonmpljaa

namespace Go.Proofs.Ytlglajaonmpljaa
set_option linter.unusedVariables false
def MetB (a1 a2 b1 b2 l1 l2 h1 h2 k : Int) : Prop := Met (2 * a1 - l1) (2 * b1 - l1) (2 * a2 - l2) (2 * b2 - l2) (h1 - 2 * a1) (h1 - 2 * b1) (h2 - 2 * a2) (h2 - 2 * b2) (!decide (k = 2)) (decide (k = 1))
theorem meB_iff {a1 a2 b1 b2 l1 l2 h1 h2 k : Int} : meB a1 a2 b1 b2 l1 l2 h1 h2 k = true ↔ meR a1 a2 b1 b2 l1 l2 h1 h2 k = true ∧ MetB a1 a2 b1 b2 l1 l2 h1 h2 k := by
  unfold meB cutV MetB
  rw [Bool.and_eq_true, cut4_any]
theorem meR_iff {a1 a2 b1 b2 l1 l2 h1 h2 k : Int} : meR a1 a2 b1 b2 l1 l2 h1 h2 k = true ↔ rB5 a1 a2 = true ∧ rB5 b1 b2 = true ∧ co6 l1 l2 = true ∧ co6 h1 h2 = true ∧ kd6 k = true := by
  unfold meR
  simp only [Bool.and_eq_true, and_assoc]
end Go.Proofs.Ytlglajaonmpljaa

namespace Go.Proofs.Ytlglajaonmpljaa
open Go.RowKit
set_option linter.unusedVariables false
set_option linter.unusedSimpArgs false
def basL (a1 a2 b1 b2 l1 l2 h1 h2 : Int) : List (Int × Int) := [(0, 1), (1, 1)] ++ waV a1 b1 l1 ++ waV a1 b1 h1 ++ waV a2 b2 l2 ++ waV a2 b2 h2
def allF (a1 a2 b1 b2 l1 l2 h1 h2 : Int) : List (Int × Int) := basL a1 a2 b1 b2 l1 l2 h1 h2 ++ midsN (basL a1 a2 b1 b2 l1 l2 h1 h2) (basL a1 a2 b1 b2 l1 l2 h1 h2).length
def gooF (a1 a2 b1 b2 l1 l2 h1 h2 kind : Int) (p : Int × Int) : Bool := wiB (2 * a1 * p.2 + p.1 * (2 * (b1 - a1)) * 1) (1 * p.2) l1 h1 kind && wiB (2 * a2 * p.2 + p.1 * (2 * (b2 - a2)) * 1) (1 * p.2) l2 h2 kind
/-- how far a place can be: its numbers. -/
def Goo (p : Int × Int) : Prop := 0 < p.2 ∧ 0 ≤ p.1 ∧ p.1 ≤ p.2
/-- where bounds come from. -/
def Cnd (u v n d : Int) : Prop := (0 < v - u ∧ n = -u ∧ d = v - u) ∨ (v - u < 0 ∧ n = u ∧ d = -(v - u))
end Go.Proofs.Ytlglajaonmpljaa

namespace Go.Proofs.Ytlglajaonmpljaa
open Go.ChangeShapes Go.WideShapes Go.ChangeAt Go.RowKit Go.Joins
set_option linter.unusedVariables false
set_option linter.unusedSimpArgs false
theorem own3 : ownKnob Try.prog.godebug = none := by kernel_rfl
/-- a type of plain values. -/
def flatB (P : Program) : Nat → TypeId → Bool
  | 0, _ => false
  | d + 1, t => match P.underlying t with
    | some .bool | some (.int _) | some .string => true
    | some (.struct fs) => fs.toList.all fun f => flatB P d f.type
    | some (.array _ e) => flatB P d e
    | _ => false
theorem mapM_flat {α β : Type} {f g : α → Option (β × List MemPlace)} : ∀ (l : List α) (xs : List (β × List MemPlace)), l.mapM f = some xs → (∀ a ∈ l, ∀ x, f a = some x → x.2 = [] ∧ g a = some (x.1, [])) → xs.flatMap (·.2) = [] ∧ l.mapM g = some xs
  | [], xs, h, _ => by cases h; exact ⟨rfl, rfl⟩
  | a :: l, xs, h, hk => by
    rw [List.mapM_cons] at h
    cases ha : f a with
    | none => rw [ha] at h; cases h
    | some b =>
      rw [ha] at h
      cases hl : l.mapM f with
      | none => rw [hl] at h; cases h
      | some bs =>
        rw [hl] at h
        cases h
        obtain ⟨h1, h2⟩ := hk a (by simp) b ha
        obtain ⟨h3, h4⟩ := mapM_flat l bs hl fun a' ha' => hk a' (by simp [ha'])
        refine ⟨by simp [h1]; intro a' b' hab; have := List.flatMap_eq_nil_iff.1 h3 _ hab; exact this, ?_⟩
        rw [List.mapM_cons, h2, h4]
        obtain ⟨b1, b2⟩ := b
        simp only at h1
        subst h1
        rfl
section
variable {H : Type} {enc : TypeId × Value → H} {P : Program}
theorem flat_trod : ∀ (d : Nat) (t : TypeId), flatB P d t = true → ∀ (fuel : Nat) (w : World) (base : Nat) (sp : Nat → Bool) (held : Bool) (cs : List Value) (x : DataW H × List MemPlace), DataW.trod enc P w base sp held fuel t cs = some x →
    x.2 = [] ∧ ∀ (w' : World) (base' : Nat) (sp' : Nat → Bool) (held' : Bool), DataW.trod enc P w' base' sp' held' fuel t cs = some (x.1, [])
  | 0, _, h, _, _, _, _, _, _, _, _ => by cases h
  | d + 1, t, hf, 0, _, _, _, _, _, _, h => by simp [DataW.trod] at h
  | d + 1, t, hf, fuel + 1, w, base, sp, held, cs, x, h => by
    have ih := fun t' (ht' : flatB P d t' = true) => flat_trod d t' ht' fuel
    rw [DataW.trod_step] at h
    simp only [DataW.trod_step]
    unfold flatB at hf
    unfold DataW.trodStep at h ⊢
    cases hu : P.underlying t with
    | none => rw [hu] at hf; cases hf
    | some D =>
      rw [hu] at hf h
      cases D with
      | bool =>
        match cs, h with
        | [.bool b], h => cases h; exact ⟨rfl, fun _ _ _ _ => rfl⟩
      | int k =>
        match cs, h with
        | [.int k' n], h =>
          simp only at h ⊢
          split at h
          · rename_i hc; cases h; exact ⟨rfl, fun _ _ _ _ => by rw [if_pos hc]⟩
          · cases h
      | string =>
        match cs, h with
        | [.string s], h =>
          simp only at h ⊢
          split at h
          · rename_i hc; cases h; exact ⟨rfl, fun _ _ _ _ => by rw [if_pos hc]⟩
          · cases h
      | struct fs =>
        simp only at h ⊢ hf
        split at h
        · rename_i hc
          simp only [Option.map_eq_some_iff] at h
          obtain ⟨xs, hx, rfl⟩ := h
          have hall := List.all_eq_true.1 hf
          refine ⟨?_, fun w' base' sp' held' => ?_⟩
          · exact (mapM_flat (g := fun f => DataW.trod enc P w base sp held fuel f.type ((cs.drop f.offset).take (P.cellsOf f.type))) _ _ hx fun f hf' y hy => ⟨(ih f.type (hall f hf') w base sp held _ y hy).1, (ih f.type (hall f hf') w base sp held _ y hy).2 w base sp held⟩).1
          · have := mapM_flat (g := fun f => DataW.trod enc P w' base' sp' held' fuel f.type ((cs.drop f.offset).take (P.cellsOf f.type))) _ _ hx fun f hf' y hy => ⟨(ih f.type (hall f hf') w base sp held _ y hy).1, (ih f.type (hall f hf') w base sp held _ y hy).2 w' base' sp' held'⟩
            rw [if_pos hc, this.2]
            simp only [Option.map_some, this.1]
        · cases h
      | array n e =>
        simp only at h ⊢ hf
        split at h
        · rename_i hc
          simp only [Option.map_eq_some_iff] at h
          obtain ⟨xs, hx, rfl⟩ := h
          refine ⟨?_, fun w' base' sp' held' => ?_⟩
          · exact (mapM_flat (g := fun i => DataW.trod enc P w base sp held fuel e ((cs.drop (i * P.cellsOf e)).take (P.cellsOf e))) _ _ hx fun f _ y hy => ⟨(ih e hf w base sp held _ y hy).1, (ih e hf w base sp held _ y hy).2 w base sp held⟩).1
          · have := mapM_flat (g := fun i => DataW.trod enc P w' base' sp' held' fuel e ((cs.drop (i * P.cellsOf e)).take (P.cellsOf e))) _ _ hx fun f _ y hy => ⟨(ih e hf w base sp held _ y hy).1, (ih e hf w base sp held _ y hy).2 w' base' sp' held'⟩
            rw [if_pos hc, this.2]
            simp only [Option.map_some, this.1]
        · cases h
      | _ => cases hf
theorem flat_arg {d : Nat} {t : TypeId} (hf : flatB P d t = true) {w : World} {base : Nat} {sp : Nat → Bool} {held : Bool} {v : Value} {D : DataW H} {p : List MemPlace} (h : DataW.Trod enc P w base sp held t v D p) :
    p = [] ∧ ∀ (w' : World) (base' : Nat) (sp' : Nat → Bool) (held' : Bool), DataW.Trod enc P w' base' sp' held' t v D [] := by
  obtain ⟨fuel, h⟩ := h
  obtain ⟨h1, h2⟩ := flat_trod d t hf fuel w base sp held _ _ h
  exact ⟨h1, fun w' base' sp' held' => ⟨fuel, h2 w' base' sp' held'⟩⟩
end
section
variable {P : Program} {W : World} {r : Reach} {b : Nat} {t : TypeId} {v : Value}
theorem okw_int {k : IntKind} (hu : P.underlying t = some (.int k)) (h : Cell.okWide P W r b t v) : ∃ n, v = .int k n ∧ k.min ≤ n ∧ n ≤ k.max := by
  unfold Cell.okWide Cell.ok at h
  rw [hu] at h
  cases v <;> simp only at h
  rename_i k' n
  obtain ⟨rfl, h⟩ := h
  exact ⟨n, rfl, by simpa [IntKind.has] using h⟩
def aggB (P : Program) (t : TypeId) (n : Nat) (ts : List TypeId) : Bool :=
  (match P.underlying t with | some (.struct _) | some (.array _ _) => true | _ => false) && (P.cellsOf t == n) && (P.cellTypes P.depth t == some ts) && (ts.length == n) && (0 < n)
theorem okw_agg {n : Nat} {ts : List TypeId} (hB : aggB P t n ts = true) (h : Value.okWide P W r b t v) : ∃ cs : List Value, v = .agg cs.toArray ∧ cs.length = n ∧ ∀ (i : Nat) (u : TypeId) (c : Value), ts[i]? = some u → cs[i]? = some c → Cell.okWide P W r b u c := by
  unfold aggB at hB
  simp only [Bool.and_eq_true, beq_iff_eq, decide_eq_true_eq] at hB
  obtain ⟨⟨⟨⟨h1, h2⟩, h3⟩, h4⟩, h5⟩ := hB
  have key : ∃ cs : Array Value, v = .agg cs ∧ cs.size = P.cellsOf t ∧ Row.okWide P W r b t cs := by
    unfold Value.okWide at h
    split at h
    · exact h
    · exact h
    · exfalso
      split at h1
      · rename_i hu; rename_i h6 _ _ ; exact absurd hu (by simp_all)
      · simp_all
      · cases h1
  obtain ⟨cs, rfl, hs, ts', e1, _, hc⟩ := key
  rw [h3] at e1
  cases e1
  refine ⟨cs.toList, by simp, by simp [hs, h2], fun i u c hu hc' => ?_⟩
  have hlt : i < ts.length := (List.getElem?_eq_some_iff.1 hu).1
  obtain ⟨u', q1, q2⟩ := hc i c (by simpa using hc')
  rw [Nat.mod_eq_of_lt hlt, hu] at q1
  cases q1
  exact q2
end
theorem list2 {α : Type} {cs : List α} (h : cs.length = 2) : ∃ a b, cs = [a, b] := by match cs, h with | [a, b], _ => exact ⟨a, b, rfl⟩
theorem list4 {α : Type} {cs : List α} (h : cs.length = 4) : ∃ a b c d, cs = [a, b, c, d] := by match cs, h with | [a, b, c, d], _ => exact ⟨a, b, c, d, rfl⟩
end Go.Proofs.Ytlglajaonmpljaa

namespace Go.Proofs.Ytlglajaonmpljaa
open Go.RowKit
set_option linter.unusedVariables false
set_option linter.unusedSimpArgs false
/-- two points; a box. -/
abbrev v2 (a1 a2 b1 b2 : Int) : AV := .w (.agg [.c (.int .i64 a1), .c (.int .i64 a2), .c (.int .i64 b1), .c (.int .i64 b2)])
end Go.Proofs.Ytlglajaonmpljaa

namespace Go.Proofs.Ytlglajaonmpljaa
open Go.RowKit
set_option linter.unusedVariables false
set_option linter.unusedSimpArgs false
/-- what holds ahead of each round of Size's loop. -/
def SzI (k : Int) (r : Nat) (m : Nat) (ts : List (Nat × AV)) (ms : List (Nat × List AC)) : Prop :=
  ∃ (i : Nat) (v j : Int), i ≤ r ∧ m = r - i ∧ v = 2 ^ i ∧ j = i ∧ ms = [] ∧ ts = [(0, vI k), (3, vI v), (4, vI j)]
theorem pow28i {i r : Nat} (h : i ≤ r) (hr : r ≤ 28) : (0 : Int) < 2 ^ i ∧ (2 : Int) ^ i ≤ 268435456 := by
  have := pow28 (r := i) (by omega)
  omega
set_option maxRecDepth 100000 in
set_option maxHeartbeats 4000000 in
theorem p_Size {k : Int} {r : Nat} (h : IsR k r) : PCall Try.prog 27 [vI k] (vI (2 ^ r)) := by
  have C1 := p_Rung h
  have hr := h.1
  clear h
  refine pcall_body (f := 27) Try.func27 rfl rfl rfl rfl ?_
  (repeat (first | ((with_reducible apply al_q); exact rfl) | ((with_reducible apply awp_seq)) | ((with_reducible apply athen_normal)) | ((with_reducible apply awp_region)) | ((with_reducible apply al_nil)) | ((with_reducible apply awp_block))))
  refine awp_loopL 14 (SzI k r) r _ [] ⟨0, 1, 0, Nat.zero_le _, rfl, rfl, rfl, rfl, rfl⟩ rfl ⟨rfl, rfl, rfl, trivial⟩ trivial rfl ?_
  rintro m ts ms ⟨i, v, j, hi, rfl, hv, hj, rfl, rfl⟩ hok
  clear hok
  by_cases q : i < r
  · have q' : j < r := by omega
    have e2 : 2 * v = 2 ^ (i + 1) := by rw [hv, Int.pow_succ, Int.mul_comm]
    obtain ⟨b0, b1⟩ := pow28i hi hr
    rw [← hv] at b0 b1
    have hj' : (0 : Int) ≤ j ∧ j ≤ 28 := by omega
    clear hv
    (repeat (first | ((with_reducible apply al_q); exact rfl) | ((with_reducible apply al_add); (iterate 3 exact rfl); (first | exact i64_wrap (by omega) | assumption | rfl); exact rfl) | ((with_reducible apply al_mul); (iterate 3 exact rfl); (first | exact i64_wrap (by omega) | assumption | rfl); exact rfl) | (refine al_call1 rfl rfl rfl (by (first | exact C1)) rfl ?_) | ((with_reducible apply awp_seq)) | ((with_reducible apply athen_normal)) | ((with_reducible apply awp_region)) | ((with_reducible apply al_nil)) | ((with_reducible apply awp_skip)) | ((with_reducible apply awp_block)) | ((with_reducible apply ablock_normal)) | ((with_reducible apply awp_cond_1); exact rfl; (first | assumption | exact decide_eq_true (by omega) | (simp only [Bool.not_eq_true', decide_eq_false_iff_not, decide_eq_true_eq, Bool.not_eq_false']; (first | done | omega))))))
    exact ⟨r - (i + 1), _, [], by omega, ⟨i + 1, 2 * v, j + 1, by omega, rfl, e2, by omega, rfl, rfl⟩, rfl, ⟨rfl, rfl, rfl, trivial⟩, trivial, rfl⟩
  · have q' : ¬ j < r := by omega
    have e : i = r := by omega
    rw [e] at hv
    clear hi q e
    (repeat (first | ((with_reducible apply al_q); exact rfl) | (refine al_call1 rfl rfl rfl (by (first | exact C1)) rfl ?_) | ((with_reducible apply awp_seq)) | ((with_reducible apply athen_normal)) | ((with_reducible apply awp_region)) | ((with_reducible apply al_nil)) | ((with_reducible apply awp_ret)) | ((with_reducible apply ablock_same)) | ((with_reducible apply awp_exit)) | ((with_reducible apply athen_exit)) | ((with_reducible apply awp_cond_0); exact rfl; (first | assumption | exact decide_eq_false (by omega) | (simp only [Bool.not_eq_true', decide_eq_false_iff_not, decide_eq_true_eq, Bool.not_eq_false']; (first | done | omega))))))
    (first | (refine apost_ret rfl (resl_tmp rfl resl_nil) ?_))
    exact AV.Le.of_eq (by rw [hv]; rfl)
end Go.Proofs.Ytlglajaonmpljaa

namespace Go.Proofs.Ytlglajaonmpljaa
open Go.RowKit
set_option linter.unusedVariables false
set_option linter.unusedSimpArgs false
abbrev v3 (k x y : Int) : AV := .w (.agg [.c (.int .i64 k), .c (.int .i64 x), .c (.int .i64 y)])
end Go.Proofs.Ytlglajaonmpljaa

namespace Go.Proofs.Ytlglajaonmpljaa
open Go.RowKit
set_option linter.unusedVariables false
set_option linter.unusedSimpArgs false
instance iPixF_1 : IPart Try.prog 28 2 true 2 := ⟨by kernel_rfl⟩
def MvI (a1 a2 b1 b2 q1 q2 k x y S X Y : Int) (r1 r2 r3 r4 : Bool) (m : Nat) (ts : List (Nat × AV)) (ms : List (Nat × List AC)) : Prop :=
  ∃ (i : Int) (t1 t2 t3 t4 : Int), ((m = 2 ∧ i = 0 ∧ t1 = 0 ∧ t2 = 0 ∧ t3 = 0 ∧ t4 = 0) ∨ (m = 1 ∧ i = 1 ∧ t1 = a1 + X ∧ t2 = a2 + Y ∧ t3 = 0 ∧ t4 = 0 ∧ r1 = true ∧ r2 = true) ∨ (m = 0 ∧ i = 2 ∧ t1 = a1 + X ∧ t2 = a2 + Y ∧ t3 = b1 + X ∧ t4 = b2 + Y ∧ r1 = true ∧ r2 = true ∧ r3 = true ∧ r4 = true))
    ∧ ts = [(3, vO 3 0), (4, vO 4 0), (7, vI k), (8, vI x), (9, vI y), (10, vI S), (11, vO 11 0), (50, v2 a1 a2 b1 b2), (51, vI i)]
    ∧ ms = [(3, [.c (.int .i64 a1), .c (.int .i64 a2), .c (.int .i64 b1), .c (.int .i64 b2)]), (4, [.c (.int .i64 q1), .c (.int .i64 q2)]), (11, [.c (.int .i64 t1), .c (.int .i64 t2), .c (.int .i64 t3), .c (.int .i64 t4)])]
end Go.Proofs.Ytlglajaonmpljaa

namespace Go.Proofs.Ytlglajaonmpljaa
open Go.RowKit
set_option linter.unusedVariables false
set_option linter.unusedSimpArgs false
abbrev vAdd9 (r : Int) (l : List Px) (b : Bool) (e : Int) : AV := .tup [.agg [.c (.int .i64 r), .p (SlP 2 l.length (itC l))], .one (.c (.bool b)), .one (.c (.int .i64 e))]
section
variable {P : Program} {ops : Array Oper} {s : AS} {d ty : Nat} {pos : String} {after : Array Edge} {guard : Option (Nat × Bool)} {K : AS → Prop} {rest : List Oper}
end
end Go.Proofs.Ytlglajaonmpljaa

namespace Go.Proofs.Ytlglajaonmpljaa
open Go.RowKit
set_option linter.unusedVariables false
set_option linter.unusedSimpArgs false
/-- whose numbers are numbers. -/
def InI (p : Px) : Prop := (-9223372036854775808 ≤ p.1 ∧ p.1 ≤ 9223372036854775807) ∧ -9223372036854775808 ≤ p.2 ∧ p.2 ≤ 9223372036854775807
/-- is it near? -/
def nearF (a1 a2 b1 b2 : Int) (r : Nat) (p : Px) : Bool := btw9 p.1 (gsn a1 r) (gsn b1 r) && btw9 p.2 (gsn a2 r) (gsn b2 r)
def metF (a1 a2 b1 b2 k : Int) (p : Px) : Bool := hiB a1 a2 b1 b2 p.1 p.2 k
def NR9I (rm : Int) (L : List Px) (a1 a2 b1 b2 k : Int) (f : Px → Bool) (n : Nat) (R : Rws) (ts : List (Nat × AV)) (ms : List (Nat × List AC)) : Prop :=
  ∃ (i : Nat) (ii : Int), i ≤ L.length ∧ n = L.length - i ∧ ii = i ∧ R = noRows ∧ ms = [(4, [.c (.int .i64 rm), .p (SlP 2 L.length (itC L))]), (5, mPx a1 a2), (6, mPx b1 b2)] ∧ ts = [(3, vI k), (4, vOw 4), (5, vOw 5), (6, vOw 6), (9, vIt (sortI (decide (b1 < a1)) (decide (b2 < a2)) f (L.take i))), (10, vI ii)]
def OldI (l : List Px) (n : Nat) (R : Rws) (ts : List (Nat × AV)) (ms : List (Nat × List AC)) : Prop :=
  ∃ (k : Nat) (v : Value) (ki : Int), k ≤ l.length ∧ n = l.length - k ∧ ki = k ∧ R = row1 0 (p9Row v (l.take k)) ∧ ms = [] ∧ ts = [(3, vC v), (6, vIt l), (7, vI l.length), (8, vI ki)]
def Sm9I (l : List Px) (n : Nat) (ts : List (Nat × AV)) (ms : List (Nat × List AC)) : Prop :=
  ∃ (k : Nat) (ki : Int), k ≤ l.length ∧ n = l.length - k ∧ ki = k ∧ ms = [] ∧ ts = [(0, vIt l), (1, vIt l), (5, vI 0), (19, vI l.length), (20, vI ki)]
end Go.Proofs.Ytlglajaonmpljaa

namespace Go.Proofs.Ytlglajaonmpljaa
set_option linter.unusedVariables false
set_option linter.unusedSimpArgs false
/-- so far on the way from a to b, t, twice the number is no farther from x than far. -/
def nrC (a b x far t : Rat) : Prop := -far ≤ 2 * a + t * (2 * (b - a)) - x ∧ 2 * a + t * (2 * (b - a)) - x ≤ far
/-- so far on the way from S p to S q, u, the number is in the pixel x. -/
def mtC (S p q x u : Rat) : Prop := 2 * (S * x) - S ≤ 2 * (S * p + u * (S * q - S * p)) ∧ 2 * (S * p + u * (S * q - S * p)) < 2 * (S * x) + S
theorem nrC_more {a b x f g t : Rat} (hfg : f ≤ g) (h : nrC a b x f t) : nrC a b x g t := by
  obtain ⟨h1, h2⟩ := h
  constructor <;> grind
theorem nrC_turn {a b x f t : Rat} (h : nrC a b x f t) : nrC b a x f (1 - t) := by
  obtain ⟨h1, h2⟩ := h
  constructor <;> grind
abbrev rc (n : Int) : Rat := (n : Rat)
/-- a vertex, and a place on the segment. -/
def nrP (a1 a2 b1 b2 S : Int) (far t : Rat) (v : Px) : Prop := nrC (rc a1) (rc b1) (2 * (rc S * rc v.1)) far t ∧ nrC (rc a2) (rc b2) (2 * (rc S * rc v.2)) far t
def Mets (S : Int) (p q : Px) (u : Rat) (x : Px) : Prop := (0 ≤ u ∧ u ≤ 1) ∧ mtC (rc S) (rc p.1) (rc q.1) (rc x.1) u ∧ mtC (rc S) (rc p.2) (rc q.2) (rc x.2) u
theorem nrP_more {a1 a2 b1 b2 S : Int} {f g t : Rat} {v : Px} (hfg : f ≤ g) (h : nrP a1 a2 b1 b2 S f t v) : nrP a1 a2 b1 b2 S g t v := ⟨nrC_more hfg h.1, nrC_more hfg h.2⟩
theorem nrP_turn {a1 a2 b1 b2 S : Int} {f t : Rat} {v : Px} (h : nrP a1 a2 b1 b2 S f t v) : nrP b1 b2 a1 a2 S f (1 - t) v := ⟨nrC_turn h.1, nrC_turn h.2⟩
/-- whole numbers, from fractions. -/
theorem rc_le {a b : Int} : rc a ≤ rc b ↔ a ≤ b := Rat.intCast_le_intCast
theorem rc_lt {a b : Int} : rc a < rc b ↔ a < b := Rat.intCast_lt_intCast
theorem rc_pos {a : Int} (h : 0 < a) : 0 < rc a := by have := rc_lt.2 h; simpa [rc] using this
theorem rc_div {n d : Int} (hd : 0 < d) : rc n / rc d * rc d = rc n := Rat.div_mul_cancel (by have := rc_pos hd; grind)
end Go.Proofs.Ytlglajaonmpljaa

namespace Go.Proofs.Ytlglajaonmpljaa
set_option linter.unusedVariables false
set_option linter.unusedSimpArgs false
/-- places on the way, one for each vertex, none ahead of t0, or of the one ahead of it. -/
def clF (N : Rat → Px → Prop) : Rat → List Px → Prop
  | _, [] => True
  | t0, v :: V => ∃ t, t0 ≤ t ∧ t ≤ 1 ∧ N t v ∧ clF N t V
theorem clF_less {N : Rat → Px → Prop} {s t : Rat} (h : s ≤ t) : ∀ {V : List Px}, clF N t V → clF N s V
  | [], _ => trivial
  | v :: V, ⟨u, h1, h2, h3, h4⟩ => ⟨u, Rat.le_trans h h1, h2, h3, h4⟩
theorem clF_more {N N' : Rat → Px → Prop} (h : ∀ t v, N t v → N' t v) : ∀ {t : Rat} {V : List Px}, clF N t V → clF N' t V
  | _, [], _ => trivial
  | _, v :: V, ⟨u, h1, h2, h3, h4⟩ => ⟨u, h1, h2, h _ _ h3, clF_more h h4⟩
def cloP (N : Rat → Px → Prop) (V : List Px) : Prop := (∃ v, V.head? = some v ∧ N 0 v) ∧ (∃ v, V.getLast? = some v ∧ N 1 v) ∧ clF N 0 V
/-- those that are none of two, none twice in a row. -/
def ddS (p q : Px) (out : List Px) (x : Px) : List Px := if x ≠ p ∧ x ≠ q ∧ out.getLast? ≠ some x then out ++ [x] else out
def ddL (p q : Px) (l : List Px) : List Px := l.foldl (ddS p q) []
/-- the pixels that a link goes through: those of l that it meets, none of its ends, in its order, none twice. -/
def atL (r : Nat) (l : List Px) (p q : Px) : List Px := ddL p q (sortI (decide ((2 : Int) ^ r * q.1 < 2 ^ r * p.1)) (decide ((2 : Int) ^ r * q.2 < 2 ^ r * p.2)) (metF (2 ^ r * p.1) (2 ^ r * p.2) (2 ^ r * q.1) (2 ^ r * q.2) r) l)
/-- each link goes through its pixels. -/
def expV (at' : Px → Px → List Px) : List Px → List Px
  | p :: q :: W => p :: (at' p q ++ expV at' (q :: W))
  | V => V
def expD (at' : Px → Px → List Px) : List Px → List Int → List Int
  | p :: q :: W, d :: D => (if (at' p q).isEmpty then [d] else List.replicate ((at' p q).length + 1) (d + 1)) ++ expD at' (q :: W) D
  | _, _ => []
end Go.Proofs.Ytlglajaonmpljaa

namespace Go.Proofs.Ytlglajaonmpljaa
set_option linter.unusedVariables false
set_option linter.unusedSimpArgs false
/-- each stands so to the next one. -/
def chn (R : Px → Px → Prop) : List Px → Prop
  | p :: q :: W => R p q ∧ chn R (q :: W)
  | _ => True
/-- a right chain. -/
def rtV (r : Nat) (V : List Px) (D : List Int) : Prop :=
  V ≠ [] ∧ V.length = D.length + 1 ∧ (∀ v ∈ V, inB r v.1 v.2 = true) ∧ chn (· ≠ ·) V ∧ (∀ d ∈ D, 1 ≤ d ∧ d ≤ 1048576) ∧
    (chn (fun p q => p.1 ≤ q.1) V ∨ chn (fun p q => q.1 ≤ p.1) V) ∧ (chn (fun p q => p.2 ≤ q.2) V ∨ chn (fun p q => q.2 ≤ p.2) V)
/-- one link goes through pixels. -/
def spV (V : List Px) (j : Nat) (l : List Px) : List Px := V.take (j + 1) ++ l ++ V.drop (j + 1)
def spD (D : List Int) (j : Nat) (n : Nat) : List Int := D.take j ++ List.replicate (n + 1) (D.getD j 0 + 1) ++ D.drop (j + 1)
/-- the chain whose links from number j on have gone through theirs. -/
def fromV (at' : Px → Px → List Px) (V : List Px) (j : Nat) : List Px := V.take j ++ expV at' (V.drop j)
def fromD (at' : Px → Px → List Px) (V : List Px) (D : List Int) (j : Nat) : List Int := D.take j ++ expD at' (V.drop j) (D.drop j)
end Go.Proofs.Ytlglajaonmpljaa

namespace Go.Proofs.Ytlglajaonmpljaa
set_option linter.unusedVariables false
set_option linter.unusedSimpArgs false
/-- from fn over fd to tn over td, or none. -/
structure Prt where
  fn : Int
  fd : Int
  tn : Int
  td : Int
  no : Bool
def frq (n d : Int) : Rat := rc n / rc d
theorem frq_le {a b c d : Int} (hb : 0 < b) (hd : 0 < d) : frq a b ≤ frq c d ↔ a * d ≤ c * b := by
  have b0 := rc_pos hb
  have d0 := rc_pos hd
  have e1 : frq a b * rc b = rc a := rc_div hb
  have e2 : frq c d * rc d = rc c := rc_div hd
  have k : a * d ≤ c * b ↔ rc a * rc d ≤ rc c * rc b := by
    rw [← rc_le]
    simp [rc, Rat.intCast_mul]
  rw [k, ← e1, ← e2]
  generalize frq a b = x at *
  generalize frq c d = y at *
  constructor
  · intro h
    have := Rat.mul_nonneg (show 0 ≤ y - x by grind) (Rat.mul_nonneg (Rat.le_of_lt b0) (Rat.le_of_lt d0))
    grind
  · intro h
    refine Rat.not_lt.1 fun hlt => ?_
    have := Rat.mul_pos (show 0 < x - y by grind) (Rat.mul_pos b0 d0)
    grind
theorem frq_one (n : Int) : frq n 1 = rc n := by
  have := rc_div (n := n) (show (0 : Int) < 1 by decide)
  have e : rc 1 = 1 := by simp [rc]
  rw [e] at this
  unfold frq
  rw [e]
  grind
theorem frq_0 : frq 0 1 = 0 := by rw [frq_one]; simp [rc]
theorem frq_1 : frq 1 1 = 1 := by rw [frq_one]; simp [rc]
def Prt.ok (p : Prt) : Prop := 0 < p.fd ∧ 0 < p.td
def Prt.In (p : Prt) (t : Rat) : Prop := p.no = false ∧ frq p.fn p.fd ≤ t ∧ t ≤ frq p.tn p.td
def prt0 : Prt := ⟨0, 1, 1, 1, false⟩
/-- what is left of it where a number, from a to b, twice, is from low to high. -/
def fromN (a b low high : Int) : Int := if 2 * (b - a) < 0 then 2 * a - high else low - 2 * a
def toN (a b low high : Int) : Int := if 2 * (b - a) < 0 then 2 * a - low else high - 2 * a
def denN (a b : Int) : Int := if 2 * (b - a) < 0 then -(2 * (b - a)) else 2 * (b - a)
def kpT (p : Prt) (a b low high : Int) : Prt :=
  if a = b then ⟨p.fn, p.fd, p.tn, p.td, p.no || decide (2 * a < low) || decide (high < 2 * a)⟩
  else ⟨if p.fn * denN a b < fromN a b low high * p.fd then fromN a b low high else p.fn, if p.fn * denN a b < fromN a b low high * p.fd then denN a b else p.fd,
    if toN a b low high * p.td < p.tn * denN a b then toN a b low high else p.tn, if toN a b low high * p.td < p.tn * denN a b then denN a b else p.td, p.no⟩
theorem denN_pos {a b : Int} (h : a ≠ b) : 0 < denN a b := by unfold denN; split <;> omega
theorem kpT_ok {p : Prt} (h : p.ok) (a b low high : Int) : (kpT p a b low high).ok := by
  unfold kpT
  split
  · exact h
  · rename_i hab
    have := denN_pos hab
    unfold Prt.ok at *
    refine ⟨?_, ?_⟩ <;> (simp only; split <;> omega)
theorem kpT_in {p : Prt} (hp : p.ok) (a b low high : Int) (t : Rat) : (kpT p a b low high).In t ↔ p.In t ∧ rc low ≤ 2 * rc a + t * (2 * (rc b - rc a)) ∧ 2 * rc a + t * (2 * (rc b - rc a)) ≤ rc high := by
  unfold kpT
  by_cases hab : a = b
  · subst hab
    rw [if_pos rfl]
    unfold Prt.In
    have e : 2 * rc a + t * (2 * (rc a - rc a)) = rc (2 * a) := by
      have : rc (2 * a) = 2 * rc a := by simp [rc, Rat.intCast_mul]
      rw [this]; grind
    rw [e, rc_le, rc_le]
    simp only [Bool.or_eq_false_iff, decide_eq_false_iff_not, Int.not_lt]
    constructor
    · rintro ⟨⟨⟨h1, h2⟩, h3⟩, h4⟩; exact ⟨⟨h1, h4⟩, h2, h3⟩
    · rintro ⟨⟨h1, h4⟩, h2, h3⟩; exact ⟨⟨⟨h1, h2⟩, h3⟩, h4⟩
  · rw [if_neg hab]
    have hd := denN_pos hab
    have d0 := rc_pos hd
    have key : (frq (fromN a b low high) (denN a b) ≤ t ∧ t ≤ frq (toN a b low high) (denN a b)) ↔ (rc low ≤ 2 * rc a + t * (2 * (rc b - rc a)) ∧ 2 * rc a + t * (2 * (rc b - rc a)) ≤ rc high) := by
      have e1 : frq (fromN a b low high) (denN a b) * rc (denN a b) = rc (fromN a b low high) := rc_div hd
      have e2 : frq (toN a b low high) (denN a b) * rc (denN a b) = rc (toN a b low high) := rc_div hd
      have m1 : frq (fromN a b low high) (denN a b) ≤ t ↔ rc (fromN a b low high) ≤ t * rc (denN a b) := by
        rw [← e1]
        generalize frq (fromN a b low high) (denN a b) = x
        constructor
        · intro h
          have := Rat.mul_nonneg (show 0 ≤ t - x by grind) (Rat.le_of_lt d0)
          grind
        · intro h
          refine Rat.not_lt.1 fun hlt => ?_
          have := Rat.mul_pos (show 0 < x - t by grind) d0
          grind
      have m2 : t ≤ frq (toN a b low high) (denN a b) ↔ t * rc (denN a b) ≤ rc (toN a b low high) := by
        rw [← e2]
        generalize frq (toN a b low high) (denN a b) = x
        constructor
        · intro h
          have := Rat.mul_nonneg (show 0 ≤ x - t by grind) (Rat.le_of_lt d0)
          grind
        · intro h
          refine Rat.not_lt.1 fun hlt => ?_
          have := Rat.mul_pos (show 0 < t - x by grind) d0
          grind
      rw [m1, m2]
      unfold fromN toN denN
      by_cases hn : 2 * (b - a) < 0
      · rw [if_pos hn, if_pos hn, if_pos hn]
        simp only [rc, Rat.intCast_sub, Rat.intCast_mul, Rat.intCast_neg]
        constructor
        · rintro ⟨h1, h2⟩; constructor <;> grind
        · rintro ⟨h1, h2⟩; constructor <;> grind
      · rw [if_neg hn, if_neg hn, if_neg hn]
        simp only [rc, Rat.intCast_sub, Rat.intCast_mul, Rat.intCast_neg]
        constructor
        · rintro ⟨h1, h2⟩; constructor <;> grind
        · rintro ⟨h1, h2⟩; constructor <;> grind
    rw [← key]
    generalize fromN a b low high = F at *
    generalize toN a b low high = T at *
    generalize denN a b = dn at *
    clear key
    have c1 := frq_le (a := F) (b := dn) (c := p.fn) (d := p.fd) hd hp.1
    have c2 := frq_le (a := p.fn) (b := p.fd) (c := F) (d := dn) hp.1 hd
    have c3 := frq_le (a := T) (b := dn) (c := p.tn) (d := p.td) hd hp.2
    have c4 := frq_le (a := p.tn) (b := p.td) (c := T) (d := dn) hp.2 hd
    unfold Prt.In
    simp only
    have s1 : frq (if p.fn * dn < F * p.fd then F else p.fn) (if p.fn * dn < F * p.fd then dn else p.fd) ≤ t ↔ frq F dn ≤ t ∧ frq p.fn p.fd ≤ t := by
      by_cases h : p.fn * dn < F * p.fd
      · rw [if_pos h, if_pos h]
        refine ⟨fun g => ⟨g, ?_⟩, fun g => g.1⟩
        exact Rat.le_trans (c2.2 (by omega)) g
      · rw [if_neg h, if_neg h]
        refine ⟨fun g => ⟨?_, g⟩, fun g => g.2⟩
        exact Rat.le_trans (c1.2 (by omega)) g
    have s2 : t ≤ frq (if T * p.td < p.tn * dn then T else p.tn) (if T * p.td < p.tn * dn then dn else p.td) ↔ t ≤ frq T dn ∧ t ≤ frq p.tn p.td := by
      by_cases h : T * p.td < p.tn * dn
      · rw [if_pos h, if_pos h]
        refine ⟨fun g => ⟨g, ?_⟩, fun g => g.1⟩
        exact Rat.le_trans g (c3.2 (by omega))
      · rw [if_neg h, if_neg h]
        refine ⟨fun g => ⟨?_, g⟩, fun g => g.2⟩
        exact Rat.le_trans g (c4.2 (by omega))
    rw [s1, s2]
    constructor
    · rintro ⟨h1, ⟨h2, h3⟩, h4, h5⟩; exact ⟨⟨h1, h3, h5⟩, h2, h4⟩
    · rintro ⟨⟨h1, h3, h5⟩, h2, h4⟩; exact ⟨h1, ⟨h2, h3⟩, h4, h5⟩
/-- a vertex' part. -/
def prtV (a1 a2 b1 b2 S far : Int) (v : Px) : Prt := kpT (kpT prt0 a1 b1 (2 * S * v.1 - far) (2 * S * v.1 + far)) a2 b2 (2 * S * v.2 - far) (2 * S * v.2 + far)
theorem prtV_ok (a1 a2 b1 b2 S far : Int) (v : Px) : (prtV a1 a2 b1 b2 S far v).ok := kpT_ok (kpT_ok ⟨by decide, by decide⟩ _ _ _ _) _ _ _ _
theorem prtV_in {a1 a2 b1 b2 S far : Int} {v : Px} {t : Rat} : (prtV a1 a2 b1 b2 S far v).In t ↔ (0 ≤ t ∧ t ≤ 1) ∧ nrP a1 a2 b1 b2 S (rc far) t v := by
  unfold prtV
  rw [kpT_in (kpT_ok ⟨by decide, by decide⟩ _ _ _ _), kpT_in ⟨by decide, by decide⟩]
  have e0 : prt0.In t ↔ 0 ≤ t ∧ t ≤ 1 := by
    unfold Prt.In prt0
    simp only [frq_0, frq_1]
    exact ⟨fun h => h.2, fun h => ⟨trivial, h⟩⟩
  rw [e0]
  unfold nrP nrC
  have f1 : rc (2 * S * v.1 - far) = 2 * (rc S * rc v.1) - rc far := by simp [rc, Rat.intCast_sub, Rat.intCast_mul]; grind
  have f2 : rc (2 * S * v.1 + far) = 2 * (rc S * rc v.1) + rc far := by simp [rc, Rat.intCast_add, Rat.intCast_mul]; grind
  have f3 : rc (2 * S * v.2 - far) = 2 * (rc S * rc v.2) - rc far := by simp [rc, Rat.intCast_sub, Rat.intCast_mul]; grind
  have f4 : rc (2 * S * v.2 + far) = 2 * (rc S * rc v.2) + rc far := by simp [rc, Rat.intCast_add, Rat.intCast_mul]; grind
  rw [f1, f2, f3, f4]
  constructor
  · rintro ⟨⟨h0, h1, h2⟩, h3, h4⟩
    exact ⟨h0, ⟨by grind, by grind⟩, by grind, by grind⟩
  · rintro ⟨h0, ⟨h1, h2⟩, h3, h4⟩
    exact ⟨⟨h0, by grind, by grind⟩, by grind, by grind⟩
end Go.Proofs.Ytlglajaonmpljaa

namespace Go.Proofs.Ytlglajaonmpljaa
set_option linter.unusedVariables false
set_option linter.unusedSimpArgs false
def Prt.lay (p : Prt) : Prop := 0 ≤ p.fn ∧ p.tn ≤ p.td
theorem kpT_lay {p : Prt} (hp : p.ok) (h : p.lay) (a b low high : Int) : (kpT p a b low high).lay := by
  unfold kpT
  by_cases hab : a = b
  · rw [if_pos hab]; exact h
  · rw [if_neg hab]
    have hd := denN_pos hab
    generalize fromN a b low high = F
    generalize toN a b low high = T
    generalize denN a b = dn at *
    obtain ⟨h1, h2⟩ := h
    obtain ⟨g1, g2⟩ := hp
    unfold Prt.lay
    simp only
    constructor
    · split
      · rename_i hlt
        have : 0 ≤ p.fn * dn := Int.mul_nonneg h1 (by omega)
        have : 0 < F * p.fd := by omega
        exact Int.le_of_lt (Int.pos_of_mul_pos_left this g1)
      · exact h1
    · split
      · rename_i hlt
        have := Int.mul_le_mul_of_nonneg_right h2 (show 0 ≤ dn by omega)
        have h3 : T * p.td < dn * p.td := by rw [Int.mul_comm dn]; omega
        exact Int.le_of_lt (Int.lt_of_mul_lt_mul_right h3 (by omega))
      · exact h2
theorem prtV_lay (a1 a2 b1 b2 S far : Int) (v : Px) : (prtV a1 a2 b1 b2 S far v).lay := kpT_lay (kpT_ok ⟨by decide, by decide⟩ _ _ _ _) (kpT_lay ⟨by decide, by decide⟩ ⟨by decide, by decide⟩ _ _ _ _) _ _ _ _
def okP (p : Prt) : Bool := !p.no && decide (p.fn * p.td ≤ p.tn * p.fd)
/-- no part ends ahead of where one ahead of it begins. -/
def leP (p q : Prt) : Bool := decide (p.fn * q.td ≤ q.tn * p.fd)
theorem clF_mem {N : Rat → Px → Prop} : ∀ {V : List Px} {t : Rat}, clF N t V → ∀ v ∈ V, ∃ s, t ≤ s ∧ s ≤ 1 ∧ N s v
  | [], _, _, v, hv => by cases hv
  | w :: V, t, ⟨u, h1, h2, h3, h4⟩, v, hv => by
    rcases List.mem_cons.1 hv with rfl | hv
    · exact ⟨u, h1, h2, h3⟩
    · obtain ⟨s, g1, g2⟩ := clF_mem h4 v hv
      exact ⟨s, Rat.le_trans h1 g1, g2⟩
theorem in_of {a1 a2 b1 b2 S far : Int} {v : Px} {t : Rat} (h0 : 0 ≤ t) (h1 : t ≤ 1) (h : nrP a1 a2 b1 b2 S (rc far) t v) : (prtV a1 a2 b1 b2 S far v).In t := prtV_in.2 ⟨⟨h0, h1⟩, h⟩
theorem clF_parts {a1 a2 b1 b2 S far : Int} : ∀ {V : List Px} {t0 : Rat}, 0 ≤ t0 → clF (nrP a1 a2 b1 b2 S (rc far)) t0 V → (V.map (prtV a1 a2 b1 b2 S far)).Pairwise (fun p q => leP p q = true) ∧ ∀ p ∈ V.map (prtV a1 a2 b1 b2 S far), okP p = true
  | [], _, _, _ => ⟨.nil, fun p hp => by cases hp⟩
  | v :: V, t0, h0, ⟨t, h1, h2, h3, h4⟩ => by
    have ht := Rat.le_trans h0 h1
    obtain ⟨i1, i2⟩ := clF_parts ht h4
    have hi := in_of ht h2 h3
    have hv := prtV_ok a1 a2 b1 b2 S far v
    refine ⟨List.pairwise_cons.2 ⟨fun q hq => ?_, i1⟩, fun p hp => ?_⟩
    · obtain ⟨w, hw, rfl⟩ := List.mem_map.1 hq
      obtain ⟨s, g1, g2, g3⟩ := clF_mem h4 w hw
      have hj := in_of (Rat.le_trans ht g1) g2 g3
      have hw' := prtV_ok a1 a2 b1 b2 S far w
      unfold leP
      exact decide_eq_true ((frq_le hv.1 hw'.2).1 (Rat.le_trans hi.2.1 (Rat.le_trans g1 hj.2.2)))
    · rcases List.mem_cons.1 hp with rfl | hp
      · unfold okP
        rw [hi.1, decide_eq_true ((frq_le hv.1 hv.2).1 (Rat.le_trans hi.2.1 hi.2.2))]; rfl
      · exact i2 p hp
theorem parts_clF {a1 a2 b1 b2 S far : Int} : ∀ {V : List Px} {t0 : Rat}, (∀ v ∈ V, t0 ≤ frq (prtV a1 a2 b1 b2 S far v).tn (prtV a1 a2 b1 b2 S far v).td) → (V.map (prtV a1 a2 b1 b2 S far)).Pairwise (fun p q => leP p q = true) → (∀ p ∈ V.map (prtV a1 a2 b1 b2 S far), okP p = true) → clF (nrP a1 a2 b1 b2 S (rc far)) t0 V
  | [], _, _, _, _ => trivial
  | v :: V, t0, h0, hl, ho => by
    have hc := List.pairwise_cons.1 hl
    have hv := prtV_ok a1 a2 b1 b2 S far v
    have h1 := ho _ (List.mem_cons_self ..)
    unfold okP at h1
    simp only [Bool.and_eq_true, Bool.not_eq_true', decide_eq_true_eq] at h1
    have h2 := (frq_le hv.1 hv.2).2 h1.2
    have h3 := h0 v (List.mem_cons_self ..)
    have hrest : ∀ w ∈ V, frq (prtV a1 a2 b1 b2 S far v).fn (prtV a1 a2 b1 b2 S far v).fd ≤ frq (prtV a1 a2 b1 b2 S far w).tn (prtV a1 a2 b1 b2 S far w).td := fun w hw => by
      have := of_decide_eq_true (hc.1 _ (List.mem_map.2 ⟨w, hw, rfl⟩))
      exact (frq_le hv.1 (prtV_ok a1 a2 b1 b2 S far w).2).2 this
    by_cases hm : t0 ≤ frq (prtV a1 a2 b1 b2 S far v).fn (prtV a1 a2 b1 b2 S far v).fd
    · have hi := prtV_in.1 (show (prtV a1 a2 b1 b2 S far v).In (frq (prtV a1 a2 b1 b2 S far v).fn (prtV a1 a2 b1 b2 S far v).fd) from ⟨h1.1, Rat.le_refl, h2⟩)
      exact ⟨_, hm, hi.1.2, hi.2, parts_clF hrest hc.2 fun p hp => ho p (List.mem_cons_of_mem _ hp)⟩
    · have hm' := Rat.le_of_lt (Rat.not_le.1 hm)
      have hi := prtV_in.1 (show (prtV a1 a2 b1 b2 S far v).In t0 from ⟨h1.1, hm', h3⟩)
      exact ⟨t0, Rat.le_refl, hi.1.2, hi.2, parts_clF (fun w hw => h0 w (List.mem_cons_of_mem _ hw)) hc.2 fun p hp => ho p (List.mem_cons_of_mem _ hp)⟩
/-- by its vertices' parts. -/
theorem cloP_parts {a1 a2 b1 b2 S far : Int} {V : List Px} : cloP (nrP a1 a2 b1 b2 S (rc far)) V ↔ (∃ v, V.head? = some v ∧ (prtV a1 a2 b1 b2 S far v).fn = 0) ∧ (∃ v, V.getLast? = some v ∧ (prtV a1 a2 b1 b2 S far v).tn = (prtV a1 a2 b1 b2 S far v).td) ∧ (V.map (prtV a1 a2 b1 b2 S far)).Pairwise (fun p q => leP p q = true) ∧ ∀ p ∈ V.map (prtV a1 a2 b1 b2 S far), okP p = true := by
  constructor
  · rintro ⟨⟨v, h1, h2⟩, ⟨w, h3, h4⟩, h5⟩
    obtain ⟨g1, g2⟩ := clF_parts Rat.le_refl h5
    refine ⟨⟨v, h1, ?_⟩, ⟨w, h3, ?_⟩, g1, g2⟩
    · have hi := in_of Rat.le_refl (by decide) h2
      have hv := prtV_ok a1 a2 b1 b2 S far v
      have hl := (prtV_lay a1 a2 b1 b2 S far v).1
      have := hi.2.1
      rw [← frq_0, frq_le hv.1 (by decide)] at this
      omega
    · have hi := in_of (by decide) Rat.le_refl h4
      have hv := prtV_ok a1 a2 b1 b2 S far w
      have hl := (prtV_lay a1 a2 b1 b2 S far w).2
      have := hi.2.2
      rw [← frq_1, frq_le (by decide) hv.2] at this
      omega
  · rintro ⟨⟨v, h1, h2⟩, ⟨w, h3, h4⟩, h5, h6⟩
    have all : ∀ u ∈ V, 0 ≤ frq (prtV a1 a2 b1 b2 S far u).tn (prtV a1 a2 b1 b2 S far u).td := fun u hu => by
      have hv := prtV_ok a1 a2 b1 b2 S far u
      have hl := (prtV_lay a1 a2 b1 b2 S far u).1
      have ho := h6 _ (List.mem_map.2 ⟨u, hu, rfl⟩)
      unfold okP at ho
      simp only [Bool.and_eq_true, Bool.not_eq_true', decide_eq_true_eq] at ho
      have e := (frq_le hv.1 hv.2).2 ho.2
      refine Rat.le_trans ?_ e
      rw [← frq_0, frq_le (by decide) hv.1]
      omega
    have okv : ∀ u ∈ V, (prtV a1 a2 b1 b2 S far u).no = false ∧ frq (prtV a1 a2 b1 b2 S far u).fn (prtV a1 a2 b1 b2 S far u).fd ≤ frq (prtV a1 a2 b1 b2 S far u).tn (prtV a1 a2 b1 b2 S far u).td := fun u hu => by
      have hv := prtV_ok a1 a2 b1 b2 S far u
      have ho := h6 _ (List.mem_map.2 ⟨u, hu, rfl⟩)
      unfold okP at ho
      simp only [Bool.and_eq_true, Bool.not_eq_true', decide_eq_true_eq] at ho
      exact ⟨ho.1, (frq_le hv.1 hv.2).2 ho.2⟩
    refine ⟨⟨v, h1, ?_⟩, ⟨w, h3, ?_⟩, parts_clF all h5 h6⟩
    · have hm : v ∈ V := List.mem_of_mem_head? h1
      have hv := prtV_ok a1 a2 b1 b2 S far v
      refine (prtV_in.1 (show (prtV a1 a2 b1 b2 S far v).In 0 from ⟨(okv v hm).1, ?_, all v hm⟩)).2
      rw [← frq_0, frq_le hv.1 (by decide), h2]
      omega
    · have hm : w ∈ V := List.mem_of_getLast? h3
      have hv := prtV_ok a1 a2 b1 b2 S far w
      have e1 : frq (prtV a1 a2 b1 b2 S far w).tn (prtV a1 a2 b1 b2 S far w).td = 1 := by
        refine Rat.le_antisymm ?_ ?_
        · rw [← frq_1, frq_le hv.2 (by decide)]; omega
        · rw [← frq_1, frq_le (by decide) hv.2]; omega
      have e2 := (okv w hm).2
      rw [e1] at e2
      exact (prtV_in.1 (show (prtV a1 a2 b1 b2 S far w).In 1 from ⟨(okv w hm).1, e2, by rw [e1]; exact Rat.le_refl⟩)).2
/-- a little farther apart; turned round. -/
theorem cloP_far {a1 a2 b1 b2 S f g : Int} (h : f ≤ g) {V : List Px} (hc : cloP (nrP a1 a2 b1 b2 S (rc f)) V) : cloP (nrP a1 a2 b1 b2 S (rc g)) V := by
  have hfg := rc_le.2 h
  obtain ⟨⟨v, h1, h2⟩, ⟨w, h3, h4⟩, h5⟩ := hc
  exact ⟨⟨v, h1, nrP_more hfg h2⟩, ⟨w, h3, nrP_more hfg h4⟩, clF_more (fun t v => nrP_more hfg) h5⟩
theorem clF_snoc {N : Rat → Px → Prop} {v : Px} {t : Rat} (ht : t ≤ 1) (hv : N t v) : ∀ {V : List Px} {t0 : Rat}, t0 ≤ t → clF (fun s w => s ≤ t ∧ N s w) t0 V → clF N t0 (V ++ [v])
  | [], t0, h, _ => ⟨t, h, ht, hv, trivial⟩
  | w :: V, t0, h, ⟨s, h1, h2, h3, h4⟩ => ⟨s, h1, h2, h3.2, clF_snoc ht hv h3.1 h4⟩
/-- places from 0 to s, seen from the other end. -/
theorem clF_turn {N N' : Rat → Px → Prop} (hN : ∀ t v, N t v → N' (1 - t) v) : ∀ {V : List Px} {t0 : Rat}, 0 ≤ t0 → clF N t0 V → clF (fun s w => s ≤ 1 - t0 ∧ N' s w) 0 V.reverse
  | [], _, _, _ => trivial
  | v :: V, t0, h0, ⟨t, h1, h2, h3, h4⟩ => by
    have ih := clF_turn hN (Rat.le_trans h0 h1) h4
    rw [List.reverse_cons]
    refine clF_snoc (N := fun s w => s ≤ 1 - t0 ∧ N' s w) (t := 1 - t) (by have := Rat.le_trans h0 h1; grind) ⟨by grind, hN t v h3⟩ (by grind) (clF_more (fun s w hs => ⟨hs.1, by have := hs.1; grind, hs.2⟩) ih)
theorem cloP_turn {a1 a2 b1 b2 S : Int} {f : Rat} {V : List Px} (hc : cloP (nrP a1 a2 b1 b2 S f) V) : cloP (nrP b1 b2 a1 a2 S f) V.reverse := by
  obtain ⟨⟨v, h1, h2⟩, ⟨w, h3, h4⟩, h5⟩ := hc
  refine ⟨⟨w, by rw [List.head?_reverse]; exact h3, ?_⟩, ⟨v, by rw [List.getLast?_reverse]; exact h1, ?_⟩, clF_more (fun s w hs => hs.2) (clF_turn (fun t v => nrP_turn) Rat.le_refl h5)⟩
  · have := nrP_turn h4
    rw [show (1 : Rat) - 1 = 0 by grind] at this; exact this
  · have := nrP_turn h2
    rw [show (1 : Rat) - 0 = 1 by grind] at this; exact this
end Go.Proofs.Ytlglajaonmpljaa

namespace Go.Proofs.Ytlglajaonmpljaa
open Go.RowKit
set_option linter.unusedVariables false
set_option linter.unusedSimpArgs false
/-- the cells of a part. -/
abbrev prC (p : Prt) : List AC := [.c (.bool (decide (p.fn < 0))), .p (NumP p.fn), .c (.bool (decide (p.fd < 0))), .p (NumP p.fd), .c (.bool (decide (p.tn < 0))), .p (NumP p.tn), .c (.bool (decide (p.td < 0))), .p (NumP p.td), .c (.bool p.no)]
abbrev vPr (p : Prt) : AV := .w (.agg (prC p))
set_option maxRecDepth 100000 in
set_option maxHeartbeats 4000000 in
theorem p_r10num {n : Int} (h0 : -9223372036854775808 ≤ n) (h1 : n < 9223372036854775808) : PCall Try.prog 29 [vI n] (rfv n 1) := by
  have C1 := p_rOf h0 h1
  have C2 := p_rOf (n := 1) (by decide) (by decide)
  clear h0 h1
  refine pcall_body (f := 29) Try.func29 rfl rfl rfl rfl ?_
  (repeat (first | ((with_reducible apply al_q); exact rfl) | (refine al_call1 rfl rfl rfl (by (first | exact C1 | exact C2)) rfl ?_) | ((with_reducible apply awp_seq)) | ((with_reducible apply athen_normal)) | ((with_reducible apply awp_region)) | ((with_reducible apply al_nil)) | ((with_reducible apply awp_ret))))
  (first | (refine apost_ret rfl (resl_agg rfl rfl rfl resl_nil) ?_) | (refine apost_ret rfl (resl_one rfl rfl rfl resl_nil) ?_))
  exact AV.Le.refl _
set_option maxRecDepth 100000 in
set_option maxHeartbeats 8000000 in
theorem r10keep_eq {fn fd tn td a low high : Int} {no r : Bool} (ha : -1073741824 ≤ a ∧ a ≤ 1073741824) (cs : (no = true ∧ r = true) ∨ (no = false ∧ 2 * a < low ∧ r = true) ∨ (no = false ∧ ¬ 2 * a < low ∧ 2 * a > high ∧ r = true) ∨ (no = false ∧ ¬ 2 * a < low ∧ ¬ 2 * a > high ∧ r = false)) :
    PCall Try.prog 28 [vPr ⟨fn, fd, tn, td, no⟩, vI a, vI a, vI low, vI high] (vPr ⟨fn, fd, tn, td, r⟩) := by
  rcases cs with ⟨rfl, rfl⟩ | ⟨rfl, q1, rfl⟩ | ⟨rfl, q1, q2, rfl⟩ | ⟨rfl, q1, q2, rfl⟩
  all_goals
    refine pcall_body (f := 28) Try.func28 rfl rfl rfl rfl ?_
    (repeat (first | ((with_reducible apply al_q); exact rfl) | ((with_reducible apply al_mul); (iterate 3 exact rfl); (first | exact i64_wrap (by omega) | assumption | rfl); exact rfl) | ((with_reducible apply al_guard_b (c := true)); exact rfl; exact rfl; (first | assumption | exact decide_eq_true (by omega) | (simp only [Bool.not_eq_true', decide_eq_false_iff_not, decide_eq_true_eq, Bool.not_eq_false']; (first | done | omega)))) | ((with_reducible apply al_guard_b (c := false)); exact rfl; exact rfl; (first | assumption | exact decide_eq_false (by omega) | (simp only [Bool.not_eq_true', decide_eq_false_iff_not, decide_eq_true_eq, Bool.not_eq_false']; (first | done | omega)))) | ((with_reducible apply awp_seq)) | ((with_reducible apply athen_normal)) | ((with_reducible apply awp_region)) | ((with_reducible apply al_nil)) | ((with_reducible apply awp_ret)) | ((with_reducible apply athen_ret)) | ((with_reducible apply awp_cond_1); exact rfl; (first | assumption | exact decide_eq_true (by omega) | (simp only [Bool.not_eq_true', decide_eq_false_iff_not, decide_eq_true_eq, Bool.not_eq_false']; (first | done | omega))))))
    (first | (refine apost_ret rfl (resl_agg rfl rfl rfl resl_nil) ?_) | (refine apost_ret rfl (resl_one rfl rfl rfl resl_nil) ?_))
    first | exact AV.Le.refl _ | exact AV.Le.of_eq (by rw [decide_eq_true (show high < 2 * a from q2)]; rfl) | exact AV.Le.of_eq (by rw [decide_eq_false (show ¬ high < 2 * a from q2)]; rfl)
set_option maxRecDepth 100000 in
set_option maxHeartbeats 8000000 in
theorem r10keep_ne {fn fd tn td a b low high F T dn c1 c2 : Int} {no : Bool} (hab : ¬ a = b) (ha : -134217728 ≤ a ∧ a ≤ 134217728) (hb : -134217728 ≤ b ∧ b ≤ 134217728) (hl : -1073741824 ≤ low ∧ low ≤ 1073741824) (hh : -1073741824 ≤ high ∧ high ≤ 1073741824)
    (cd : (2 * (b - a) < 0 ∧ F = 2 * a - high ∧ T = 2 * a - low ∧ dn = -(2 * (b - a))) ∨ (¬ 2 * (b - a) < 0 ∧ F = low - 2 * a ∧ T = high - 2 * a ∧ dn = 2 * (b - a)))
    (D1 : PCall Try.prog 30 [rfv F dn, rfv fn fd] (vI c1)) (D2 : PCall Try.prog 30 [rfv T dn, rfv tn td] (vI c2)) {fn' fd' tn' td' : Int}
    (e1 : (c1 > 0 ∧ fn' = F ∧ fd' = dn) ∨ (¬ c1 > 0 ∧ fn' = fn ∧ fd' = fd)) (e2 : (c2 < 0 ∧ tn' = T ∧ td' = dn) ∨ (¬ c2 < 0 ∧ tn' = tn ∧ td' = td)) :
    PCall Try.prog 28 [vPr ⟨fn, fd, tn, td, no⟩, vI a, vI b, vI low, vI high] (vPr ⟨fn', fd', tn', td', no⟩) := by
  have O1 := p_rOf (n := low - 2 * a) (by omega) (by omega)
  have O2 := p_rOf (n := high - 2 * a) (by omega) (by omega)
  have O3 := p_rOf (n := 2 * (b - a)) (by omega) (by omega)
  have O4 := p_rOf (n := 2 * a - high) (by omega) (by omega)
  have O5 := p_rOf (n := 2 * a - low) (by omega) (by omega)
  have O6 := p_rOf (n := -(2 * (b - a))) (by omega) (by omega)
  rcases cd with ⟨q0, rfl, rfl, rfl⟩ | ⟨q0, rfl, rfl, rfl⟩
  all_goals
    rcases e1 with ⟨q1, rfl, rfl⟩ | ⟨q1, rfl, rfl⟩ <;> rcases e2 with ⟨q2, rfl, rfl⟩ | ⟨q2, rfl, rfl⟩
  all_goals
    refine pcall_body (f := 28) Try.func28 rfl rfl rfl rfl ?_
    (repeat (first | ((with_reducible apply al_q); exact rfl) | ((with_reducible apply al_sub); (iterate 3 exact rfl); (first | exact i64_wrap (by omega) | assumption | rfl); exact rfl) | ((with_reducible apply al_mul); (iterate 3 exact rfl); (first | exact i64_wrap (by omega) | assumption | rfl); exact rfl) | ((with_reducible apply al_neg); exact rfl; exact rfl; (first | exact i64_wrap (by omega) | assumption | rfl); exact rfl) | (refine al_call1 rfl rfl rfl (by (first | exact O1 | exact O2 | exact O3 | exact O4 | exact O5 | exact O6 | exact D1 | exact D2)) rfl ?_) | (refine al_call2 rfl rfl rfl rfl (by (first | exact O1 | exact O2 | exact O3 | exact O4 | exact O5 | exact O6 | exact D1 | exact D2)) rfl ?_) | ((with_reducible apply awp_seq)) | ((with_reducible apply athen_normal)) | ((with_reducible apply awp_region)) | ((with_reducible apply al_nil)) | ((with_reducible apply awp_ret)) | ((with_reducible apply awp_skip)) | ((with_reducible apply awp_cond_1); exact rfl; (first | assumption | exact decide_eq_true (by omega) | (simp only [Bool.not_eq_true', decide_eq_false_iff_not, decide_eq_true_eq, Bool.not_eq_false']; (first | done | omega)))) | ((with_reducible apply awp_cond_0); exact rfl; (first | assumption | exact decide_eq_false (by omega) | (simp only [Bool.not_eq_true', decide_eq_false_iff_not, decide_eq_true_eq, Bool.not_eq_false']; (first | done | omega))))))
    (first | (refine apost_ret rfl (resl_agg rfl rfl rfl resl_nil) ?_) | (refine apost_ret rfl (resl_one rfl rfl rfl resl_nil) ?_))
    exact AV.Le.refl _
theorem p_keep10 {p : Prt} {a b low high : Int} (ha : -134217728 ≤ a ∧ a ≤ 134217728) (hb : -134217728 ≤ b ∧ b ≤ 134217728) (hl : -1073741824 ≤ low ∧ low ≤ 1073741824) (hh : -1073741824 ≤ high ∧ high ≤ 1073741824)
    (b1 : NB 50 p.fn) (b2 : NB 50 p.fd) (b3 : NB 50 p.tn) (b4 : NB 50 p.td) : PCall Try.prog 28 [vPr p, vI a, vI b, vI low, vI high] (vPr (kpT p a b low high)) := by
  obtain ⟨fn, fd, tn, td, no⟩ := p
  unfold kpT
  by_cases hab : a = b
  · subst hab
    rw [if_pos rfl]
    refine r10keep_eq (by omega) ?_
    simp only
    cases no with
    | true => exact .inl ⟨rfl, rfl⟩
    | false =>
      by_cases q1 : 2 * a < low
      · exact .inr (.inl ⟨rfl, q1, by simp [q1]⟩)
      · by_cases q2 : high < 2 * a
        · exact .inr (.inr (.inl ⟨rfl, q1, q2, by simp [q2]⟩))
        · exact .inr (.inr (.inr ⟨rfl, q1, q2, by simp [q1, q2]⟩))
  · rw [if_neg hab]
    have k1 : NB 50 (fromN a b low high) := (show NB 5 (fromN a b low high) from nb5 (by unfold fromN; split <;> omega) (by unfold fromN; split <;> omega)).up (by omega)
    have k2 : NB 50 (toN a b low high) := (show NB 5 (toN a b low high) from nb5 (by unfold toN; split <;> omega) (by unfold toN; split <;> omega)).up (by omega)
    have k3 : NB 50 (denN a b) := (show NB 5 (denN a b) from nb5 (by unfold denN; split <;> omega) (by unfold denN; split <;> omega)).up (by omega)
    refine r10keep_ne (F := fromN a b low high) (T := toN a b low high) (dn := denN a b) hab ha hb hl hh ?_ (p_r2Cmp (k1.up (by omega)) (k3.up (by omega)) (b1.up (by omega)) (b2.up (by omega))) (p_r2Cmp (k2.up (by omega)) (k3.up (by omega)) (b3.up (by omega)) (b4.up (by omega))) ?_ ?_
    · unfold fromN toN denN
      by_cases q : 2 * (b - a) < 0
      · exact .inl ⟨q, by rw [if_pos q], by rw [if_pos q], by rw [if_pos q]⟩
      · exact .inr ⟨q, by rw [if_neg q], by rw [if_neg q], by rw [if_neg q]⟩
    · simp only
      have := ic_gt (fromN a b low high * fd) (fn * denN a b)
      by_cases q : fn * denN a b < fromN a b low high * fd
      · exact .inl ⟨by omega, by rw [if_pos q], by rw [if_pos q]⟩
      · exact .inr ⟨by omega, by rw [if_neg q], by rw [if_neg q]⟩
    · simp only
      have := ic_lt (toN a b low high * td) (tn * denN a b)
      by_cases q : toN a b low high * td < tn * denN a b
      · exact .inl ⟨by omega, by rw [if_pos q], by rw [if_pos q]⟩
      · exact .inr ⟨by omega, by rw [if_neg q], by rw [if_neg q]⟩
end Go.Proofs.Ytlglajaonmpljaa

namespace Go.Proofs.Ytlglajaonmpljaa
open Go.RowKit
set_option linter.unusedVariables false
set_option linter.unusedSimpArgs false
/-- a chain, as both packages have it. -/
abbrev vCh (V : List Px) (D : List Int) : AV := .w (.agg [.p (SlP 2 V.length (itC V)), .p (SlP 1 D.length (inC D))])
def prsC : List Prt → List AC
  | [] => []
  | p :: ps => prC p ++ prsC ps
theorem prsC_len : ∀ ps : List Prt, (prsC ps).length = ps.length * 9
  | [] => rfl
  | p :: ps => by simp only [prsC, List.length_append, prsC_len ps, List.length_cons, List.length_nil]; omega
theorem prsC_app : ∀ (ps : List Prt) (p : Prt), prsC ps ++ prC p = prsC (ps ++ [p])
  | [], p => by simp [prsC]
  | q :: ps, p => by simp only [List.cons_append, prsC, ← prsC_app ps p, List.append_assoc]
theorem prsC_at : ∀ {ps : List Prt} {i : Nat} {p : Prt}, ps[i]? = some p → ((prsC ps).drop (i * 9)).take 9 = prC p
  | [], i, p, h => by simp at h
  | q :: ps, 0, p, h => by simp at h; subst h; simp [prsC]
  | q :: ps, i + 1, p, h => by
    have := prsC_at (ps := ps) (i := i) (p := p) (by simpa using h)
    rw [← this, show (i + 1) * 9 = 9 + i * 9 by omega, ← List.drop_drop]
    rfl
theorem prsC_from {ps : List Prt} {j : Int} {i : Nat} {p : Prt} (hj : j = i) (h : ps[i]? = some p) : ((prsC ps).drop (j.toNat * 9)).take 4 = [.c (.bool (decide (p.fn < 0))), .p (NumP p.fn), .c (.bool (decide (p.fd < 0))), .p (NumP p.fd)] := by
  subst hj
  have := congrArg (List.take 4) (prsC_at h)
  rw [List.take_take] at this
  exact this
theorem prsC_to {ps : List Prt} {j : Int} {i : Nat} {p : Prt} (hj : j = i) (h : ps[i]? = some p) : ((prsC ps).drop (j.toNat * 9 + 4)).take 4 = [.c (.bool (decide (p.tn < 0))), .p (NumP p.tn), .c (.bool (decide (p.td < 0))), .p (NumP p.td)] := by
  subst hj
  have := congrArg (fun l => (l.drop 4).take 4) (prsC_at h)
  simp only [List.drop_take, List.take_take, List.drop_drop] at this
  exact this
abbrev ptRow (v : Value) (ps : List Prt) : HRow := ⟨71, 9, v, ps.length, prsC ps⟩
theorem ptRow_one (v : Value) (ps : List Prt) (p : Prt) : ptRow v (ps ++ [p]) = ⟨71, 9, v, ps.length + 1, prsC ps ++ prC p⟩ := by
  unfold ptRow; rw [← prsC_app, List.length_append]; rfl
instance iChainS_1 : RowTy Try.prog 64 71 9 136 := ⟨by kernel_rfl⟩
def Prt.small (p : Prt) : Prop := NB 50 p.fn ∧ NB 50 p.fd ∧ NB 50 p.tn ∧ NB 50 p.td
theorem kpT_small {p : Prt} {a b low high : Int} (hp : p.small) (ha : -134217728 ≤ a ∧ a ≤ 134217728) (hb : -134217728 ≤ b ∧ b ≤ 134217728) (hl : -1073741824 ≤ low ∧ low ≤ 1073741824) (hh : -1073741824 ≤ high ∧ high ≤ 1073741824) : (kpT p a b low high).small := by
  have k1 : NB 50 (fromN a b low high) := (show NB 5 (fromN a b low high) from nb5 (by unfold fromN; split <;> omega) (by unfold fromN; split <;> omega)).up (by omega)
  have k2 : NB 50 (toN a b low high) := (show NB 5 (toN a b low high) from nb5 (by unfold toN; split <;> omega) (by unfold toN; split <;> omega)).up (by omega)
  have k3 : NB 50 (denN a b) := (show NB 5 (denN a b) from nb5 (by unfold denN; split <;> omega) (by unfold denN; split <;> omega)).up (by omega)
  obtain ⟨h1, h2, h3, h4⟩ := hp
  unfold kpT
  by_cases hab : a = b
  · rw [if_pos hab]; exact ⟨h1, h2, h3, h4⟩
  · rw [if_neg hab]
    refine ⟨?_, ?_, ?_, ?_⟩
    · simp only; split
      · exact k1
      · exact h1
    · simp only; split
      · exact k3
      · exact h2
    · simp only; split
      · exact k2
      · exact h3
    · simp only; split
      · exact k3
      · exact h4
theorem prt0_small : prt0.small := ⟨(nb5 (n := 0) (by omega) (by omega)).up (by omega), (nb5 (n := 1) (by omega) (by omega)).up (by omega), (nb5 (n := 1) (by omega) (by omega)).up (by omega), (nb5 (n := 1) (by omega) (by omega)).up (by omega)⟩
/-- a vertex that is In: how great its numbers are. -/
theorem in_big {r : Nat} {x y : Int} (h : inB r x y = true) : (-134217728 ≤ 2 ^ r * x ∧ 2 ^ r * x ≤ 134217728) ∧ -134217728 ≤ 2 ^ r * y ∧ 2 ^ r * y ≤ 134217728 := by
  have hS : (0 : Int) < 2 ^ r := Int.pow_pos (by decide)
  unfold inB wi at h
  simp only [Bool.and_eq_true, decide_eq_true_eq] at h
  have e := Int.ediv_mul_le 134217728 (show (2 : Int) ^ r ≠ 0 by omega)
  generalize (2 : Int) ^ r = S at *
  generalize (134217728 : Int) / S = m at *
  have key : ∀ z : Int, -m ≤ z → z ≤ m → -134217728 ≤ S * z ∧ S * z ≤ 134217728 := fun z h1 h2 => by
    have a1 := Int.mul_le_mul_of_nonneg_left h1 (show 0 ≤ S by omega)
    have a2 := Int.mul_le_mul_of_nonneg_left h2 (show 0 ≤ S by omega)
    have a3 : S * -m = -(m * S) := by grind
    have a4 : S * m = m * S := by grind
    omega
  exact ⟨key x (by omega) (by omega), key y (by omega) (by omega)⟩
/-- whether a chain goes along a segment. -/
def ctnB (a1 a2 b1 b2 : Int) (r : Nat) (far : Int) (V : List Px) : Bool := (V.all fun v => inB r v.1 v.2) && ((V.map (prtV a1 a2 b1 b2 (2 ^ r) far)).all okP) && decide ((V.map (prtV a1 a2 b1 b2 (2 ^ r) far)).Pairwise fun p q => leP p q = true)
def endB (ps : List Prt) : Bool := match ps.head?, ps.getLast? with
  | some p, some q => decide (p.fn = 0) && decide (q.tn = q.td)
  | _, _ => false
def preB (a1 a2 b1 b2 k far : Int) (n : Nat) : Bool := decide (0 ≤ k ∧ k ≤ 28) && rB5 a1 a2 && rB5 b1 b2 && decide (0 ≤ far) && decide (far ≤ 268435456) && !decide (n = 0)
def cloB (a1 a2 b1 b2 k far : Int) (V : List Px) : Bool := preB a1 a2 b1 b2 k far V.length && ctnB a1 a2 b1 b2 k.toNat far V && endB (V.map (prtV a1 a2 b1 b2 (2 ^ k.toNat) far))
theorem cloB_iff {a1 a2 b1 b2 k far : Int} {V : List Px} : cloB a1 a2 b1 b2 k far V = true ↔ preB a1 a2 b1 b2 k far V.length = true ∧ (∀ v ∈ V, inB k.toNat v.1 v.2 = true) ∧ cloP (nrP a1 a2 b1 b2 (2 ^ k.toNat) (rc far)) V := by
  unfold cloB ctnB
  simp only [Bool.and_eq_true, decide_eq_true_eq]
  rw [List.all_eq_true, List.all_eq_true, cloP_parts]
  have e : endB (V.map (prtV a1 a2 b1 b2 (2 ^ k.toNat) far)) = true ↔ (∃ v, V.head? = some v ∧ (prtV a1 a2 b1 b2 (2 ^ k.toNat) far v).fn = 0) ∧ (∃ v, V.getLast? = some v ∧ (prtV a1 a2 b1 b2 (2 ^ k.toNat) far v).tn = (prtV a1 a2 b1 b2 (2 ^ k.toNat) far v).td) := by
    unfold endB
    rw [List.head?_map, List.getLast?_map]
    cases h1 : V.head? with
    | none => simp
    | some p =>
      cases h2 : V.getLast? with
      | none => simp
      | some q => simp
  rw [e]
  constructor
  · rintro ⟨⟨h0, ⟨h1, h2⟩, h3⟩, h4, h5⟩; exact ⟨h0, h1, h4, h5, h3, h2⟩
  · rintro ⟨h0, h1, h4, h5, h3, h2⟩; exact ⟨⟨h0, ⟨h1, h2⟩, h3⟩, h4, h5⟩
end Go.Proofs.Ytlglajaonmpljaa

namespace Go.Proofs.Ytlglajaonmpljaa
open Go.RowKit
set_option linter.unusedVariables false
set_option linter.unusedSimpArgs false
theorem prsC_from' {ps : List Prt} {j : Int} {i : Nat} {p : Prt} (hj : j = i) (h : ps[i]? = some p) : j.toNat * 9 + 0 + 4 ≤ (prsC ps).length ∧ ((prsC ps).drop (j.toNat * 9 + 0)).take 4 = [.c (.bool (decide (p.fn < 0))), .p (NumP p.fn), .c (.bool (decide (p.fd < 0))), .p (NumP p.fd)] := by
  have := (List.getElem?_eq_some_iff.1 h).1
  exact ⟨by rw [prsC_len]; omega, prsC_from hj h⟩
theorem prsC_to' {ps : List Prt} {j : Int} {i : Nat} {p : Prt} (hj : j = i) (h : ps[i]? = some p) : j.toNat * 9 + 4 + 4 ≤ (prsC ps).length ∧ ((prsC ps).drop (j.toNat * 9 + 4)).take 4 = [.c (.bool (decide (p.tn < 0))), .p (NumP p.tn), .c (.bool (decide (p.td < 0))), .p (NumP p.td)] := by
  have := (List.getElem?_eq_some_iff.1 h).1
  exact ⟨by rw [prsC_len]; omega, prsC_to hj h⟩
abbrev mCh (V : List Px) (D : List Int) : List AC := [.p (SlP 2 V.length (itC V)), .p (SlP 1 D.length (inC D))]
set_option maxRecDepth 100000 in
set_option maxHeartbeats 8000000 in
/-- what is wrong from the start. -/
theorem r10Close_no {a1 a2 b1 b2 k far r : Int} {V : List Px} {D : List Int} {g1 g2 : Bool} (R1 : PCall Try.prog 25 [vI k] (vI r)) (R2 : PCall Try.prog 10 [vP a1 a2] (vB g1)) (R3 : PCall Try.prog 10 [vP b1 b2] (vB g2))
    (cs : ¬ k = r ∨ (k = r ∧ g1 = false) ∨ (k = r ∧ g1 = true ∧ g2 = false) ∨ (k = r ∧ g1 = true ∧ g2 = true ∧ far < 0) ∨ (k = r ∧ g1 = true ∧ g2 = true ∧ ¬ far < 0 ∧ far > 268435456) ∨ (k = r ∧ g1 = true ∧ g2 = true ∧ ¬ far < 0 ∧ ¬ far > 268435456 ∧ (V.length : Int) = 0)) : PCall Try.prog 9 [vCh V D, vP a1 a2, vP b1 b2, vI k, vI far] (vB false) := by
  rcases cs with q1 | ⟨q1, rfl⟩ | ⟨q1, rfl, rfl⟩ | ⟨q1, rfl, rfl, q2⟩ | ⟨q1, rfl, rfl, q2, q3⟩ | ⟨q1, rfl, rfl, q2, q3, q4⟩
  all_goals
    try (have h1 : (!decide (k = r)) = true := by simp [q1])
    try (have h1 : (!decide (k = r)) = false := by simp [q1])
    refine pcall_body (f := 9) Try.func9 rfl rfl rfl rfl ?_
    (repeat (first | ((with_reducible apply al_q); exact rfl) | ((with_reducible apply al_len); (iterate 3 exact rfl)) | (refine al_call1 rfl rfl rfl (by (first | exact R1 | exact R2 | exact R3)) rfl ?_) | ((with_reducible apply al_guard_b (c := true)); exact rfl; exact rfl; (first | assumption | exact decide_eq_true (by omega) | (simp only [Bool.not_eq_true', decide_eq_false_iff_not, decide_eq_true_eq, Bool.not_eq_false']; (first | done | omega)))) | ((with_reducible apply al_guard_b (c := false)); exact rfl; exact rfl; (first | assumption | exact decide_eq_false (by omega) | (simp only [Bool.not_eq_true', decide_eq_false_iff_not, decide_eq_true_eq, Bool.not_eq_false']; (first | done | omega)))) | ((with_reducible apply awp_seq)) | ((with_reducible apply athen_normal)) | ((with_reducible apply awp_region)) | ((with_reducible apply al_nil)) | ((with_reducible apply awp_ret)) | ((with_reducible apply athen_ret)) | ((with_reducible apply awp_cond_t); exact rfl) | ((with_reducible apply awp_cond_1); exact rfl; (first | assumption | exact decide_eq_true (by omega) | (simp only [Bool.not_eq_true', decide_eq_false_iff_not, decide_eq_true_eq, Bool.not_eq_false']; (first | done | omega))))))
    (first | (refine apost_ret rfl (resl_tmp rfl resl_nil) ?_))
    exact AV.Le.refl _
def C10I (V : List Px) (D : List Int) (a1 a2 b1 b2 k far : Int) (r : Nat) (n : Nat) (R : Rws) (ts : List (Nat × AV)) (ms : List (Nat × List AC)) : Prop :=
  ∃ (i : Nat) (v : Value) (ii : Int), i ≤ V.length ∧ n = V.length - i ∧ ii = i ∧ ctnB a1 a2 b1 b2 r far (V.take i) = true ∧ R = row1 0 (ptRow v ((V.take i).map (prtV a1 a2 b1 b2 (2 ^ r) far))) ∧ ms = [(5, mCh V D), (6, mPx a1 a2), (7, mPx b1 b2)] ∧
    ts = [(3, vI k), (4, vI far), (5, vOw 5), (6, vOw 6), (7, vOw 7), (11, vC v), (12, vI ii)]
def J10I (V : List Px) (D : List Int) (a1 a2 b1 b2 k far : Int) (ps : List Prt) (p : Prt) (v : Value) (ii : Int) (n : Nat) (R : Rws) (ts : List (Nat × AV)) (ms : List (Nat × List AC)) : Prop :=
  ∃ (j : Nat) (jj : Int), j ≤ ps.length ∧ n = ps.length - j ∧ jj = j ∧ (∀ q ∈ ps.take j, leP q p = true) ∧ R = row1 0 (ptRow v ps) ∧ ms = [(5, mCh V D), (6, mPx a1 a2), (7, mPx b1 b2), (15, prC p)] ∧
    ts = [(3, vI k), (4, vI far), (5, vOw 5), (6, vOw 6), (7, vOw 7), (11, vC v), (12, vI ii), (15, vOw 15), (16, vI jj)]
theorem ctnB_succ {a1 a2 b1 b2 far : Int} {r : Nat} {V : List Px} {i : Nat} {x y : Int} (h : V[i]? = some (x, y)) : ctnB a1 a2 b1 b2 r far (V.take (i + 1)) = true ↔ ctnB a1 a2 b1 b2 r far (V.take i) = true ∧ inB r x y = true ∧ okP (prtV a1 a2 b1 b2 (2 ^ r) far (x, y)) = true ∧ ∀ q ∈ (V.take i).map (prtV a1 a2 b1 b2 (2 ^ r) far), leP q (prtV a1 a2 b1 b2 (2 ^ r) far (x, y)) = true := by
  have e : V.take (i + 1) = V.take i ++ [(x, y)] := by
    rw [List.take_succ_eq_append_getElem (List.getElem?_eq_some_iff.1 h).1, (List.getElem?_eq_some_iff.1 h).2]
  unfold ctnB
  rw [e]
  simp only [List.map_append, List.map_cons, List.map_nil, List.all_append, List.all_cons, List.all_nil, Bool.and_true, Bool.and_eq_true, decide_eq_true_eq, List.pairwise_append, List.pairwise_singleton, List.mem_singleton, true_and]
  constructor
  · rintro ⟨⟨⟨h1, h2⟩, h3, h4⟩, h5, h6⟩; exact ⟨⟨⟨h1, h3⟩, h5⟩, h2, h4, fun q hq => h6 q hq _ rfl⟩
  · rintro ⟨⟨⟨h1, h3⟩, h5⟩, h2, h4, h6⟩; exact ⟨⟨⟨h1, h2⟩, h3, h4⟩, h5, fun q hq b hb => by rw [hb]; exact h6 q hq⟩
theorem ctnB_take {a1 a2 b1 b2 far : Int} {r : Nat} {V : List Px} (i : Nat) (h : ctnB a1 a2 b1 b2 r far (V.take i) = false) : ctnB a1 a2 b1 b2 r far V = false := by
  cases hh : ctnB a1 a2 b1 b2 r far V with
  | false => rfl
  | true =>
    have : ctnB a1 a2 b1 b2 r far (V.take i) = true := by
      unfold ctnB at hh ⊢
      simp only [Bool.and_eq_true, decide_eq_true_eq, List.all_eq_true] at hh ⊢
      refine ⟨⟨fun v hv => hh.1.1 v (List.mem_of_mem_take hv), fun p hp => ?_⟩, ?_⟩
      · obtain ⟨v, hv, rfl⟩ := List.mem_map.1 hp
        exact hh.1.2 _ (List.mem_map.2 ⟨v, List.mem_of_mem_take hv, rfl⟩)
      · rw [List.map_take]
        exact List.Pairwise.sublist (List.take_sublist _ _) hh.2
    rw [h] at this
    cases this
end Go.Proofs.Ytlglajaonmpljaa

namespace Go.Proofs.Ytlglajaonmpljaa
open Go.RowKit
set_option linter.unusedVariables false
set_option linter.unusedSimpArgs false
theorem endB_of {ps : List Prt} {p q : Prt} (h0 : ps[0]? = some p) (h1 : ps[ps.length - 1]? = some q) : endB ps = (decide (p.fn = 0) && decide (q.tn = q.td)) := by
  unfold endB
  rw [List.head?_eq_getElem?, h0, List.getLast?_eq_getElem?, h1]
theorem prtV_small {a1 a2 b1 b2 far : Int} {r : Nat} {v : Px} (ra : rB5 a1 a2 = true) (rb : rB5 b1 b2 = true) (f0 : 0 ≤ far) (f1 : far ≤ 268435456) (h : inB r v.1 v.2 = true) : (prtV a1 a2 b1 b2 (2 ^ r) far v).small := by
  have qa := rB5_iff.1 ra
  have qb := rB5_iff.1 rb
  have bg := in_big h
  have ex : 2 * 2 ^ r * v.1 = 2 * (2 ^ r * v.1) := by grind
  have ey : 2 * 2 ^ r * v.2 = 2 * (2 ^ r * v.2) := by grind
  exact kpT_small (kpT_small prt0_small qa.1 qb.1 (by omega) (by omega)) qa.2 qb.2 (by omega) (by omega)
set_option maxRecDepth 100000 in
set_option maxHeartbeats 16000000 in
theorem r10Close_yes {a1 a2 b1 b2 far : Int} {r : Nat} {V : List Px} {D : List Int} (hr : r ≤ 28) (ra : rB5 a1 a2 = true) (rb : rB5 b1 b2 = true) (f0 : 0 ≤ far) (f1 : far ≤ 268435456) (hV : 0 < V.length) (hin : ∀ v ∈ V, InI v) (hl : V.length ≤ 1000) :
    PCall Try.prog 9 [vCh V D, vP a1 a2, vP b1 b2, vI r, vI far] (vB (ctnB a1 a2 b1 b2 r far V && endB (V.map (prtV a1 a2 b1 b2 (2 ^ r) far)))) := by
  have hR : IsR (r : Int) r := ⟨hr, .inr (.inr rfl)⟩
  have R1 := p_Rung hR
  have R2 := p_r5Right ra
  have R3 := p_r5Right rb
  have N0 := p_r10num (n := 0) (by decide) (by decide)
  have N1 := p_r10num (n := 1) (by decide) (by decide)
  have Z := p_Size hR
  have qa := rB5_iff.1 ra
  have qb := rB5_iff.1 rb
  have hsmV := fun v => prtV_small (v := v) (r := r) ra rb f0 f1
  clear ra rb
  have h1 : (!decide ((r : Int) = r)) = false := by simp
  have g2 : ¬ far < 0 := by omega
  have g3 : ¬ far > 268435456 := by omega
  have g4 : ¬ (V.length : Int) = 0 := by omega
  have hS : (0 : Int) < 2 ^ r := Int.pow_pos (by decide)
  have hS2 : (2 : Int) ^ r ≤ 268435456 := by
    have := Int.ofNat_le.2 (Nat.pow_le_pow_right (show 0 < 2 by decide) hr)
    rw [Int.natCast_pow] at this
    exact this
  have hbig := fun x y (h : inB r x y = true) => in_big h
  have hpin := fun x y (h0 : InI (x, y)) => p_r3In (x := x) (y := y) (b := inB r x y) hR (by have := h0.1; simp only at this; omega) (by have := h0.1; simp only at this; omega) (by have := h0.2; simp only at this; omega) (by have := h0.2; simp only at this; omega) rfl
  have hsucc := fun i x y (h : V[i]? = some (x, y)) => ctnB_succ (a1 := a1) (a2 := a2) (b1 := b1) (b2 := b2) (far := far) (r := r) h
  have hdef : ∀ v, prtV a1 a2 b1 b2 (2 ^ r) far v = kpT (kpT prt0 a1 b1 (2 * 2 ^ r * v.1 - far) (2 * 2 ^ r * v.1 + far)) a2 b2 (2 * 2 ^ r * v.2 - far) (2 * 2 ^ r * v.2 + far) := fun v => rfl
  refine pcall_body (f := 9) Try.func9 rfl rfl rfl rfl ?_
  refine awp_rows ?_
  refine rwp_nil 0 71 9 rfl ?_
  (repeat (first | ((with_reducible apply rwp_seq)) | ((with_reducible apply rthen_normal)) | ((with_reducible apply rwp_region)) | ((with_reducible apply hs_nil)) | ((with_reducible apply rwp_skip)) | ((with_reducible apply rwp_block)) | ((with_reducible apply rwp_cond_0); exact rfl; (first | assumption | exact decide_eq_false (by omega) | (simp only [Bool.not_eq_true', decide_eq_false_iff_not, decide_eq_true_eq, Bool.not_eq_false']; (first | done | omega)) | exact rfl)) | ((with_reducible apply hs_c); exact rfl; (repeat (first | ((with_reducible apply al_q); exact rfl) | ((with_reducible apply al_len); (iterate 3 exact rfl)) | (refine al_call1 rfl rfl rfl (by (first | exact R1 | exact R2 | exact R3)) rfl ?_) | ((with_reducible apply al_guard_b (c := false)); exact rfl; exact rfl; (first | assumption | exact decide_eq_false (by omega) | (simp only [Bool.not_eq_true', decide_eq_false_iff_not, decide_eq_true_eq, Bool.not_eq_false']; (first | done | omega)))))); (with_reducible apply al_nil))))
  refine rwp_loopL 154 (C10I V D a1 a2 b1 b2 r far r) V.length (row1 0 (ptRow (.slice none 0 0) [])) _ [(5, mCh V D), (6, mPx a1 a2), (7, mPx b1 b2)] ⟨0, .slice none 0 0, 0, Nat.zero_le _, rfl, rfl, rfl, rfl, rfl, rfl⟩ (row1_le _ _ _) rfl ⟨rfl, rfl, rfl, rfl, rfl, rfl, rfl, trivial⟩ ⟨rfl, rfl, rfl, trivial⟩ rfl ?_
  clear R1 R2 R3 h1
  rintro n R ts ms ⟨i, v, ii, hi, rfl, hii, hct, rfl, rfl, rfl⟩ hok
  clear hok
  by_cases hq : i < V.length
  · have q2 : ii < (V.length : Int) := by omega
    have q3 : 0 ≤ ii := by omega
    obtain ⟨x, y, g1⟩ : ∃ x y, V[i]? = some (x, y) := ⟨_, _, List.getElem?_eq_getElem hq⟩
    have E1 := itC_xy hii g1
    have I1 := hpin x y (hin _ (List.mem_of_getElem? g1))
    have hsu := hsucc i x y g1
    have hfalse : ¬ ctnB a1 a2 b1 b2 r far (V.take (i + 1)) = true → (ctnB a1 a2 b1 b2 r far V && endB (V.map (prtV a1 a2 b1 b2 (2 ^ r) far))) = false := fun h => by
      rw [ctnB_take (i + 1) (by simpa using h), Bool.false_and]
    rw [hct] at hsu
    cases hb : inB r x y with
    | false =>
      rw [hfalse (by rw [hsu, hb]; simp)]
      rw [hb] at I1
      clear hsu hfalse hsucc hpin hdef hbig hin N0 N1 Z
      (repeat (first | ((with_reducible apply rwp_seq)) | ((with_reducible apply rthen_normal)) | ((with_reducible apply rwp_region)) | ((with_reducible apply hs_nil)) | ((with_reducible apply rwp_ret)) | ((with_reducible apply rwp_skip)) | ((with_reducible apply rthen_ret)) | ((with_reducible apply rwp_block)) | ((with_reducible apply rblock_ret)) | ((with_reducible apply rwp_cond_1); exact rfl; (first | assumption | exact decide_eq_true (by omega) | (simp only [Bool.not_eq_true', decide_eq_false_iff_not, decide_eq_true_eq, Bool.not_eq_false']; (first | done | omega)) | exact rfl)) | ((with_reducible apply hs_c); exact rfl; (repeat (first | ((with_reducible apply al_q); exact rfl) | ((with_reducible apply al_loadPN); (iterate 5 exact rfl)) | ((with_reducible apply al_idxS); (iterate 3 exact rfl); (first | decide | omega); (first | decide | omega); (first | assumption | rfl); exact rfl) | ((with_reducible apply al_len); (iterate 3 exact rfl)) | (refine al_call2 rfl rfl rfl rfl (by (first | exact I1)) rfl ?_))); (with_reducible apply al_nil))))
      (first | (refine apost_ret rfl (resl_tmp rfl resl_nil) ?_))
      exact AV.Le.refl _
    | true =>
      rw [hb] at I1 hsu
      have bg := hbig x y hb
      have ex : 2 * 2 ^ r * x = 2 * (2 ^ r * x) := by grind
      have ey : 2 * 2 ^ r * y = 2 * (2 ^ r * y) := by grind
      have bx : -268435456 ≤ 2 * 2 ^ r * x ∧ 2 * 2 ^ r * x ≤ 268435456 := by omega
      have by' : -268435456 ≤ 2 * 2 ^ r * y ∧ 2 * 2 ^ r * y ≤ 268435456 := by omega
      clear ex ey bg
      have K1 := p_keep10 (p := prt0) (a := a1) (b := b1) (low := 2 * 2 ^ r * x - far) (high := 2 * 2 ^ r * x + far) qa.1 qb.1 (by omega) (by omega) prt0_small.1 prt0_small.2.1 prt0_small.2.2.1 prt0_small.2.2.2
      have sm1 := kpT_small (p := prt0) (a := a1) (b := b1) (low := 2 * 2 ^ r * x - far) (high := 2 * 2 ^ r * x + far) prt0_small qa.1 qb.1 (by omega) (by omega)
      have K2 := p_keep10 (p := kpT prt0 a1 b1 (2 * 2 ^ r * x - far) (2 * 2 ^ r * x + far)) (a := a2) (b := b2) (low := 2 * 2 ^ r * y - far) (high := 2 * 2 ^ r * y + far) qa.2 qb.2 (by omega) (by omega) sm1.1 sm1.2.1 sm1.2.2.1 sm1.2.2.2
      have sm2 := kpT_small (p := kpT prt0 a1 b1 (2 * 2 ^ r * x - far) (2 * 2 ^ r * x + far)) (a := a2) (b := b2) (low := 2 * 2 ^ r * y - far) (high := 2 * 2 ^ r * y + far) sm1 qa.2 qb.2 (by omega) (by omega)
      rw [show kpT (kpT prt0 a1 b1 (2 * 2 ^ r * x - far) (2 * 2 ^ r * x + far)) a2 b2 (2 * 2 ^ r * y - far) (2 * 2 ^ r * y + far) = prtV a1 a2 b1 b2 (2 ^ r) far (x, y) from rfl] at K2 sm2
      generalize hps : (V.take i).map (prtV a1 a2 b1 b2 (2 ^ r) far) = ps at *
      have hpl : ps.length = i := by rw [← hps, List.length_map, List.length_take]; omega
      have hnext : (V.take (i + 1)).map (prtV a1 a2 b1 b2 (2 ^ r) far) = ps ++ [prtV a1 a2 b1 b2 (2 ^ r) far (x, y)] := by
        rw [List.take_succ_eq_append_getElem hq, (List.getElem?_eq_some_iff.1 g1).2, List.map_append, hps]; rfl
      have hsmall : ∀ q ∈ ps, q.small := fun q hq => by
        rw [← hps] at hq
        obtain ⟨u, hu, rfl⟩ := List.mem_map.1 hq
        unfold ctnB at hct
        simp only [Bool.and_eq_true] at hct
        exact hsmV u (List.all_eq_true.1 hct.1.1 u hu)
      generalize prtV a1 a2 b1 b2 (2 ^ r) far (x, y) = p at *
      generalize kpT prt0 a1 b1 (2 * 2 ^ r * x - far) (2 * 2 ^ r * x + far) = p1 at *
      have D1 := p_r2Cmp (n := p.fn) (d := p.fd) (m := p.tn) (e := p.td) (sm2.1.up (by omega)) (sm2.2.1.up (by omega)) (sm2.2.2.1.up (by omega)) (sm2.2.2.2.up (by omega))
      have hc1 := ic_gt (p.fn * p.td) (p.tn * p.fd)
      clear hpin hbig hsucc hdef sm1 g1 hb hin qa qb hsmV
      cases hno : p.no with
      | true =>
        rw [hfalse (by rw [hsu]; unfold okP; rw [hno]; simp)]
        clear hsu hfalse hc1 D1 sm2 hnext hsmall
        (repeat (first | ((with_reducible apply hs_nilS); kernel_rfl) | ((with_reducible apply rwp_draw (id := 9) [0,1,2,3,4,5,6,7,8,9,10]); kernel_rfl; kernel_rfl; exact rfl) | ((with_reducible apply rwp_draw (id := 10) [0,1,2,3,4,5,6,7,8,9,10]); kernel_rfl; kernel_rfl; exact rfl) | ((with_reducible apply rwp_draw (id := 11) [14,0,1,2,3,4,5,6,7,8,9,10,11,12,13,15]); kernel_rfl; kernel_rfl; exact rfl) | ((with_reducible apply rwp_seq)) | ((with_reducible apply rthen_normal)) | ((with_reducible apply rwp_region)) | ((with_reducible apply hs_nil)) | ((with_reducible apply rwp_ret)) | ((with_reducible apply rwp_skip)) | ((with_reducible apply rthen_ret)) | ((with_reducible apply rwp_block)) | ((with_reducible apply rblock_ret)) | ((with_reducible apply rwp_cond_1); exact rfl; (first | assumption | exact decide_eq_true (by omega) | (simp only [Bool.not_eq_true', decide_eq_false_iff_not, decide_eq_true_eq, Bool.not_eq_false']; (first | done | omega)) | exact rfl)) | ((with_reducible apply rwp_cond_0); exact rfl; (first | assumption | exact decide_eq_false (by omega) | (simp only [Bool.not_eq_true', decide_eq_false_iff_not, decide_eq_true_eq, Bool.not_eq_false']; (first | done | omega)) | exact rfl)) | ((with_reducible apply hs_c); exact rfl; (repeat (first | ((with_reducible apply al_q); exact rfl) | ((with_reducible apply al_loadP1); (iterate 5 exact rfl)) | ((with_reducible apply al_loadPN); (iterate 5 exact rfl)) | ((with_reducible apply al_fldP); (iterate 3 exact rfl)) | ((with_reducible apply al_idxS); (iterate 3 exact rfl); (first | decide | omega); (first | decide | omega); (first | assumption | rfl); exact rfl) | ((with_reducible apply al_add); (iterate 3 exact rfl); (first | exact i64_wrap (by omega) | assumption | rfl); exact rfl) | ((with_reducible apply al_sub); (iterate 3 exact rfl); (first | exact i64_wrap (by omega) | assumption | rfl); exact rfl) | ((with_reducible apply al_mul); (iterate 3 exact rfl); (first | exact i64_wrap (by omega) | assumption | rfl); exact rfl) | ((with_reducible apply al_len); (iterate 3 exact rfl)) | (refine al_call1 rfl rfl rfl (by (first | exact I1 | exact Z | exact N0 | exact N1 | exact K1 | exact K2)) rfl ?_) | (refine al_call2 rfl rfl rfl rfl (by (first | exact I1 | exact Z | exact N0 | exact N1 | exact K1 | exact K2)) rfl ?_) | (refine al_call5 rfl rfl rfl rfl rfl rfl rfl (by (first | exact I1 | exact Z | exact N0 | exact N1 | exact K1 | exact K2)) rfl ?_) | ((with_reducible apply al_guard_b (c := true)); exact rfl; exact rfl; (first | assumption | exact decide_eq_true (by omega) | (simp only [Bool.not_eq_true', decide_eq_false_iff_not, decide_eq_true_eq, Bool.not_eq_false']; (first | done | omega)))))); (with_reducible apply al_nil))))
        (first | (refine apost_ret rfl (resl_tmp rfl resl_nil) ?_))
        exact AV.Le.refl _
      | false =>
        by_cases hcc : p.tn * p.fd < p.fn * p.td
        · rw [hfalse (by rw [hsu]; unfold okP; rw [decide_eq_false (show ¬ p.fn * p.td ≤ p.tn * p.fd by omega)]; simp)]
          have hcm : icmp (p.fn * p.td) (p.tn * p.fd) > 0 := hc1.2 hcc
          clear hsu hfalse hc1 sm2 hnext hsmall hcc
          generalize icmp (p.fn * p.td) (p.tn * p.fd) = cm at *
          (repeat (first | ((with_reducible apply hs_nilS); kernel_rfl) | ((with_reducible apply rwp_draw (id := 9) [0,1,2,3,4,5,6,7,8,9,10]); kernel_rfl; kernel_rfl; exact rfl) | ((with_reducible apply rwp_draw (id := 10) [0,1,2,3,4,5,6,7,8,9,10]); kernel_rfl; kernel_rfl; exact rfl) | ((with_reducible apply rwp_draw (id := 11) [14,0,1,2,3,4,5,6,7,8,9,10,11,12,13,15]); kernel_rfl; kernel_rfl; exact rfl) | ((with_reducible apply rwp_seq)) | ((with_reducible apply rthen_normal)) | ((with_reducible apply rwp_region)) | ((with_reducible apply hs_nil)) | ((with_reducible apply rwp_ret)) | ((with_reducible apply rwp_skip)) | ((with_reducible apply rthen_ret)) | ((with_reducible apply rwp_block)) | ((with_reducible apply rblock_ret)) | ((with_reducible apply rwp_cond_1); exact rfl; (first | assumption | exact decide_eq_true (by omega) | (simp only [Bool.not_eq_true', decide_eq_false_iff_not, decide_eq_true_eq, Bool.not_eq_false']; (first | done | omega)) | exact rfl)) | ((with_reducible apply rwp_cond_0); exact rfl; (first | assumption | exact decide_eq_false (by omega) | (simp only [Bool.not_eq_true', decide_eq_false_iff_not, decide_eq_true_eq, Bool.not_eq_false']; (first | done | omega)) | exact rfl)) | ((with_reducible apply hs_c); exact rfl; (repeat (first | ((with_reducible apply al_q); exact rfl) | ((with_reducible apply al_loadP1); (iterate 5 exact rfl)) | ((with_reducible apply al_loadPN); (iterate 5 exact rfl)) | ((with_reducible apply al_fldP); (iterate 3 exact rfl)) | ((with_reducible apply al_idxS); (iterate 3 exact rfl); (first | decide | omega); (first | decide | omega); (first | assumption | rfl); exact rfl) | ((with_reducible apply al_add); (iterate 3 exact rfl); (first | exact i64_wrap (by omega) | assumption | rfl); exact rfl) | ((with_reducible apply al_sub); (iterate 3 exact rfl); (first | exact i64_wrap (by omega) | assumption | rfl); exact rfl) | ((with_reducible apply al_mul); (iterate 3 exact rfl); (first | exact i64_wrap (by omega) | assumption | rfl); exact rfl) | ((with_reducible apply al_len); (iterate 3 exact rfl)) | (refine al_call1 rfl rfl rfl (by (first | exact I1 | exact Z | exact N0 | exact N1 | exact K1 | exact K2 | exact D1)) rfl ?_) | (refine al_call2 rfl rfl rfl rfl (by (first | exact I1 | exact Z | exact N0 | exact N1 | exact K1 | exact K2 | exact D1)) rfl ?_) | (refine al_call5 rfl rfl rfl rfl rfl rfl rfl (by (first | exact I1 | exact Z | exact N0 | exact N1 | exact K1 | exact K2 | exact D1)) rfl ?_) | ((with_reducible apply al_guard_b (c := false)); exact rfl; exact rfl; (first | assumption | exact decide_eq_false (by omega) | (simp only [Bool.not_eq_true', decide_eq_false_iff_not, decide_eq_true_eq, Bool.not_eq_false']; (first | done | omega)))))); (with_reducible apply al_nil))))
          (first | (refine apost_ret rfl (resl_tmp rfl resl_nil) ?_))
          exact AV.Le.refl _
        · have hcm : ¬ icmp (p.fn * p.td) (p.tn * p.fd) > 0 := fun h => hcc (hc1.1 h)
          have hokp : okP p = true := by unfold okP; rw [hno]; simp; omega
          rw [hokp] at hsu
          clear hc1 hcc hokp
          generalize icmp (p.fn * p.td) (p.tn * p.fd) = cm at *
          (repeat (first | ((with_reducible apply hs_nilS); kernel_rfl) | ((with_reducible apply rwp_draw (id := 9) [0,1,2,3,4,5,6,7,8,9,10]); kernel_rfl; kernel_rfl; exact rfl) | ((with_reducible apply rwp_draw (id := 10) [0,1,2,3,4,5,6,7,8,9,10]); kernel_rfl; kernel_rfl; exact rfl) | ((with_reducible apply rwp_draw (id := 11) [14,0,1,2,3,4,5,6,7,8,9,10,11,12,13,15]); kernel_rfl; kernel_rfl; exact rfl) | ((with_reducible apply rwp_seq)) | ((with_reducible apply rthen_normal)) | ((with_reducible apply rwp_region)) | ((with_reducible apply hs_nil)) | ((with_reducible apply rwp_skip)) | ((with_reducible apply rwp_block)) | ((with_reducible apply rwp_cond_1); exact rfl; (first | assumption | exact decide_eq_true (by omega) | (simp only [Bool.not_eq_true', decide_eq_false_iff_not, decide_eq_true_eq, Bool.not_eq_false']; (first | done | omega)) | exact rfl)) | ((with_reducible apply rwp_cond_0); exact rfl; (first | assumption | exact decide_eq_false (by omega) | (simp only [Bool.not_eq_true', decide_eq_false_iff_not, decide_eq_true_eq, Bool.not_eq_false']; (first | done | omega)) | exact rfl)) | ((with_reducible apply hs_c); exact rfl; (repeat (first | ((with_reducible apply al_q); exact rfl) | ((with_reducible apply al_loadP1); (iterate 5 exact rfl)) | ((with_reducible apply al_loadPN); (iterate 5 exact rfl)) | ((with_reducible apply al_fldP); (iterate 3 exact rfl)) | ((with_reducible apply al_idxS); (iterate 3 exact rfl); (first | decide | omega); (first | decide | omega); (first | assumption | rfl); exact rfl) | ((with_reducible apply al_add); (iterate 3 exact rfl); (first | exact i64_wrap (by omega) | assumption | rfl); exact rfl) | ((with_reducible apply al_sub); (iterate 3 exact rfl); (first | exact i64_wrap (by omega) | assumption | rfl); exact rfl) | ((with_reducible apply al_mul); (iterate 3 exact rfl); (first | exact i64_wrap (by omega) | assumption | rfl); exact rfl) | ((with_reducible apply al_len); (iterate 3 exact rfl)) | (refine al_call1 rfl rfl rfl (by (first | exact I1 | exact Z | exact N0 | exact N1 | exact K1 | exact K2 | exact D1)) rfl ?_) | (refine al_call2 rfl rfl rfl rfl (by (first | exact I1 | exact Z | exact N0 | exact N1 | exact K1 | exact K2 | exact D1)) rfl ?_) | (refine al_call5 rfl rfl rfl rfl rfl rfl rfl (by (first | exact I1 | exact Z | exact N0 | exact N1 | exact K1 | exact K2 | exact D1)) rfl ?_) | ((with_reducible apply al_guard_b (c := false)); exact rfl; exact rfl; (first | assumption | exact decide_eq_false (by omega) | (simp only [Bool.not_eq_true', decide_eq_false_iff_not, decide_eq_true_eq, Bool.not_eq_false']; (first | done | omega)))))); (with_reducible apply al_nil))))
          refine rwp_loopL 154 (J10I V D a1 a2 b1 b2 r far ps p v ii) ps.length (row1 0 (ptRow v ps)) _ [(5, mCh V D), (6, mPx a1 a2), (7, mPx b1 b2), (15, prC p)] ⟨0, 0, Nat.zero_le _, rfl, rfl, fun q h => by simp at h, rfl, rfl, rfl⟩ (RLe.refl _) rfl ⟨rfl, rfl, rfl, rfl, rfl, rfl, rfl, rfl, rfl, trivial⟩ ⟨rfl, rfl, rfl, rfl, trivial⟩ rfl ?_
          clear I1 Z N0 N1 K1 K2 D1
          rintro n R ts ms ⟨j, jj, hj, rfl, hjj, hle, rfl, rfl, rfl⟩ hok
          clear hok
          by_cases hqj : j < ps.length
          · have p2 : jj < (ps.length : Int) := by omega
            have p3 : 0 ≤ jj := by omega
            have p4 : 0 < ps.length := by omega
            obtain ⟨q, g2⟩ : ∃ q, ps[j]? = some q := ⟨_, List.getElem?_eq_getElem hqj⟩
            have E2 := prsC_from' hjj g2
            have hqm := List.mem_of_getElem? g2
            have sq := hsmall q hqm
            have D2 := p_r2Cmp (n := q.fn) (d := q.fd) (m := p.tn) (e := p.td) (sq.1.up (by omega)) (sq.2.1.up (by omega)) (sm2.2.2.1.up (by omega)) (sm2.2.2.2.up (by omega))
            have hc2 := ic_gt (q.fn * p.td) (p.tn * q.fd)
            by_cases hcc : p.tn * q.fd < q.fn * p.td
            · rw [hfalse (by
                rw [hsu]
                intro h
                have := of_decide_eq_true (h.2.2.2 q hqm)
                omega)]
              have hcm2 : icmp (q.fn * p.td) (p.tn * q.fd) > 0 := hc2.2 hcc
              clear hsu hfalse hc2 sm2 hnext hsmall hcc hle g2 sq
              generalize icmp (q.fn * p.td) (p.tn * q.fd) = cm2 at *
              (repeat (first | ((with_reducible apply hs_nilS); kernel_rfl) | ((with_reducible apply rwp_draw (id := 18) [0,1,2,3,4,5,6,7,8]); kernel_rfl; kernel_rfl; exact rfl) | ((with_reducible apply rwp_seq)) | ((with_reducible apply rthen_normal)) | ((with_reducible apply rwp_region)) | ((with_reducible apply hs_nil)) | ((with_reducible apply rwp_ret)) | ((with_reducible apply rwp_skip)) | ((with_reducible apply rthen_ret)) | ((with_reducible apply rwp_block)) | ((with_reducible apply rblock_ret)) | ((with_reducible apply rwp_cond_1); exact rfl; (first | assumption | exact decide_eq_true (by omega) | (simp only [Bool.not_eq_true', decide_eq_false_iff_not, decide_eq_true_eq, Bool.not_eq_false']; (first | done | omega)) | exact rfl)) | ((with_reducible apply hs_c); exact rfl; (repeat (first | ((with_reducible apply al_q); exact rfl) | (refine al_call2 rfl rfl rfl rfl (by (first | exact D2)) rfl ?_))); (with_reducible apply al_nil)) | ((with_reducible apply hs_len 0); (iterate 4 exact rfl); kernel_rfl; exact rfl) | ((with_reducible apply hs_idx 0); (iterate 4 exact rfl); (first | omega); (first | assumption | omega); exact rfl; kernel_rfl; exact rfl) | ((with_reducible apply hs_fld 0); (iterate 3 exact rfl); (first | assumption | omega); kernel_rfl; exact rfl) | ((with_reducible apply hs_loadN 0); (iterate 3 exact rfl); (first | assumption | omega); assumption; exact rfl; kernel_rfl; exact rfl)))
              (first | (refine apost_ret rfl (resl_tmp rfl resl_nil) ?_))
              exact AV.Le.refl _
            · have hcm2 : ¬ icmp (q.fn * p.td) (p.tn * q.fd) > 0 := fun h => hcc (hc2.1 h)
              have hle' : ∀ q' ∈ ps.take (j + 1), leP q' p = true := fun q' h' => by
                rw [List.take_succ_eq_append_getElem hqj, (List.getElem?_eq_some_iff.1 g2).2] at h'
                rcases List.mem_append.1 h' with h' | h'
                · exact hle q' h'
                · rw [List.mem_singleton.1 h']; exact decide_eq_true (by omega)
              clear hsu hfalse hc2 sm2 hnext hsmall hcc hle g2 sq
              generalize icmp (q.fn * p.td) (p.tn * q.fd) = cm2 at *
              (repeat (first | ((with_reducible apply hs_nilS); kernel_rfl) | ((with_reducible apply rwp_draw (id := 18) [0,1,2,3,4,5,6,7,8]); kernel_rfl; kernel_rfl; exact rfl) | ((with_reducible apply rwp_seq)) | ((with_reducible apply rthen_normal)) | ((with_reducible apply rwp_region)) | ((with_reducible apply hs_nil)) | ((with_reducible apply rwp_skip)) | ((with_reducible apply rwp_block)) | ((with_reducible apply rblock_normal)) | ((with_reducible apply rwp_cond_1); exact rfl; (first | assumption | exact decide_eq_true (by omega) | (simp only [Bool.not_eq_true', decide_eq_false_iff_not, decide_eq_true_eq, Bool.not_eq_false']; (first | done | omega)) | exact rfl)) | ((with_reducible apply rwp_cond_0); exact rfl; (first | assumption | exact decide_eq_false (by omega) | (simp only [Bool.not_eq_true', decide_eq_false_iff_not, decide_eq_true_eq, Bool.not_eq_false']; (first | done | omega)) | exact rfl)) | ((with_reducible apply hs_c); exact rfl; (repeat (first | ((with_reducible apply al_q); exact rfl) | ((with_reducible apply al_add); (iterate 3 exact rfl); (first | exact i64_wrap (by omega) | assumption | rfl); exact rfl) | (refine al_call2 rfl rfl rfl rfl (by (first | exact D2)) rfl ?_))); (with_reducible apply al_nil)) | ((with_reducible apply hs_len 0); (iterate 4 exact rfl); kernel_rfl; exact rfl) | ((with_reducible apply hs_idx 0); (iterate 4 exact rfl); (first | omega); (first | assumption | omega); exact rfl; kernel_rfl; exact rfl) | ((with_reducible apply hs_fld 0); (iterate 3 exact rfl); (first | assumption | omega); kernel_rfl; exact rfl) | ((with_reducible apply hs_loadN 0); (iterate 3 exact rfl); (first | assumption | omega); assumption; exact rfl; kernel_rfl; exact rfl)))
              exact ⟨ps.length - (j + 1), row1 0 (ptRow v ps), _, [(5, mCh V D), (6, mPx a1 a2), (7, mPx b1 b2), (15, prC p)], by omega, ⟨j + 1, jj + 1, by omega, rfl, by omega, hle', rfl, rfl, rfl⟩, RLe.refl _, rfl, ⟨rfl, rfl, rfl, rfl, rfl, rfl, rfl, rfl, rfl, trivial⟩, ⟨rfl, rfl, rfl, rfl, trivial⟩, rfl⟩
          · have p2 : ¬ jj < (ps.length : Int) := by omega
            have e0 : ps.take j = ps := List.take_of_length_le (by omega)
            rw [e0] at hle
            have hct' := hsu.2 ⟨rfl, rfl, rfl, hle⟩
            clear hsu hfalse sm2 hsmall hle e0
            (repeat (first | ((with_reducible apply rwp_seq)) | ((with_reducible apply rthen_normal)) | ((with_reducible apply rwp_region)) | ((with_reducible apply hs_nil)) | ((with_reducible apply rblock_same)) | ((with_reducible apply rwp_exit)) | ((with_reducible apply rthen_exit)) | ((with_reducible apply rwp_cond_0); exact rfl; (first | assumption | exact decide_eq_false (by omega) | (simp only [Bool.not_eq_true', decide_eq_false_iff_not, decide_eq_true_eq, Bool.not_eq_false']; (first | done | omega)) | exact rfl)) | ((with_reducible apply hs_c); exact rfl; (repeat (first | ((with_reducible apply al_q); exact rfl) | ((with_reducible apply al_bslice); (iterate 10 exact rfl)))); (with_reducible apply al_nil)) | ((with_reducible apply hs_len 0); (iterate 4 exact rfl); kernel_rfl; exact rfl)))
            refine hs_app0 0 rfl rfl rfl rfl ?q1 ?q2 rfl rfl (fun v' hv' => ?_)
            case q1 => exact le_maxLen (by show ps.length + 1 ≤ 1000000; omega)
            case q2 => show (ps.length + 1) * 136 ≤ 140737488355328; omega
            (repeat (first | ((with_reducible apply rthen_normal)) | ((with_reducible apply rwp_region)) | ((with_reducible apply hs_nil)) | ((with_reducible apply rblock_normal)) | ((with_reducible apply hs_c); exact rfl; (repeat (first | ((with_reducible apply al_q); exact rfl) | ((with_reducible apply al_add); (iterate 3 exact rfl); (first | exact i64_wrap (by omega) | assumption | rfl); exact rfl))); (with_reducible apply al_nil))))
            refine ⟨V.length - (i + 1), row1 0 (ptRow v' (ps ++ [p])), _, [(5, mCh V D), (6, mPx a1 a2), (7, mPx b1 b2)], by omega, ⟨i + 1, v', ii + 1, by omega, rfl, by omega, hct', by rw [hnext], rfl, rfl⟩, ?_, rfl, ⟨rfl, rfl, rfl, rfl, rfl, rfl, rfl, trivial⟩, ⟨rfl, rfl, rfl, trivial⟩, rfl⟩
            rw [ptRow_one]; exact row1_le _ _ _
  · have q2 : ¬ ii < (V.length : Int) := by omega
    have e0 : V.take i = V := List.take_of_length_le (by omega)
    rw [e0] at hct ⊢
    rw [hct, Bool.true_and]
    generalize hps : V.map (prtV a1 a2 b1 b2 (2 ^ r) far) = ps at *
    have hpl : ps.length = V.length := by rw [← hps, List.length_map]
    have hsmall : ∀ q ∈ ps, q.small := fun q hq => by
      rw [← hps] at hq
      obtain ⟨u, hu, rfl⟩ := List.mem_map.1 hq
      unfold ctnB at hct
      simp only [Bool.and_eq_true] at hct
      exact hsmV u (List.all_eq_true.1 hct.1.1 u hu)
    clear hpin hbig hsucc hdef hin qa qb hsmV hct hps
    obtain ⟨p, g0⟩ : ∃ p, ps[0]? = some p := ⟨_, List.getElem?_eq_getElem (by omega)⟩
    obtain ⟨q, gl⟩ : ∃ q, ps[ps.length - 1]? = some q := ⟨_, List.getElem?_eq_getElem (by omega)⟩
    rw [endB_of g0 gl]
    have E0 := prsC_from' (j := 0) rfl g0
    have EL := prsC_to' (j := (ps.length : Int) - 1) (by omega) gl
    have sp := hsmall p (List.mem_of_getElem? g0)
    have sq := hsmall q (List.mem_of_getElem? gl)
    have D3 := p_r2Cmp (n := p.fn) (d := p.fd) (m := 0) (e := 1) (sp.1.up (by omega)) (sp.2.1.up (by omega)) (prt0_small.1.up (by omega)) (prt0_small.2.1.up (by omega))
    have D4 := p_r2Cmp (n := q.tn) (d := q.td) (m := 1) (e := 1) (sq.2.2.1.up (by omega)) (sq.2.2.2.up (by omega)) (prt0_small.2.1.up (by omega)) (prt0_small.2.1.up (by omega))
    have c3 := ic_eq (p.fn * 1) (0 * p.fd)
    have c4 := ic_eq (q.tn * 1) (1 * q.td)
    rw [Int.mul_one, Int.zero_mul] at c3
    rw [Int.mul_one, Int.one_mul] at c4
    have e4 : decide (q.tn = q.td) = decide (icmp (q.tn * 1) (1 * q.td) = 0) := by
      rw [Int.mul_one, Int.one_mul]; exact decide_eq_decide.2 c4.symm
    rw [e4]
    have w1 : 0 < ps.length := by omega
    have w4 : (0 : Int) < (ps.length : Int) := by omega
    have w5 : IntKind.i64.wrap (((ptRow v ps).n : Int) - 1) = (ps.length : Int) - 1 := (i64_wrap (by omega) : IntKind.i64.wrap ((ps.length : Int) - 1) = (ps.length : Int) - 1)
    have w2 : 0 ≤ (ps.length : Int) - 1 := by omega
    have w3 : (ps.length : Int) - 1 < ps.length := by omega
    clear c4 e4 hsmall sp sq g0 gl Z
    rw [Int.mul_one, Int.zero_mul] at D3
    by_cases h3 : p.fn = 0
    · have h3' : icmp p.fn 0 = 0 := c3.2 h3
      rw [decide_eq_true h3, Bool.true_and]
      clear c3
      generalize icmp p.fn 0 = k3 at *
      generalize icmp (q.tn * 1) (1 * q.td) = k4 at *
      (repeat (first | ((with_reducible apply hs_nilS); kernel_rfl) | ((with_reducible apply rwp_draw (id := 21) [0,1,2,3,4,5,6,7,8,9,10,11,12,13,14,15,16,17,18,19]); kernel_rfl; kernel_rfl; exact rfl) | ((with_reducible apply rwp_seq)) | ((with_reducible apply rthen_normal)) | ((with_reducible apply rwp_region)) | ((with_reducible apply hs_nil)) | ((with_reducible apply rwp_ret)) | ((with_reducible apply rblock_same)) | ((with_reducible apply rwp_exit)) | ((with_reducible apply rthen_exit)) | ((with_reducible apply rwp_cond_0); exact rfl; (first | assumption | exact decide_eq_false (by omega) | (simp only [Bool.not_eq_true', decide_eq_false_iff_not, decide_eq_true_eq, Bool.not_eq_false']; (first | done | omega)) | exact rfl)) | ((with_reducible apply hs_c); exact rfl; (repeat (first | ((with_reducible apply al_q); exact rfl) | ((with_reducible apply al_sub); (iterate 3 exact rfl); (first | exact i64_wrap (by omega) | assumption | rfl); exact rfl) | ((with_reducible apply al_len); (iterate 3 exact rfl)) | (refine al_call1 rfl rfl rfl (by (first | exact N0 | exact N1 | exact D3 | exact D4)) rfl ?_) | (refine al_call2 rfl rfl rfl rfl (by (first | exact N0 | exact N1 | exact D3 | exact D4)) rfl ?_) | ((with_reducible apply al_guard_b (c := true)); exact rfl; exact rfl; (first | assumption | exact decide_eq_true (by omega) | (simp only [Bool.not_eq_true', decide_eq_false_iff_not, decide_eq_true_eq, Bool.not_eq_false']; (first | done | omega)))))); (with_reducible apply al_nil)) | ((with_reducible apply hs_len 0); (iterate 4 exact rfl); kernel_rfl; exact rfl) | ((with_reducible apply hs_idx 0); (iterate 4 exact rfl); (first | omega); (first | assumption | omega); exact rfl; kernel_rfl; exact rfl) | ((with_reducible apply hs_fld 0); (iterate 3 exact rfl); (first | assumption | omega); kernel_rfl; exact rfl) | ((with_reducible apply hs_loadN 0); (iterate 3 exact rfl); (first | assumption | omega); assumption; exact rfl; kernel_rfl; exact rfl)))
      (first | (refine apost_ret rfl (resl_tmp rfl resl_nil) ?_))
      exact AV.Le.refl _
    · have h3' : ¬ icmp p.fn 0 = 0 := fun h => h3 (c3.1 h)
      rw [decide_eq_false h3, Bool.false_and]
      clear c3
      generalize icmp p.fn 0 = k3 at *
      generalize icmp (q.tn * 1) (1 * q.td) = k4 at *
      (repeat (first | ((with_reducible apply hs_nilS); kernel_rfl) | ((with_reducible apply rwp_draw (id := 21) [0,1,2,3,4,5,6,7,8,9,10,11,12,13,14,15,16,17,18,19]); kernel_rfl; kernel_rfl; exact rfl) | ((with_reducible apply rwp_seq)) | ((with_reducible apply rthen_normal)) | ((with_reducible apply rwp_region)) | ((with_reducible apply hs_nil)) | ((with_reducible apply rwp_ret)) | ((with_reducible apply rblock_same)) | ((with_reducible apply rwp_exit)) | ((with_reducible apply rthen_exit)) | ((with_reducible apply rwp_cond_0); exact rfl; (first | assumption | exact decide_eq_false (by omega) | (simp only [Bool.not_eq_true', decide_eq_false_iff_not, decide_eq_true_eq, Bool.not_eq_false']; (first | done | omega)) | exact rfl)) | ((with_reducible apply hs_c); exact rfl; (repeat (first | ((with_reducible apply al_q); exact rfl) | ((with_reducible apply al_len); (iterate 3 exact rfl)) | (refine al_call1 rfl rfl rfl (by (first | exact N0 | exact N1 | exact D3 | exact D4)) rfl ?_) | (refine al_call2 rfl rfl rfl rfl (by (first | exact N0 | exact N1 | exact D3 | exact D4)) rfl ?_) | ((with_reducible apply al_guard_b (c := false)); exact rfl; exact rfl; (first | assumption | exact decide_eq_false (by omega) | (simp only [Bool.not_eq_true', decide_eq_false_iff_not, decide_eq_true_eq, Bool.not_eq_false']; (first | done | omega)))))); (with_reducible apply al_nil)) | ((with_reducible apply hs_idx 0); (iterate 4 exact rfl); (first | omega); (first | assumption | omega); exact rfl; kernel_rfl; exact rfl) | ((with_reducible apply hs_fld 0); (iterate 3 exact rfl); (first | assumption | omega); kernel_rfl; exact rfl) | ((with_reducible apply hs_loadN 0); (iterate 3 exact rfl); (first | assumption | omega); assumption; exact rfl; kernel_rfl; exact rfl)))
      (first | (refine apost_ret rfl (resl_tmp rfl resl_nil) ?_))
      exact AV.Le.refl _
end Go.Proofs.Ytlglajaonmpljaa

namespace Go.Proofs.Ytlglajaonmpljaa
open Go.RowKit
set_option linter.unusedVariables false
set_option linter.unusedSimpArgs false
section
variable {P : Program} {B0 : Base} {A0 A : Nat → Prop} {R : Rws} {s s' : AS} {a a' : Act} {w w' : World} {ρ ρ' : Nat → Nat}
/-- a row is given up: what it was stays, and its slice tells it. -/
theorem RR.coolH (hR : RR B0 A0 R s a w A ρ) (i : Nat) (r : HRow) (hi : R i = some r) (hsz : 0 < r.sz) : ∃ A', RR B0 A0 (fun j => if j = i then none else R j) s a w A' ρ ∧ RpC (s.free A' ρ) ρ w (.p (SlP r.sz r.n r.ys)) r.v := by
  obtain ⟨hok0, hcl, hg⟩ := hR.rows i r hi
  obtain ⟨xs, ho, hl⟩ := hok0.row hsz
  have hA' : ∀ b, s.free A ρ b → b < w.heap.size → s.free (fun b => A b ∨ r.v.ownBlock = some b) ρ b ∧ w.heap[b]? = w.heap[b]? := fun b hb _ => ⟨⟨.inl hb.1, hb.2⟩, rfl⟩
  have hR1 : Rel (hbase s ρ w) (fun b => A b ∨ r.v.ownBlock = some b) s ρ a w := hR.rel.anew (fun b hb _ => ⟨.inl hb, rfl⟩) (fun k cs hk => ⟨rfl, fun hf => hf.2 k cs hk rfl⟩) (BelowB.refl _) (fun b hb => .inl (hR.rel.up b hb)) (hbase_anch _ _ _)
  have hR2 : RR B0 A0 (fun j => if j = i then none else R j) s a w (fun b => A b ∨ r.v.ownBlock = some b) ρ := by
    refine ⟨hR.up, ?_, hR1, hR.mine, hR.below, fun j q hj => ?_, fun j k q q' hj hk hjk => ?_, fun j q g hj => ?_, hR.anch⟩
    · rintro b (hb | hb)
      · exact hR.sub b hb
      · exact (hR.hot i r b hi (.inl hb)).2
    · have hji : j ≠ i := fun e => by rw [if_pos e] at hj; cases hj
      rw [if_neg hji] at hj
      obtain ⟨hk0, uc, ug⟩ := hR.rows j q hj
      refine ⟨hk0.kept uc (fun _ _ => rfl) (Nat.le_refl _) hA', uc, fun g hg' => ⟨?_, (ug g hg').2⟩⟩
      rintro (hb | hb)
      · exact (ug g hg').1 hb
      · exact hR.apart i j r q hi hj (Ne.symm hji) g (.inl hb) hg'
    · have hji : j ≠ i := fun e => by rw [if_pos e] at hj; cases hj
      have hki : k ≠ i := fun e => by rw [if_pos e] at hk; cases hk
      rw [if_neg hji] at hj
      rw [if_neg hki] at hk
      exact hR.apart j k q q' hj hk hjk
    · have hji : j ≠ i := fun e => by rw [if_pos e] at hj; cases hj
      rw [if_neg hji] at hj
      exact hR.hot j q g hj
  refine ⟨fun b => A b ∨ r.v.ownBlock = some b, hR2, ?_⟩
  · have hll := hl.1
    obtain ⟨hlx, hn | ⟨g, cap, cur, hgv, hbg, hheap, hnc, hcm, hcs, htake⟩⟩ := id ho
    · obtain ⟨e1, e2⟩ := hn
      have : r.ys = [] := List.eq_nil_of_length_eq_zero (by rw [hll, hlx, e2]; simp)
      rw [e1]
      exact ⟨⟨none, 0, by rw [e2], by omega, by rw [this, e2]; simp, fun h => absurd h (by omega)⟩, fun b ⟨c', a', q, hn, hb⟩ => by cases q⟩
    · have hcells := ho.cells (g := g) (by rw [hgv]; rfl)
      rw [hgv]
      have hCA : CellsAt w ⟨g, 0, none⟩ r.ys xs := ⟨(Array.getElem?_eq_some_iff.1 hheap).1, hl.closed_map hcl fun b _ _ => ⟨trivial, rfl⟩, hcells, hcl⟩
      refine ⟨⟨some ⟨g, 0, none⟩, cap, rfl, hnc, by rw [hll]; exact hlx, fun hn => ⟨⟨g, 0, none⟩, xs, rfl, hCA⟩⟩, ?_⟩
      rintro b ⟨c', a', q, hn, hf⟩
      cases q
      rcases hf with rfl | ⟨j, y, v, hy, hv, hfo⟩
      · exact ⟨.inr rfl, (hg g (.inl (by rw [hgv]; rfl))).2⟩
      · have hlt : j < xs.length := by rw [← hll]; exact (List.getElem?_eq_some_iff.1 hy).1
        have h2 := hcells j _ (List.getElem?_eq_getElem hlt)
        rw [hv] at h2
        cases h2
        have h3 := hl.2 j y _ hy (List.getElem?_eq_getElem hlt)
        cases y with
        | c u => cases hfo
        | own k o => cases hfo
        | p S => have := h3.2 b hfo; exact ⟨.inl this.1, this.2⟩
/-- a row is given up, and told by what an own block holds. -/
theorem rwp_coolb (i k off : Nat) {c : Code} {Q : Exit → Rws → AS → Prop} {cs : List AC} (r : HRow) (hi : R i = some r) (hk : s.mem k = some cs) (hc : cs[off]? = some (.c r.v)) (h : RWp P c Q (fun j => if j = i then none else R j) (s.setm k (cs.set off (.p (SlP r.sz r.n r.ys))))) (hsz : 0 < r.sz := by first | decide | exact Nat.zero_lt_succ _) : RWp P c Q R s := by
  rintro ok B0 A0 a w ⟨A, ρ, hR⟩
  obtain ⟨A', hR4, w2⟩ := hR.coolH i r hi hsz
  have hR5 := hR4.next (hR4.rel.retellm (ds := cs.set off (.p (SlP r.sz r.n r.ys))) hk fun vs hv => ⟨by rw [List.length_set]; exact hv.1, fun j x u hx hu => by
    rw [List.getElem?_set] at hx
    by_cases e : off = j
    · subst e
      rw [if_pos rfl] at hx
      split at hx
      · cases hx
        obtain ⟨rfl, _⟩ := hv.2 off _ u hc hu
        exact w2
      · cases hx
    · rw [if_neg e] at hx
      exact hv.2 j x u hx hu⟩)
  refine h (ok.setm fun x hx j hj => ?_) B0 A0 a w ⟨A', ρ, hR5⟩
  rcases List.mem_or_eq_of_mem_set hx with hx | rfl
  · exact ok.mm k cs x j hk hx hj
  · cases hj
/-- less is told of what an own block holds. -/
theorem rwp_tellm (k : Nat) {cs : List AC} (ds : List AC) {c : Code} {Q : Exit → Rws → AS → Prop} (hk : s.mem k = some cs) (hd : ds.all AC.closedB = true) (hle : ∀ U ρ W vs, RpL U ρ W cs vs → RpL U ρ W ds vs) (h : RWp P c Q R (s.setm k ds)) : RWp P c Q R s := by
  rintro ok B0 A0 a w ⟨A, ρ, hR⟩
  have hR5 := hR.next (hR.rel.retellm (ds := ds) hk fun vs hv => hle _ _ _ vs hv)
  exact h (ok.setm fun x hx j hj => absurd hj (AC.closed_of (List.all_eq_true.1 hd x hx) j)) B0 A0 a w ⟨A, ρ, hR5⟩
end
section
variable {P : Program} {s : AS} {ops : Array Oper} {K : AS → Prop} {rest : List Oper} {ty : Nat} {pos : String} {after : Array Edge} {guard : Option (Nat × Bool)} {d : Nat}
end
theorem rpl_le {xs ys : List AC} (hl : xs.length = ys.length) (h : ∀ (i : Nat) x y, xs[i]? = some x → ys[i]? = some y → x = y ∨ (x = .c (.slice none 0 0) ∧ ∃ z, y = .p (SlP z 0 []))) (U : Nat → Prop) (ρ : Nat → Nat) (W : World) (vs : List Value) (hv : RpL U ρ W xs vs) : RpL U ρ W ys vs := by
  refine ⟨by rw [← hl]; exact hv.1, fun i y v hy hu => ?_⟩
  have hi : i < xs.length := by rw [hl]; exact (List.getElem?_eq_some_iff.1 hy).1
  have hx := List.getElem?_eq_getElem hi
  have h1 := hv.2 i _ v hx hu
  rcases h i _ y hx hy with e | ⟨e, z, rfl⟩
  · rw [← e]; exact h1
  · rw [e] at h1
    exact nilS_le z U ρ W v h1
theorem agg_le {xs ys : List AC} (hl : xs.length = ys.length) (h : ∀ (i : Nat) x y, xs[i]? = some x → ys[i]? = some y → x = y ∨ (x = .c (.slice none 0 0) ∧ ∃ z, y = .p (SlP z 0 []))) : AV.Le (.w (.agg xs)) (.w (.agg ys)) := fun U ρ W v hv => by
  obtain ⟨vs, rfl, hl'⟩ := hv
  exact ⟨vs, rfl, rpl_le hl h U ρ W vs hl'⟩
end Go.Proofs.Ytlglajaonmpljaa

namespace Go.Proofs.Ytlglajaonmpljaa
open Go.RowKit
set_option linter.unusedVariables false
set_option linter.unusedSimpArgs false
/-- the block that holds the opposite: right, for a way that goes left; up, for one that goes down. -/
abbrev cB (b : Bool) : AC := .p (PtrP [.c (.bool (!b))])
end Go.Proofs.Ytlglajaonmpljaa

namespace Go.Proofs.Ytlglajaonmpljaa
open Go.RowKit
set_option linter.unusedVariables false
set_option linter.unusedSimpArgs false
section
variable {P : Program} {s : AS} {ops : Array Oper} {K : AS → Prop} {rest : List Oper} {ty : Nat} {pos : String} {after : Array Edge} {guard : Option (Nat × Bool)} {d : Nat}
def byT (P : Program) (t : TypeId) : Bool := match P.underlying t with
  | some (.slice e) => (match P.underlying e with | some (.int .u8) => true | _ => false)
  | _ => false
def strT (P : Program) (t : TypeId) : Bool := match P.underlying t with
  | some .string => true
  | _ => false
class ByT (P : Program) (t : TypeId) : Prop where
  h : byT P t = true
class StrT (P : Program) (t : TypeId) : Prop where
  h : strT P t = true
end
end Go.Proofs.Ytlglajaonmpljaa

namespace Go.Proofs.Ytlglajaonmpljaa
open Go.RowKit
set_option linter.unusedVariables false
set_option linter.unusedSimpArgs false
theorem itC_one (p : Int × Int) (l : List (Int × Int)) : itC l ++ [.c (.int .i64 p.1), .c (.int .i64 p.2)] = itC (l ++ [p]) := by rw [itC_append]; rfl
/-- what is handed to a function that tells what comes ahead; the function, and no more. -/
abbrev pxRow (v : Value) (l : List (Int × Int)) : HRow := ⟨38, 2, v, l.length, itC l⟩
instance iHotI_1 : RowTy Try.prog 32 38 2 16 := ⟨by kernel_rfl⟩
def MgP (M : List (Int × Int)) (lt : Int × Int → Int × Int → Bool) (lv : AV) (K : Nat) (m : Nat) (R : Rws) (ts : List (Nat × AV)) (ms : List (Nat × List AC)) : Prop :=
  ∃ (a b out : List (Int × Int)) (v : Value), m = a.length + b.length ∧ out ++ mrgL lt a b = M ∧ out.length + m = K ∧ R = row1 0 (pxRow v out) ∧ ts = [(0, vIt a), (1, vIt b), (2, lv), (7, vC v)] ∧ ms = []
end Go.Proofs.Ytlglajaonmpljaa

namespace Go.Proofs.Ytlglajaonmpljaa
open Go.RowKit
set_option linter.unusedVariables false
set_option linter.unusedSimpArgs false
theorem p_Close10 {a1 a2 b1 b2 k far : Int} {V : List Px} {D : List Int} (hk : -9223372036854775808 ≤ k ∧ k ≤ 9223372036854775807) (hin : ∀ v ∈ V, InI v) (hl : V.length ≤ 1000) : PCall Try.prog 9 [vCh V D, vP a1 a2, vP b1 b2, vI k, vI far] (vB (cloB a1 a2 b1 b2 k far V)) := by
  obtain ⟨r, hr⟩ := isR_ex k
  have R1 := p_Rung hr
  have R2 := p_r5Right (x := a1) (y := a2) rfl
  have R3 := p_r5Right (x := b1) (y := b2) rfl
  have hno : ∀ g1 g2, rB5 a1 a2 = g1 → rB5 b1 b2 = g2 → (¬ k = (r : Int) ∨ (k = (r : Int) ∧ g1 = false) ∨ (k = (r : Int) ∧ g1 = true ∧ g2 = false) ∨ (k = (r : Int) ∧ g1 = true ∧ g2 = true ∧ far < 0) ∨ (k = (r : Int) ∧ g1 = true ∧ g2 = true ∧ ¬ far < 0 ∧ far > 268435456) ∨ (k = (r : Int) ∧ g1 = true ∧ g2 = true ∧ ¬ far < 0 ∧ ¬ far > 268435456 ∧ (V.length : Int) = 0)) → PCall Try.prog 9 [vCh V D, vP a1 a2, vP b1 b2, vI k, vI far] (vB (cloB a1 a2 b1 b2 k far V)) := fun g1 g2 e1 e2 cs => by
    have : cloB a1 a2 b1 b2 k far V = false := by
      unfold cloB preB
      rw [e1, e2]
      rcases hr with ⟨h0, h1⟩
      rcases cs with q | ⟨q, rfl⟩ | ⟨q, rfl, rfl⟩ | ⟨q, rfl, rfl, q2⟩ | ⟨q, rfl, rfl, q2, q3⟩ | ⟨q, rfl, rfl, q2, q3, q4⟩
      · rw [decide_eq_false (show ¬ (0 ≤ k ∧ k ≤ 28) by omega)]; simp
      · simp
      · simp
      · rw [decide_eq_false (show ¬ 0 ≤ far by omega)]; simp
      · rw [decide_eq_false (show ¬ far ≤ 268435456 by omega)]; simp
      · rw [decide_eq_true (show V.length = 0 by omega)]; simp
    rw [this]
    exact r10Close_no R1 (by rw [← e1]; exact R2) (by rw [← e2]; exact R3) cs
  by_cases q1 : k = (r : Int)
  · cases g1 : rB5 a1 a2 with
    | false => exact hno _ _ g1 rfl (.inr (.inl ⟨q1, rfl⟩))
    | true =>
      cases g2 : rB5 b1 b2 with
      | false => exact hno _ _ g1 g2 (.inr (.inr (.inl ⟨q1, rfl, rfl⟩)))
      | true =>
        by_cases q2 : far < 0
        · exact hno _ _ g1 g2 (.inr (.inr (.inr (.inl ⟨q1, rfl, rfl, q2⟩))))
        · by_cases q3 : far > 268435456
          · exact hno _ _ g1 g2 (.inr (.inr (.inr (.inr (.inl ⟨q1, rfl, rfl, q2, q3⟩)))))
          · by_cases q4 : (V.length : Int) = 0
            · exact hno _ _ g1 g2 (.inr (.inr (.inr (.inr (.inr ⟨q1, rfl, rfl, q2, q3, q4⟩)))))
            · subst q1
              have := r10Close_yes (D := D) (V := V) (far := far) hr.1 g1 g2 (by omega) (by omega) (by omega) hin hl
              have e : preB a1 a2 b1 b2 (r : Int) far V.length = true := by
                unfold preB
                have h28 := hr.1
                rw [g1, g2, decide_eq_true (show 0 ≤ (r : Int) ∧ (r : Int) ≤ 28 by omega), decide_eq_true (show 0 ≤ far by omega), decide_eq_true (show far ≤ 268435456 by omega), decide_eq_false (show ¬ V.length = 0 by omega)]; rfl
              unfold cloB
              rw [e, Bool.true_and]
              exact this
  · exact hno _ _ rfl rfl (.inl q1)
set_option maxRecDepth 100000 in
set_option maxHeartbeats 4000000 in
theorem p_Many10 {V : List Px} {D : List Int} (hs : (V.length : Int) + D.length ≤ 9223372036854775807) : PCall Try.prog 5 [vCh V D] (vI (V.length + D.length)) := by
  refine pcall_body (f := 5) Try.func5 rfl rfl rfl rfl ?_
  (repeat (first | ((with_reducible apply al_q); exact rfl) | ((with_reducible apply al_add); (iterate 3 exact rfl); (first | exact i64_wrap (by omega) | assumption | rfl); exact rfl) | ((with_reducible apply al_len); (iterate 3 exact rfl)) | ((with_reducible apply awp_seq)) | ((with_reducible apply athen_normal)) | ((with_reducible apply awp_region)) | ((with_reducible apply al_nil)) | ((with_reducible apply awp_ret))))
  (first | (refine apost_ret rfl (resl_tmp rfl resl_nil) ?_))
  exact AV.Le.refl _
theorem pxRow_one10 (v : Value) (l : List Px) (p : Px) : pxRow v (l ++ [p]) = ⟨38, 2, v, l.length + 1, itC l ++ [.c (.int .i64 p.1), .c (.int .i64 p.2)]⟩ := by
  unfold pxRow; rw [← itC_one, List.length_append]; rfl
def N10I (V : List Px) (D : List Int) (n : Nat) (R : Rws) (ts : List (Nat × AV)) (ms : List (Nat × List AC)) : Prop :=
  ∃ (k : Nat) (v : Value) (ki : Int), k ≤ V.length ∧ n = V.length - k ∧ ki = k ∧ R = row1 0 (pxRow v (V.take k)) ∧ ms = [(2, [.c (.slice none 0 0), .c (.slice none 0 0)]), (3, [.c v, .p (SlP 1 D.length (inC D))])] ∧ ts = [(2, vOw 2), (3, vOw 3), (12, vIt V), (13, vI V.length), (14, vI ki)]
set_option maxRecDepth 100000 in
set_option maxHeartbeats 8000000 in
theorem p_New10 {V : List Px} {D : List Int} (hl : V.length ≤ 50000) (hd : D.length ≤ 50000) : PCall Try.prog 7 [vCh V D] (vCh V D) := by
  have e1 : 0 + D.length = D.length := Nat.zero_add _
  have e2 : [] ++ inC D = inC D := rfl
  refine pcall_body (f := 7) Try.func7 rfl rfl rfl rfl ?_
  refine awp_rows ?_
  refine rwp_nil 0 38 2 rfl ?_
  (repeat (first | ((with_reducible apply rwp_seq)) | ((with_reducible apply rthen_normal)) | ((with_reducible apply rwp_region)) | ((with_reducible apply hs_nil)) | ((with_reducible apply rwp_block)) | ((with_reducible apply hs_c); exact rfl; (repeat (first | ((with_reducible apply al_q); exact rfl) | ((with_reducible apply al_len); (iterate 3 exact rfl)) | ((with_reducible apply al_new0F); exact rfl; exact rfl) | ((with_reducible apply al_appF); (iterate 3 exact rfl); (first | exact le_maxLen (by omega) | assumption); (first | assumption | omega); (first | assumption | rfl); (first | assumption | rfl); exact rfl))); (with_reducible apply al_nil))))
  refine rwp_loopL 26 (N10I V D) V.length (row1 0 (pxRow (.slice none 0 0) [])) _ [(2, [.c (.slice none 0 0), .c (.slice none 0 0)]), (3, [.c (.slice none 0 0), .p (SlP 1 D.length (inC D))])] ⟨0, .slice none 0 0, 0, Nat.zero_le _, rfl, rfl, rfl, rfl, rfl⟩ (row1_le _ _ _) rfl ⟨rfl, rfl, rfl, rfl, rfl, trivial⟩ ⟨rfl, rfl, trivial⟩ rfl ?_
  rintro n R ts ms ⟨k, v, ki, hk, rfl, hki, rfl, rfl, rfl⟩ hok
  clear hok
  have htl : (V.take k).length ≤ k := by rw [List.length_take]; omega
  by_cases hq : k < V.length
  · have q2 : ki < (V.length : Int) := by omega
    have q3 : 0 ≤ ki := by omega
    obtain ⟨x, y, g1⟩ : ∃ x y, V[k]? = some (x, y) := ⟨_, _, List.getElem?_eq_getElem hq⟩
    have E1 := itC_xy hki g1
    have ht : V.take (k + 1) = V.take k ++ [(x, y)] := by
      rw [List.take_succ_eq_append_getElem hq, (List.getElem?_eq_some_iff.1 g1).2]
    (repeat (first | ((with_reducible apply rwp_seq)) | ((with_reducible apply rthen_normal)) | ((with_reducible apply rwp_region)) | ((with_reducible apply hs_nil)) | ((with_reducible apply rwp_skip)) | ((with_reducible apply rwp_block)) | ((with_reducible apply rwp_cond_1); exact rfl; (first | assumption | exact decide_eq_true (by omega) | (simp only [Bool.not_eq_true', decide_eq_false_iff_not, decide_eq_true_eq, Bool.not_eq_false']; (first | done | omega)) | exact rfl)) | ((with_reducible apply hs_c); exact rfl; (repeat (first | ((with_reducible apply al_q); exact rfl) | ((with_reducible apply al_loadPN); (iterate 5 exact rfl)) | ((with_reducible apply al_idxS); (iterate 3 exact rfl); (first | decide | omega); (first | decide | omega); (first | assumption | rfl); exact rfl) | ((with_reducible apply al_bslice); (iterate 10 exact rfl)))); (with_reducible apply al_nil))))
    refine hs_app0 0 rfl rfl rfl rfl ?q1 ?q2 rfl rfl (fun v' hv' => ?_)
    case q1 => exact le_maxLen (by show (V.take k).length + 1 ≤ 1000000; omega)
    case q2 => show ((V.take k).length + 1) * 16 ≤ 140737488355328; omega
    (repeat (first | ((with_reducible apply rthen_normal)) | ((with_reducible apply rwp_region)) | ((with_reducible apply hs_nil)) | ((with_reducible apply rblock_normal)) | ((with_reducible apply hs_c); exact rfl; (repeat (first | ((with_reducible apply al_q); exact rfl) | ((with_reducible apply al_add); (iterate 3 exact rfl); (first | exact i64_wrap (by omega) | assumption | rfl); exact rfl))); (with_reducible apply al_nil))))
    refine ⟨V.length - (k + 1), row1 0 (pxRow v' (V.take (k + 1))), _, [(2, [.c (.slice none 0 0), .c (.slice none 0 0)]), (3, [.c v', .p (SlP 1 D.length (inC D))])], by omega, ⟨k + 1, v', ki + 1, by omega, rfl, by omega, rfl, rfl, rfl⟩, ?_, rfl, ⟨rfl, rfl, rfl, rfl, rfl, trivial⟩, ⟨rfl, rfl, trivial⟩, rfl⟩
    rw [ht, pxRow_one10]; exact row1_le _ _ _
  · have q2 : ¬ ki < (V.length : Int) := by omega
    have e0 : V.take k = V := List.take_of_length_le (by omega)
    rw [e0]
    refine rwp_coolb 0 3 0 (pxRow v V) rfl rfl rfl ?_
    (repeat (first | ((with_reducible apply rwp_seq)) | ((with_reducible apply rthen_normal)) | ((with_reducible apply rwp_region)) | ((with_reducible apply hs_nil)) | ((with_reducible apply rwp_ret)) | ((with_reducible apply rblock_same)) | ((with_reducible apply rwp_exit)) | ((with_reducible apply rthen_exit)) | ((with_reducible apply rwp_cond_0); exact rfl; (first | assumption | exact decide_eq_false (by omega) | (simp only [Bool.not_eq_true', decide_eq_false_iff_not, decide_eq_true_eq, Bool.not_eq_false']; (first | done | omega)) | exact rfl)) | ((with_reducible apply hs_c); exact rfl; (repeat (first | ((with_reducible apply al_q); exact rfl))); (with_reducible apply al_nil))))
    (first | (refine apost_ret rfl (resl_agg rfl rfl rfl resl_nil) ?_) | (refine apost_ret rfl (resl_one rfl rfl rfl resl_nil) ?_))
    exact AV.Le.refl _
/-- what chain's calls are to tell. -/
def CClose10 : Prop := ∀ (V : List Px) (D : List Int) (a1 a2 b1 b2 k far : Int), V.length ≤ 1000 → (∀ v ∈ V, InI v) → InI (k, far) → PCall Try.prog 8 [vCh V D, vP a1 a2, vP b1 b2, vI k, vI far] (vB (cloB a1 a2 b1 b2 k far V))
theorem cloB_far {a1 a2 b1 b2 k far : Int} {V : List Px} (h : cloB a1 a2 b1 b2 k far V = true) (hf : ¬ far = 268435456) : cloB a1 a2 b1 b2 k (far + 1) V = true := by
  rw [cloB_iff] at h ⊢
  obtain ⟨h1, h2, h3⟩ := h
  refine ⟨?_, h2, cloP_far (by omega) h3⟩
  unfold preB at h1 ⊢
  simp only [Bool.and_eq_true, decide_eq_true_eq, Bool.not_eq_true', decide_eq_false_iff_not] at h1 ⊢
  obtain ⟨⟨⟨⟨⟨g1, g2⟩, g3⟩, g4⟩, g5⟩, g6⟩ := h1
  exact ⟨⟨⟨⟨⟨g1, g2⟩, g3⟩, by omega⟩, by omega⟩, g6⟩
theorem cloB_turn {a1 a2 b1 b2 k far : Int} {V : List Px} (h : cloB a1 a2 b1 b2 k far V = true) : cloB b1 b2 a1 a2 k far V.reverse = true := by
  rw [cloB_iff] at h ⊢
  obtain ⟨h1, h2, h3⟩ := h
  refine ⟨?_, fun v hv => h2 v (List.mem_reverse.1 hv), cloP_turn h3⟩
  unfold preB at h1 ⊢
  rw [List.length_reverse]
  simp only [Bool.and_eq_true, decide_eq_true_eq, Bool.not_eq_true', decide_eq_false_iff_not] at h1 ⊢
  obtain ⟨⟨⟨⟨⟨g1, g2⟩, g3⟩, g4⟩, g5⟩, g6⟩ := h1
  exact ⟨⟨⟨⟨⟨g1, g3⟩, g2⟩, g4⟩, g5⟩, g6⟩
end Go.Proofs.Ytlglajaonmpljaa

namespace Go.Proofs.Ytlglajaonmpljaa
open Go.RowKit
set_option linter.unusedVariables false
set_option linter.unusedSimpArgs false
abbrev mSeg (a1 a2 b1 b2 : Int) : List AC := [.c (.int .i64 a1), .c (.int .i64 a2), .c (.int .i64 b1), .c (.int .i64 b2)]
abbrev vSeg10 (a1 a2 b1 b2 : Int) : AV := .w (.agg (mSeg a1 a2 b1 b2))
def B10I (V : List Px) (D : List Int) (a1 a2 b1 b2 k far : Int) (n : Nat) (R : Rws) (ts : List (Nat × AV)) (ms : List (Nat × List AC)) : Prop :=
  ∃ (i : Nat) (v : Value) (ii : Int), i ≤ V.length ∧ n = V.length - i ∧ ii = i ∧ R = row1 0 (pxRow v (V.reverse.take i)) ∧ ms = [(4, mSeg a1 a2 b1 b2), (7, mCh V D), (11, [.c v, .c (.slice none 0 0)])] ∧
    ts = [(4, vOw 4), (7, vOw 7), (8, vI k), (9, vI far), (11, vOw 11), (46, vI V.length), (47, vI ii)]
set_option maxRecDepth 100000 in
set_option maxHeartbeats 8000000 in
theorem law_Close10 (cc : CClose10) {V : List Px} {D : List Int} {a1 a2 b1 b2 k far : Int} (hin : ∀ v ∈ V, InI v) (hk : InI (k, far)) (hs : (V.length : Int) + D.length ≤ 9223372036854775807) (hal : PCall Try.prog 6 [] (vB true)) :
    PCall Try.prog 3 [vCh V D, vSeg10 a1 a2 b1 b2, .w (.agg [.c (.int .i64 k), .c (.int .i64 far)])] (vB true) := by
  have M1 := p_Many10 hs
  by_cases c1 : (V.length : Int) + D.length > 60
  · clear hin hk cc
    refine pcall_body (f := 3) Try.func3 rfl rfl rfl rfl ?_
    (repeat (first | ((with_reducible apply al_q); exact rfl) | (refine al_call0 rfl rfl (by (first | exact M1 | exact hal)) rfl ?_) | (refine al_call1 rfl rfl rfl (by (first | exact M1 | exact hal)) rfl ?_) | ((with_reducible apply awp_seq)) | ((with_reducible apply athen_normal)) | ((with_reducible apply awp_region)) | ((with_reducible apply al_nil)) | ((with_reducible apply awp_ret)) | ((with_reducible apply athen_ret)) | ((with_reducible apply awp_cond_1); exact rfl; (first | assumption | exact decide_eq_true (by omega) | (simp only [Bool.not_eq_true', decide_eq_false_iff_not, decide_eq_true_eq, Bool.not_eq_false']; (first | done | omega))))))
    (first | (refine apost_ret rfl (resl_tmp rfl resl_nil) ?_))
    exact AV.Le.refl _
  · have C1 := p_New10 (V := V) (D := D) (by omega) (by omega)
    have C2 := cc V D a1 a2 b1 b2 k far (by omega) hin hk
    have C3 := p_Close10 (D := D) (V := V) (a1 := a1) (a2 := a2) (b1 := b1) (b2 := b2) (far := far) hk.1 hin (by omega)
    cases hc : cloB a1 a2 b1 b2 k far V with
    | false =>
      rw [hc] at C2 C3
      clear hin hk cc
      refine pcall_body (f := 3) Try.func3 rfl rfl rfl rfl ?_
      (repeat (first | ((with_reducible apply al_q); exact rfl) | (refine al_call0 rfl rfl (by (first | exact M1 | exact hal | exact C1 | exact C2 | exact C3)) rfl ?_) | (refine al_call1 rfl rfl rfl (by (first | exact M1 | exact hal | exact C1 | exact C2 | exact C3)) rfl ?_) | (refine al_call5 rfl rfl rfl rfl rfl rfl rfl (by (first | exact M1 | exact hal | exact C1 | exact C2 | exact C3)) rfl ?_) | ((with_reducible apply al_bin); (iterate 5 exact rfl); (intro W; go_simp; try rfl); (intro W; go_simp; try rfl); exact rfl; exact rfl) | ((with_reducible apply al_nilS); kernel_rfl) | ((with_reducible apply awp_region_draw); kernel_rfl; kernel_rfl; exact rfl) | ((with_reducible apply awp_seq)) | ((with_reducible apply athen_normal)) | ((with_reducible apply awp_region)) | ((with_reducible apply al_nil)) | ((with_reducible apply awp_ret)) | ((with_reducible apply awp_skip)) | ((with_reducible apply athen_ret)) | ((with_reducible apply awp_cond_t); exact rfl) | ((with_reducible apply awp_cond_f); exact rfl) | ((with_reducible apply awp_cond_0); exact rfl; (first | assumption | exact decide_eq_false (by omega) | (simp only [Bool.not_eq_true', decide_eq_false_iff_not, decide_eq_true_eq, Bool.not_eq_false']; (first | done | omega))))))
      (first | (refine apost_ret rfl (resl_tmp rfl resl_nil) ?_))
      exact AV.Le.refl _
    | true =>
      rw [hc] at C2 C3
      have C5 := cc V.reverse [] b1 b2 a1 a2 k far (by rw [List.length_reverse]; omega) (fun v hv => hin v (List.mem_reverse.1 hv)) hk
      rw [cloB_turn hc] at C5
      have C4 : ¬ far = 268435456 → PCall Try.prog 8 [vCh V D, vP a1 a2, vP b1 b2, vI k, vI (far + 1)] (vB true) := fun h => by
        have hb := cloB_far hc h
        have := cc V D a1 a2 b1 b2 k (far + 1) (by omega) hin ⟨hk.1, by
          rw [cloB_iff] at hb
          have h1 := hb.1
          unfold preB at h1
          simp only [Bool.and_eq_true, decide_eq_true_eq] at h1
          have := h1.1.1.2
          have := h1.1.2
          simp only
          omega⟩
        rw [hb] at this
        exact this
      have hV : V.length ≤ 60 := by omega
      have hfar : -9223372036854775808 ≤ far ∧ far ≤ 268435456 := by
        rw [cloB_iff] at hc
        have h1 := hc.1
        unfold preB at h1
        simp only [Bool.and_eq_true, decide_eq_true_eq] at h1
        have := h1.1.1.2
        have := h1.1.2
        omega
      clear hin hk cc hc
      refine pcall_body (f := 3) Try.func3 rfl rfl rfl rfl ?_
      refine awp_rows ?_
      refine rwp_nil 0 38 2 rfl ?_
      (repeat (first | ((with_reducible apply hs_nilS); kernel_rfl) | ((with_reducible apply rwp_draw (id := 3) [6,0,1,2,3,4,5,7,8,9]); kernel_rfl; kernel_rfl; exact rfl) | ((with_reducible apply rwp_seq)) | ((with_reducible apply rthen_normal)) | ((with_reducible apply rwp_region)) | ((with_reducible apply hs_nil)) | ((with_reducible apply rwp_skip)) | ((with_reducible apply rwp_block)) | ((with_reducible apply rwp_cond_0); exact rfl; (first | assumption | exact decide_eq_false (by omega) | (simp only [Bool.not_eq_true', decide_eq_false_iff_not, decide_eq_true_eq, Bool.not_eq_false']; (first | done | omega)) | exact rfl)) | ((with_reducible apply hs_c); exact rfl; (repeat (first | ((with_reducible apply al_q); exact rfl) | ((with_reducible apply al_len); (iterate 3 exact rfl)) | (refine al_call1 rfl rfl rfl (by (first | exact M1 | exact hal | exact C1 | exact C2 | exact C3)) rfl ?_) | (refine al_call5 rfl rfl rfl rfl rfl rfl rfl (by (first | exact M1 | exact hal | exact C1 | exact C2 | exact C3)) rfl ?_) | ((with_reducible apply al_bin); (iterate 5 exact rfl); (intro W; go_simp; try rfl); (intro W; go_simp; try rfl); exact rfl; exact rfl))); (with_reducible apply al_nil))))
      refine rwp_loopL 92 (B10I V D a1 a2 b1 b2 k far) V.length (row1 0 (pxRow (.slice none 0 0) [])) _ [(4, mSeg a1 a2 b1 b2), (7, mCh V D), (11, [.c (.slice none 0 0), .c (.slice none 0 0)])] ⟨0, .slice none 0 0, 0, Nat.zero_le _, rfl, rfl, rfl, rfl, rfl⟩ (row1_le _ _ _) rfl ⟨rfl, rfl, rfl, rfl, rfl, rfl, rfl, trivial⟩ ⟨rfl, rfl, rfl, trivial⟩ rfl ?_
      clear C1 C2 C3 M1 c1
      rintro n R ts ms ⟨i, v, ii, hi, rfl, hii, rfl, rfl, rfl⟩ hok
      clear hok
      have htl : (V.reverse.take i).length ≤ i := by rw [List.length_take]; omega
      by_cases hq : i < V.length
      · have q2 : ii < (V.length : Int) := by omega
        have q3 : 0 ≤ (V.length : Int) - 1 - ii := by omega
        have q4 : (V.length : Int) - 1 - ii < (V.length : Int) := by omega
        have hqr : i < V.reverse.length := by rw [List.length_reverse]; exact hq
        obtain ⟨x, y, g1⟩ : ∃ x y, V[V.length - 1 - i]? = some (x, y) := ⟨_, _, List.getElem?_eq_getElem (by omega)⟩
        have E1 := itC_xy (j := (V.length : Int) - 1 - ii) (i := V.length - 1 - i) (by omega) g1
        have g2 : V.reverse[i]? = some (x, y) := by rw [List.getElem?_reverse hq]; exact g1
        have ht : V.reverse.take (i + 1) = V.reverse.take i ++ [(x, y)] := by
          rw [List.take_succ_eq_append_getElem hqr, (List.getElem?_eq_some_iff.1 g2).2]
        clear C4 C5 hal g1 g2
        (repeat (first | ((with_reducible apply rwp_draw (id := 13) [0,1,2,3,4,5,6,7,8,9,10,11,12,13,14,15]); kernel_rfl; kernel_rfl; exact rfl) | ((with_reducible apply rwp_seq)) | ((with_reducible apply rthen_normal)) | ((with_reducible apply rwp_region)) | ((with_reducible apply hs_nil)) | ((with_reducible apply rwp_skip)) | ((with_reducible apply rwp_block)) | ((with_reducible apply rwp_cond_1); exact rfl; (first | assumption | exact decide_eq_true (by omega) | (simp only [Bool.not_eq_true', decide_eq_false_iff_not, decide_eq_true_eq, Bool.not_eq_false']; (first | done | omega)) | exact rfl)) | ((with_reducible apply hs_c); exact rfl; (repeat (first | ((with_reducible apply al_q); exact rfl) | ((with_reducible apply al_loadPN); (iterate 5 exact rfl)) | ((with_reducible apply al_idxS); (iterate 3 exact rfl); (first | decide | omega); (first | decide | omega); (first | assumption | rfl); exact rfl) | ((with_reducible apply al_sub); (iterate 3 exact rfl); (first | exact i64_wrap (by omega) | assumption | rfl); exact rfl) | ((with_reducible apply al_len); (iterate 3 exact rfl)) | ((with_reducible apply al_bslice); (iterate 10 exact rfl)))); (with_reducible apply al_nil))))
        refine hs_app0 0 rfl rfl rfl rfl ?q1 ?q2 rfl rfl (fun v' hv' => ?_)
        case q1 => exact le_maxLen (by show (V.reverse.take i).length + 1 ≤ 1000000; omega)
        case q2 => show ((V.reverse.take i).length + 1) * 16 ≤ 140737488355328; omega
        (repeat (first | ((with_reducible apply hs_nilS); kernel_rfl) | ((with_reducible apply rthen_normal)) | ((with_reducible apply rwp_region)) | ((with_reducible apply hs_nil)) | ((with_reducible apply rblock_normal)) | ((with_reducible apply hs_c); exact rfl; (repeat (first | ((with_reducible apply al_q); exact rfl) | ((with_reducible apply al_add); (iterate 3 exact rfl); (first | exact i64_wrap (by omega) | assumption | rfl); exact rfl))); (with_reducible apply al_nil))))
        refine ⟨V.length - (i + 1), row1 0 (pxRow v' (V.reverse.take (i + 1))), _, [(4, mSeg a1 a2 b1 b2), (7, mCh V D), (11, [.c v', .c (.slice none 0 0)])], by omega, ⟨i + 1, v', ii + 1, by omega, rfl, by omega, rfl, rfl, rfl⟩, ?_, rfl, ⟨rfl, rfl, rfl, rfl, rfl, rfl, rfl, trivial⟩, ⟨rfl, rfl, rfl, trivial⟩, rfl⟩
        rw [ht, pxRow_one10]; exact row1_le _ _ _
      · have q2 : ¬ ii < (V.length : Int) := by omega
        have e0 : V.reverse.take i = V.reverse := List.take_of_length_le (by rw [List.length_reverse]; omega)
        rw [e0]
        refine rwp_coolb 0 11 0 (pxRow v V.reverse) rfl rfl rfl ?_
        refine rwp_tellm 11 (mCh V.reverse []) rfl rfl (rpl_le rfl fun j x y hx hy => ?_) ?_
        · match j with
          | 0 => cases hx; cases hy; exact .inl rfl
          | 1 => cases hx; cases hy; exact .inr ⟨rfl, 1, rfl⟩
          | j + 2 => simp at hx
        by_cases hf : far = 268435456
        · clear C4
          (repeat (first | ((with_reducible apply rwp_seq)) | ((with_reducible apply rthen_normal)) | ((with_reducible apply rwp_region)) | ((with_reducible apply hs_nil)) | ((with_reducible apply rwp_ret)) | ((with_reducible apply rblock_same)) | ((with_reducible apply rwp_exit)) | ((with_reducible apply rthen_exit)) | ((with_reducible apply rwp_cond_0); exact rfl; (first | assumption | exact decide_eq_false (by omega) | (simp only [Bool.not_eq_true', decide_eq_false_iff_not, decide_eq_true_eq, Bool.not_eq_false']; (first | done | omega)) | exact rfl)) | ((with_reducible apply hs_c); exact rfl; (repeat (first | ((with_reducible apply al_q); exact rfl) | (refine al_call0 rfl rfl (by (first | exact hal | exact C5)) rfl ?_) | (refine al_call5 rfl rfl rfl rfl rfl rfl rfl (by (first | exact hal | exact C5)) rfl ?_) | ((with_reducible apply al_guard_b (c := true)); exact rfl; exact rfl; (first | assumption | exact decide_eq_true (by omega) | (simp only [Bool.not_eq_true', decide_eq_false_iff_not, decide_eq_true_eq, Bool.not_eq_false']; (first | done | omega)))))); (with_reducible apply al_nil))))
          (first | (refine apost_ret rfl (resl_tmp rfl resl_nil) ?_))
          exact AV.Le.refl _
        · have C4 := C4 hf
          (repeat (first | ((with_reducible apply rwp_seq)) | ((with_reducible apply rthen_normal)) | ((with_reducible apply rwp_region)) | ((with_reducible apply hs_nil)) | ((with_reducible apply rwp_ret)) | ((with_reducible apply rblock_same)) | ((with_reducible apply rwp_exit)) | ((with_reducible apply rthen_exit)) | ((with_reducible apply rwp_cond_0); exact rfl; (first | assumption | exact decide_eq_false (by omega) | (simp only [Bool.not_eq_true', decide_eq_false_iff_not, decide_eq_true_eq, Bool.not_eq_false']; (first | done | omega)) | exact rfl)) | ((with_reducible apply hs_c); exact rfl; (repeat (first | ((with_reducible apply al_q); exact rfl) | ((with_reducible apply al_add); (iterate 3 exact rfl); (first | exact i64_wrap (by omega) | assumption | rfl); exact rfl) | (refine al_call0 rfl rfl (by (first | exact hal | exact C4 | exact C5)) rfl ?_) | (refine al_call5 rfl rfl rfl rfl rfl rfl rfl (by (first | exact hal | exact C4 | exact C5)) rfl ?_) | ((with_reducible apply al_guard_b (c := false)); exact rfl; exact rfl; (first | assumption | exact decide_eq_false (by omega) | (simp only [Bool.not_eq_true', decide_eq_false_iff_not, decide_eq_true_eq, Bool.not_eq_false']; (first | done | omega)))))); (with_reducible apply al_nil))))
          (first | (refine apost_ret rfl (resl_tmp rfl resl_nil) ?_))
          exact AV.Le.refl _
end Go.Proofs.Ytlglajaonmpljaa

namespace Go.Proofs.Ytlglajaonmpljaa
set_option linter.unusedVariables false
set_option linter.unusedSimpArgs false
/-- the chain of two pixels. -/
def newV (p q : Px) : List Px := if p = q then [p] else [p, q]
def newD (p q : Px) : List Int := if p = q then [] else [1]
/-- a right chain, so deep, so far from its segment, of so many vertices. -/
structure Rnd (a1 a2 b1 b2 : Int) (r m N : Nat) (V : List Px) (D : List Int) : Prop where
  rt : rtV r V D
  dp : ∀ d ∈ D, d ≤ m
  clo : cloP (nrP a1 a2 b1 b2 (2 ^ r) (rc m * rc (2 ^ r))) V
  len : V.length ≤ N
end Go.Proofs.Ytlglajaonmpljaa

namespace Go.Proofs.Ytlglajaonmpljaa
open Go.RowKit
set_option linter.unusedVariables false
set_option linter.unusedSimpArgs false
open Classical in
noncomputable def rtB (r : Nat) (V : List Px) (D : List Int) : Bool := decide (rtV r V D)
theorem rtB_of {r : Nat} {V : List Px} {D : List Int} (h : rtV r V D) : rtB r V D = true := by unfold rtB; exact @decide_eq_true _ (Classical.propDecidable _) h
theorem rtB_no {r : Nat} {V : List Px} {D : List Int} (h : ¬ rtV r V D) : rtB r V D = false := by unfold rtB; exact @decide_eq_false _ (Classical.propDecidable _) h
def dptD (D : List Int) : Int := D.foldl max 0
def CNew10 : Prop := ∀ x y z w : Int, PCall Try.prog 11 [vP x y, vP z w] (vCh (newV (x, y) (z, w)) (newD (x, y) (z, w)))
def CSplit10 : Prop := ∀ (V : List Px) (D : List Int) (j : Nat) (l : List Px), V.length = D.length + 1 → V.length ≤ 1000 → l.length ≤ 100 → j < D.length → (∀ d ∈ D, 1 ≤ d ∧ d ≤ 1048576) →
  PCall Try.prog 15 [vCh V D, vI j, vIt l] (.tup [.agg (mCh (if l.isEmpty then [] else spV V j l) (if l.isEmpty then [] else spD D j l.length)), .one (.c (.bool (!l.isEmpty)))])
def CRight10 : Prop := ∀ (V : List Px) (D : List Int) (r : Nat), r ≤ 28 → V.length ≤ 1000 → D.length ≤ 1000 → (∀ v ∈ V, InI v) → (∀ d ∈ D, 0 ≤ d ∧ d ≤ 9223372036854775807) → PCall Try.prog 16 [vCh V D, vI r] (vB (rtB r V D))
def CDepth10 : Prop := ∀ (V : List Px) (D : List Int), V.length ≤ 1000 → D.length ≤ 1000 → PCall Try.prog 17 [vCh V D] (vI (dptD D))
abbrev mSet10 (l : List Px) : List AC := [.c (.int .i64 100), .p (SlP 2 l.length (itC l))]
abbrev TS0 (S k m : Int) : List (Nat × AV) := [(1, vI k), (3, vOw 3), (7, vI S), (8, vOw 8), (9, vOw 9), (10, vI m)]
/-- the rounds. -/
def R10I (l : List Px) (a1 a2 b1 b2 : Int) (r : Nat) (n : Nat) (R : Rws) (ts : List (Nat × AV)) (ms : List (Nat × List AC)) : Prop :=
  ∃ (m : Nat) (mi : Int) (V : List Px) (D : List Int), 2 ≤ m ∧ m ≤ 4 ∧ n = 4 - m ∧ mi = m ∧ Rnd a1 a2 b1 b2 r (m - 1) (2 * 21 ^ (m - 2)) V D ∧ R = noRows ∧ ms = [(3, mSeg a1 a2 b1 b2), (8, mCh V D), (9, mSet10 l)] ∧ ts = TS0 (2 ^ r) r mi
/-- the links. -/
def L10I (l : List Px) (a1 a2 b1 b2 : Int) (r : Nat) (mi : Int) (V : List Px) (D : List Int) (n : Nat) (R : Rws) (ts : List (Nat × AV)) (ms : List (Nat × List AC)) : Prop :=
  ∃ (j : Nat) (jj : Int), j ≤ D.length ∧ n = j ∧ jj = (j : Int) - 1 ∧ R = noRows ∧ ms = [(3, mSeg a1 a2 b1 b2), (8, mCh (fromV (atL r l) V j) (fromD (atL r l) V D j)), (9, mSet10 l)] ∧ ts = TS0 (2 ^ r) r mi ++ [(11, vI jj)]
/-- the pixels. -/
def P10I (l T : List Px) (a1 a2 b1 b2 : Int) (r : Nat) (mi jj : Int) (V : List Px) (D : List Int) (p q : Px) (n : Nat) (R : Rws) (ts : List (Nat × AV)) (ms : List (Nat × List AC)) : Prop :=
  ∃ (i : Nat) (v : Value) (ii : Int), i ≤ T.length ∧ n = T.length - i ∧ ii = i ∧ R = row1 0 (pxRow v (ddL p q (T.take i))) ∧ ms = [(3, mSeg a1 a2 b1 b2), (8, mCh V D), (9, mSet10 l), (12, mPx p.1 p.2), (13, mPx q.1 q.2)] ∧
    ts = TS0 (2 ^ r) r mi ++ [(11, vI jj), (12, vOw 12), (13, vOw 13), (14, vC v), (96, vIt T), (97, vI T.length), (98, vI ii)]
end Go.Proofs.Ytlglajaonmpljaa

namespace Go.Proofs.Ytlglajaonmpljaa
open Go.RowKit
set_option linter.unusedVariables false
set_option linter.unusedSimpArgs false
def CSplitN10 : Prop := ∀ (V : List Px) (D : List Int) (j : Nat) (l : List Px), V.length ≤ 1000 → D.length ≤ 1000 → l.length ≤ 100 → D.length ≤ j → j ≤ 1000 → PCall Try.prog 15 [vCh V D, vI j, vIt l] (.tup [.agg (mCh [] []), .one (.c (.bool false))])
def CSame10 : Prop := ∀ (V W : List Px) (D E : List Int), V.length ≤ 1000 → D.length ≤ 1000 → W.length ≤ 1000 → E.length ≤ 1000 → PCall Try.prog 18 [vCh V D, vCh W E] (vB (decide (V = W) && decide (D = E)))
def CClone10 : Prop := ∀ (V : List Px) (D : List Int), V.length ≤ 1000 → D.length ≤ 1000 → PCall Try.prog 19 [vCh V D] (vCh V D)
theorem ch0_le : AV.Le (.w (.agg [.c (.slice none 0 0), .c (.slice none 0 0)])) (vCh [] []) := agg_le rfl fun j x y hx hy => by
  match j with
  | 0 => cases hx; cases hy; exact .inr ⟨rfl, 2, rfl⟩
  | 1 => cases hx; cases hy; exact .inr ⟨rfl, 1, rfl⟩
  | j + 2 => simp at hx
set_option maxRecDepth 100000 in
set_option maxHeartbeats 16000000 in
theorem p_alive10 (cn : CNew10) (cs : CSplit10) (csn : CSplitN10) (cr : CRight10) (cd : CDepth10) (ce : CSame10) (cl : CClone10) (cc : CClose10) : PCall Try.prog 6 [] (vB true) := by
  have hin : ∀ v ∈ ([(0, 0), (2, 0), (4, 0)] : List Px), InI v := by unfold InI; decide
  have N1 := cn 0 0 4 0
  rw [show newV (0, 0) (4, 0) = [(0, 0), (4, 0)] by decide, show newD (0, 0) (4, 0) = [1] by decide] at N1
  have N2 := cn 1 0 1 0
  rw [show newV (1, 0) (1, 0) = [(1, 0)] by decide, show newD (1, 0) (1, 0) = [] by decide] at N2
  have S1 := cs [(0, 0), (4, 0)] [1] 0 [(2, 0)] (by decide) (by decide) (by decide) (by decide) (by decide)
  rw [show (if List.isEmpty [((2 : Int), (0 : Int))] then [] else spV [(0, 0), (4, 0)] 0 [(2, 0)]) = [(0, 0), (2, 0), (4, 0)] by decide, show (if List.isEmpty [((2 : Int), (0 : Int))] then [] else spD [1] 0 [((2 : Int), (0 : Int))].length) = [2, 2] by decide, show (!List.isEmpty [((2 : Int), (0 : Int))]) = true by decide] at S1
  have S2 := csn [(0, 0), (4, 0)] [1] 1 [(2, 0)] (by decide) (by decide) (by decide) (by decide) (by decide)
  have hrt : rtV 0 [(0, 0), (2, 0), (4, 0)] [2, 2] := by
    refine ⟨by simp, rfl, ?_, ⟨by decide, by decide, trivial⟩, by decide, .inl ⟨by decide, by decide, trivial⟩, .inl ⟨by decide, by decide, trivial⟩⟩
    decide
  have T1 := cr [(0, 0), (2, 0), (4, 0)] [2, 2] 0 (by decide) (by decide) (by decide) hin (by decide)
  rw [rtB_of hrt] at T1
  have T2' := cr [] [] 0 (by decide) (by decide) (by decide) (fun v hv => by cases hv) (fun v hv => by cases hv)
  rw [rtB_no (r := 0) (V := []) (D := []) (fun h => h.1 rfl)] at T2'
  have T2 : PCall Try.prog 16 [.w (.agg [.c (.slice none 0 0), .c (.slice none 0 0)]), vI (0 : Nat)] (vB false) := pcall_le T2' rfl rfl (by
    intro i x y hx hy
    match i with
    | 0 => cases hx; cases hy; exact ch0_le
    | 1 => cases hx; cases hy; exact .refl _
    | i + 2 => simp at hx)
  have D1 := cd [(0, 0), (2, 0), (4, 0)] [2, 2] (by decide) (by decide)
  rw [show dptD [2, 2] = 2 by decide] at D1
  have L1 := cl [(0, 0), (2, 0), (4, 0)] [2, 2] (by decide) (by decide)
  have E1 := ce [(0, 0), (2, 0), (4, 0)] [(0, 0), (2, 0), (4, 0)] [2, 2] [2, 2] (by decide) (by decide) (by decide) (by decide)
  rw [show (decide (([(0, 0), (2, 0), (4, 0)] : List Px) = [(0, 0), (2, 0), (4, 0)]) && decide (([2, 2] : List Int) = [2, 2])) = true by decide] at E1
  have X1 := cc [(0, 0), (2, 0), (4, 0)] [2, 2] 0 0 4 0 0 0 (by decide) hin (by unfold InI; decide)
  rw [show cloB 0 0 4 0 0 0 [(0, 0), (2, 0), (4, 0)] = true by decide] at X1
  have X2 := cc [(0, 0), (2, 0), (4, 0)] [2, 2] 0 0 4 1 0 1 (by decide) hin (by unfold InI; decide)
  rw [show cloB 0 0 4 1 0 1 [(0, 0), (2, 0), (4, 0)] = false by decide] at X2
  clear cn cs csn cr cd ce cl cc hin hrt T2'
  refine pcall_body (f := 6) Try.func6 rfl rfl rfl rfl ?_
  (repeat (first | ((with_reducible apply al_q); exact rfl) | ((with_reducible apply al_loadP1); (iterate 5 exact rfl)) | ((with_reducible apply al_loadPN); (iterate 5 exact rfl)) | ((with_reducible apply al_idxS); (iterate 3 exact rfl); (first | decide | omega); (first | decide | omega); (first | assumption | rfl); exact rfl) | ((with_reducible apply al_eqP); (iterate 4 exact rfl)) | ((with_reducible apply al_len); (iterate 3 exact rfl)) | ((with_reducible apply al_bslice); (iterate 10 exact rfl)) | (refine al_call1 rfl rfl rfl (by (first | exact N1 | exact N2 | exact S1 | exact S2 | exact T1 | exact T2 | exact D1 | exact L1 | exact E1 | exact X1 | exact X2)) rfl ?_) | (refine al_call2 rfl rfl rfl rfl (by (first | exact N1 | exact N2 | exact S1 | exact S2 | exact T1 | exact T2 | exact D1 | exact L1 | exact E1 | exact X1 | exact X2)) rfl ?_) | (refine al_call3 rfl rfl rfl rfl rfl (by (first | exact N1 | exact N2 | exact S1 | exact S2 | exact T1 | exact T2 | exact D1 | exact L1 | exact E1 | exact X1 | exact X2)) rfl ?_) | (refine al_call5 rfl rfl rfl rfl rfl rfl rfl (by (first | exact N1 | exact N2 | exact S1 | exact S2 | exact T1 | exact T2 | exact D1 | exact L1 | exact E1 | exact X1 | exact X2)) rfl ?_) | ((with_reducible apply al_nilS); kernel_rfl) | ((with_reducible apply awp_region_draw); kernel_rfl; kernel_rfl; exact rfl) | ((with_reducible apply awp_seq)) | ((with_reducible apply athen_normal)) | ((with_reducible apply awp_region)) | ((with_reducible apply al_nil)) | ((with_reducible apply awp_ret))))
  (first | (refine apost_ret rfl (resl_tmp rfl resl_nil) ?_))
  exact AV.Le.refl _
end Go.Proofs.Ytlglajaonmpljaa

namespace Go.Proofs.Ytlglajaonmpljaa
open Go.RowKit
set_option linter.unusedVariables false
set_option linter.unusedSimpArgs false
/-- is there a pair of neighbours of which c holds? -/
def anyN (c : Px → Px → Bool) : List Px → Bool
  | [] => false
  | [_] => false
  | p :: q :: V => c p q || anyN c (q :: V)
theorem anyN_chn {c : Px → Px → Bool} {R : Px → Px → Prop} (h : ∀ p q, c p q = false ↔ R p q) : ∀ V, chn R V ↔ anyN c V = false
  | [] => by simp [chn, anyN]
  | [_] => by simp [chn, anyN]
  | p :: q :: V => by
    have ih := anyN_chn h (q :: V)
    simp only [chn, anyN, Bool.or_eq_false_iff, h p q, ih]
theorem anyN_snoc {c : Px → Px → Bool} : ∀ (V : List Px) (p q : Px), anyN c (V ++ [p, q]) = (anyN c (V ++ [p]) || c p q)
  | [], p, q => by simp [anyN]
  | [a], p, q => by simp [anyN]
  | a :: b :: V, p, q => by
    have ih := anyN_snoc (c := c) (b :: V) p q
    simp only [List.cons_append, anyN] at ih ⊢
    rw [ih, Bool.or_assoc]
/-- one vertex more. -/
theorem anyN_step {c : Px → Px → Bool} {V : List Px} {k : Nat} {p q : Px} (h1 : V[k]? = some p) (h2 : V[k + 1]? = some q) : anyN c (V.take (k + 2)) = (anyN c (V.take (k + 1)) || c p q) := by
  have e1 : V.take (k + 1) = V.take k ++ [p] := by
    rw [List.take_succ_eq_append_getElem (List.getElem?_eq_some_iff.1 h1).1, (List.getElem?_eq_some_iff.1 h1).2]
  have e2 : V.take (k + 2) = V.take k ++ [p, q] := by
    rw [List.take_succ_eq_append_getElem (List.getElem?_eq_some_iff.1 h2).1, (List.getElem?_eq_some_iff.1 h2).2, e1]; simp
  rw [e1, e2, anyN_snoc]
theorem anyN_first {c : Px → Px → Bool} (V : List Px) : anyN c (V.take 1) = false := by
  cases V <;> rfl
/-- right, by what a walk along the vertices gathers. -/
theorem rtV_any {r : Nat} {V : List Px} {D : List Int} : rtV r V D ↔ V ≠ [] ∧ V.length = D.length + 1 ∧ (∀ v ∈ V, inB r v.1 v.2 = true) ∧ anyN (fun p q => eqP p.1 p.2 q.1 q.2) V = false ∧ (∀ d ∈ D, 1 ≤ d ∧ d ≤ 1048576) ∧
    (anyN (fun p q => decide (q.1 < p.1)) V = false ∨ anyN (fun p q => decide (q.1 > p.1)) V = false) ∧ (anyN (fun p q => decide (q.2 < p.2)) V = false ∨ anyN (fun p q => decide (q.2 > p.2)) V = false) := by
  unfold rtV
  rw [anyN_chn (c := fun p q => eqP p.1 p.2 q.1 q.2) (R := (· ≠ ·)) (fun p q => ?_), anyN_chn (c := fun p q => decide (q.1 < p.1)) (R := fun p q => p.1 ≤ q.1) (fun p q => ?_), anyN_chn (c := fun p q => decide (q.1 > p.1)) (R := fun p q => q.1 ≤ p.1) (fun p q => ?_), anyN_chn (c := fun p q => decide (q.2 < p.2)) (R := fun p q => p.2 ≤ q.2) (fun p q => ?_), anyN_chn (c := fun p q => decide (q.2 > p.2)) (R := fun p q => q.2 ≤ p.2) (fun p q => ?_)]
  · rw [decide_eq_false_iff_not]; omega
  · rw [decide_eq_false_iff_not]; omega
  · rw [decide_eq_false_iff_not]; omega
  · rw [decide_eq_false_iff_not]; omega
  · obtain ⟨x, y⟩ := p
    obtain ⟨z, w⟩ := q
    constructor
    · intro h e
      have := eqP_iff.2 (⟨congrArg Prod.fst e, congrArg Prod.snd e⟩ : x = z ∧ y = w)
      rw [h] at this; cases this
    · intro h
      cases he : eqP x y z w with
      | false => rfl
      | true => obtain ⟨rfl, rfl⟩ := eqP_iff.1 he; exact absurd rfl h
theorem anyN_pre {c : Px → Px → Bool} : ∀ (V W : List Px), anyN c V = true → anyN c (V ++ W) = true
  | [], W, h => by simp [anyN] at h
  | [a], W, h => by simp [anyN] at h
  | a :: b :: V, W, h => by
    have ih := anyN_pre (c := c) (b :: V) W
    simp only [List.cons_append, anyN, Bool.or_eq_true] at ih h ⊢
    rcases h with h | h
    · exact .inl h
    · exact .inr (ih h)
theorem anyN_take {c : Px → Px → Bool} {V : List Px} {k : Nat} (h : anyN c (V.take k) = true) : anyN c V = true := by
  have := anyN_pre (V.take k) (V.drop k) h
  rwa [List.take_append_drop] at this
def AiI (r : Nat) (V : List Px) (n : Nat) (ts : List (Nat × AV)) (ms : List (Nat × List AC)) : Prop :=
  ∃ (i : Nat) (ii : Int), i ≤ V.length ∧ n = V.length - i ∧ ii = i ∧ (V.take i).all (fun v => inB r v.1 v.2) = true ∧ ms = [] ∧ ts = [(1, vI r), (15, vIt V), (16, vI V.length), (17, vI ii)]
set_option maxRecDepth 100000 in
set_option maxHeartbeats 8000000 in
theorem p_areIn_yes {V : List Px} {r : Nat} (hr : r ≤ 28) (hV : 0 < V.length) (hb : V.length ≤ 100000) : PCall Try.prog 20 [vIt V, vI r] (vB (V.all fun v => inB r v.1 v.2)) := by
  have hR : IsR (r : Int) r := ⟨hr, .inr (.inr rfl)⟩
  have R1 := p_gRight (k := (r : Int))
  rw [show (decide (0 ≤ (r : Int)) && decide ((r : Int) ≤ 28)) = true by rw [decide_eq_true (by omega), decide_eq_true (by omega)]; rfl] at R1
  have q0 : ¬ (V.length : Int) = 0 := by omega
  refine pcall_body (f := 20) Try.func20 rfl rfl rfl rfl ?_
  (repeat (first | ((with_reducible apply al_q); exact rfl) | ((with_reducible apply al_len); (iterate 3 exact rfl)) | (refine al_call1 rfl rfl rfl (by (first | exact R1)) rfl ?_) | ((with_reducible apply al_guard_b (c := false)); exact rfl; exact rfl; (first | assumption | exact decide_eq_false (by omega) | (simp only [Bool.not_eq_true', decide_eq_false_iff_not, decide_eq_true_eq, Bool.not_eq_false']; (first | done | omega)))) | ((with_reducible apply awp_seq)) | ((with_reducible apply athen_normal)) | ((with_reducible apply awp_region)) | ((with_reducible apply al_nil)) | ((with_reducible apply awp_skip)) | ((with_reducible apply awp_block)) | ((with_reducible apply awp_cond_f); exact rfl)))
  refine awp_loopL 26 (AiI r V) V.length _ [] ⟨0, 0, Nat.zero_le _, rfl, rfl, rfl, rfl, rfl⟩ rfl ⟨rfl, rfl, rfl, rfl, trivial⟩ trivial rfl ?_
  rintro n ts ms ⟨i, ii, hi, rfl, hii, hal, rfl, rfl⟩ hok
  clear hok q0 R1
  by_cases hq : i < V.length
  · have q2 : ii < (V.length : Int) := by omega
    have q3 : 0 ≤ ii := by omega
    obtain ⟨x, y, g1⟩ : ∃ x y, V[i]? = some (x, y) := ⟨_, _, List.getElem?_eq_getElem hq⟩
    have E1 := itC_xy hii g1
    have ht : V.take (i + 1) = V.take i ++ [(x, y)] := by
      rw [List.take_succ_eq_append_getElem hq, (List.getElem?_eq_some_iff.1 g1).2]
    cases hb2 : inB r x y with
    | false =>
      have I1 := p_In hR hb2
      have e : (V.all fun v => inB r v.1 v.2) = false := by
        refine List.all_eq_false.2 ⟨(x, y), List.mem_of_getElem? g1, ?_⟩
        simp only [hb2]; decide
      rw [e]
      clear hR
      (repeat (first | ((with_reducible apply al_q); exact rfl) | ((with_reducible apply al_loadPN); (iterate 5 exact rfl)) | ((with_reducible apply al_idxS); (iterate 3 exact rfl); (first | decide | omega); (first | decide | omega); (first | assumption | rfl); exact rfl) | (refine al_call2 rfl rfl rfl rfl (by (first | exact I1)) rfl ?_) | ((with_reducible apply awp_seq)) | ((with_reducible apply athen_normal)) | ((with_reducible apply awp_region)) | ((with_reducible apply al_nil)) | ((with_reducible apply awp_ret)) | ((with_reducible apply awp_skip)) | ((with_reducible apply athen_ret)) | ((with_reducible apply awp_block)) | ((with_reducible apply ablock_ret)) | ((with_reducible apply awp_cond_t); exact rfl) | ((with_reducible apply awp_cond_1); exact rfl; (first | assumption | exact decide_eq_true (by omega) | (simp only [Bool.not_eq_true', decide_eq_false_iff_not, decide_eq_true_eq, Bool.not_eq_false']; (first | done | omega))))))
      (first | (refine apost_ret rfl (resl_tmp rfl resl_nil) ?_))
      exact AV.Le.refl _
    | true =>
      have I1 := p_In hR hb2
      have e : (V.take (i + 1)).all (fun v => inB r v.1 v.2) = true := by
        rw [ht, List.all_append, hal]; simp [hb2]
      clear hR
      (repeat (first | ((with_reducible apply al_q); exact rfl) | ((with_reducible apply al_loadPN); (iterate 5 exact rfl)) | ((with_reducible apply al_idxS); (iterate 3 exact rfl); (first | decide | omega); (first | decide | omega); (first | assumption | rfl); exact rfl) | ((with_reducible apply al_add); (iterate 3 exact rfl); (first | exact i64_wrap (by omega) | assumption | rfl); exact rfl) | (refine al_call2 rfl rfl rfl rfl (by (first | exact I1)) rfl ?_) | ((with_reducible apply awp_seq)) | ((with_reducible apply athen_normal)) | ((with_reducible apply awp_region)) | ((with_reducible apply al_nil)) | ((with_reducible apply awp_skip)) | ((with_reducible apply awp_block)) | ((with_reducible apply ablock_normal)) | ((with_reducible apply awp_cond_f); exact rfl) | ((with_reducible apply awp_cond_1); exact rfl; (first | assumption | exact decide_eq_true (by omega) | (simp only [Bool.not_eq_true', decide_eq_false_iff_not, decide_eq_true_eq, Bool.not_eq_false']; (first | done | omega))))))
      exact ⟨V.length - (i + 1), _, [], by omega, ⟨i + 1, ii + 1, by omega, rfl, by omega, e, rfl, rfl⟩, rfl, ⟨rfl, rfl, rfl, rfl, trivial⟩, trivial, rfl⟩
  · have q2 : ¬ ii < (V.length : Int) := by omega
    rw [List.take_of_length_le (by omega)] at hal
    rw [hal]
    (repeat (first | ((with_reducible apply al_q); exact rfl) | ((with_reducible apply awp_seq)) | ((with_reducible apply athen_normal)) | ((with_reducible apply awp_region)) | ((with_reducible apply al_nil)) | ((with_reducible apply awp_ret)) | ((with_reducible apply ablock_same)) | ((with_reducible apply awp_exit)) | ((with_reducible apply athen_exit)) | ((with_reducible apply awp_cond_0); exact rfl; (first | assumption | exact decide_eq_false (by omega) | (simp only [Bool.not_eq_true', decide_eq_false_iff_not, decide_eq_true_eq, Bool.not_eq_false']; (first | done | omega))))))
    (first | (refine apost_ret rfl (resl_tmp rfl resl_nil) ?_))
    exact AV.Le.refl _
set_option maxRecDepth 100000 in
set_option maxHeartbeats 8000000 in
theorem p_areIn_no {V : List Px} {k : Int} (cs : (V.length : Int) = 0 ∨ (¬ (V.length : Int) = 0 ∧ ¬ (0 ≤ k ∧ k ≤ 28))) : PCall Try.prog 20 [vIt V, vI k] (vB false) := by
  rcases cs with q0 | ⟨q0, q1⟩
  · refine pcall_body (f := 20) Try.func20 rfl rfl rfl rfl ?_
    (repeat (first | ((with_reducible apply al_q); exact rfl) | ((with_reducible apply al_len); (iterate 3 exact rfl)) | ((with_reducible apply al_guard_b (c := true)); exact rfl; exact rfl; (first | assumption | exact decide_eq_true (by omega) | (simp only [Bool.not_eq_true', decide_eq_false_iff_not, decide_eq_true_eq, Bool.not_eq_false']; (first | done | omega)))) | ((with_reducible apply awp_seq)) | ((with_reducible apply athen_normal)) | ((with_reducible apply awp_region)) | ((with_reducible apply al_nil)) | ((with_reducible apply awp_ret)) | ((with_reducible apply athen_ret)) | ((with_reducible apply awp_cond_t); exact rfl)))
    (first | (refine apost_ret rfl (resl_tmp rfl resl_nil) ?_))
    exact AV.Le.refl _
  · have R1 := p_gRight (k := k)
    rw [show (decide (0 ≤ k) && decide (k ≤ 28)) = false by
      rcases Int.lt_or_le k 0 with h | h
      · rw [decide_eq_false (by omega)]; rfl
      · rw [decide_eq_false (p := k ≤ 28) (by omega)]; simp] at R1
    refine pcall_body (f := 20) Try.func20 rfl rfl rfl rfl ?_
    (repeat (first | ((with_reducible apply al_q); exact rfl) | ((with_reducible apply al_len); (iterate 3 exact rfl)) | (refine al_call1 rfl rfl rfl (by (first | exact R1)) rfl ?_) | ((with_reducible apply al_guard_b (c := false)); exact rfl; exact rfl; (first | assumption | exact decide_eq_false (by omega) | (simp only [Bool.not_eq_true', decide_eq_false_iff_not, decide_eq_true_eq, Bool.not_eq_false']; (first | done | omega)))) | ((with_reducible apply awp_seq)) | ((with_reducible apply athen_normal)) | ((with_reducible apply awp_region)) | ((with_reducible apply al_nil)) | ((with_reducible apply awp_ret)) | ((with_reducible apply athen_ret)) | ((with_reducible apply awp_cond_t); exact rfl)))
    (first | (refine apost_ret rfl (resl_tmp rfl resl_nil) ?_))
    exact AV.Le.refl _
def AdI (D : List Int) (n : Nat) (ts : List (Nat × AV)) (ms : List (Nat × List AC)) : Prop :=
  ∃ (i : Nat) (ii : Int), i ≤ D.length ∧ n = D.length - i ∧ ii = i ∧ (D.take i).all (fun d => decide (1 ≤ d ∧ d ≤ 1048576)) = true ∧ ms = [] ∧ ts = [(5, vIn D), (6, vI D.length), (7, vI ii)]
set_option maxRecDepth 100000 in
set_option maxHeartbeats 8000000 in
theorem p_areDepths {D : List Int} (hb : D.length ≤ 100000) : PCall Try.prog 40 [vIn D] (vB (D.all fun d => decide (1 ≤ d ∧ d ≤ 1048576))) := by
  refine pcall_body (f := 40) Try.func40 rfl rfl rfl rfl ?_
  (repeat (first | ((with_reducible apply al_q); exact rfl) | ((with_reducible apply al_len); (iterate 3 exact rfl)) | ((with_reducible apply awp_seq)) | ((with_reducible apply athen_normal)) | ((with_reducible apply awp_region)) | ((with_reducible apply al_nil)) | ((with_reducible apply awp_block))))
  refine awp_loopL 18 (AdI D) D.length _ [] ⟨0, 0, Nat.zero_le _, rfl, rfl, rfl, rfl, rfl⟩ rfl ⟨rfl, rfl, rfl, trivial⟩ trivial rfl ?_
  rintro n ts ms ⟨i, ii, hi, rfl, hii, hal, rfl, rfl⟩ hok
  clear hok
  by_cases hq : i < D.length
  · have q2 : ii < (D.length : Int) := by omega
    have q3 : 0 ≤ ii := by omega
    obtain ⟨d, g1⟩ : ∃ d, D[i]? = some d := ⟨_, List.getElem?_eq_getElem hq⟩
    have E1 := inC_at hii g1
    have ht : D.take (i + 1) = D.take i ++ [d] := by
      rw [List.take_succ_eq_append_getElem hq, (List.getElem?_eq_some_iff.1 g1).2]
    have no : ¬ (1 ≤ d ∧ d ≤ 1048576) → (D.all fun d => decide (1 ≤ d ∧ d ≤ 1048576)) = false := fun h =>
      List.all_eq_false.2 ⟨d, List.mem_of_getElem? g1, by rw [decide_eq_false h]; decide⟩
    by_cases c1 : d < 1
    · rw [no (by omega)]
      (repeat (first | ((with_reducible apply al_q); exact rfl) | ((with_reducible apply al_loadP1); (iterate 5 exact rfl)) | ((with_reducible apply al_idxS); (iterate 3 exact rfl); (first | decide | omega); (first | decide | omega); (first | assumption | rfl); exact rfl) | ((with_reducible apply al_guard_b (c := true)); exact rfl; exact rfl; (first | assumption | exact decide_eq_true (by omega) | (simp only [Bool.not_eq_true', decide_eq_false_iff_not, decide_eq_true_eq, Bool.not_eq_false']; (first | done | omega)))) | ((with_reducible apply awp_seq)) | ((with_reducible apply athen_normal)) | ((with_reducible apply awp_region)) | ((with_reducible apply al_nil)) | ((with_reducible apply awp_ret)) | ((with_reducible apply awp_skip)) | ((with_reducible apply athen_ret)) | ((with_reducible apply awp_block)) | ((with_reducible apply ablock_ret)) | ((with_reducible apply awp_cond_t); exact rfl) | ((with_reducible apply awp_cond_1); exact rfl; (first | assumption | exact decide_eq_true (by omega) | (simp only [Bool.not_eq_true', decide_eq_false_iff_not, decide_eq_true_eq, Bool.not_eq_false']; (first | done | omega))))))
      (first | (refine apost_ret rfl (resl_tmp rfl resl_nil) ?_))
      exact AV.Le.refl _
    · by_cases c2 : d > 1048576
      · rw [no (by omega)]
        (repeat (first | ((with_reducible apply al_q); exact rfl) | ((with_reducible apply al_loadP1); (iterate 5 exact rfl)) | ((with_reducible apply al_idxS); (iterate 3 exact rfl); (first | decide | omega); (first | decide | omega); (first | assumption | rfl); exact rfl) | ((with_reducible apply al_guard_b (c := false)); exact rfl; exact rfl; (first | assumption | exact decide_eq_false (by omega) | (simp only [Bool.not_eq_true', decide_eq_false_iff_not, decide_eq_true_eq, Bool.not_eq_false']; (first | done | omega)))) | ((with_reducible apply awp_seq)) | ((with_reducible apply athen_normal)) | ((with_reducible apply awp_region)) | ((with_reducible apply al_nil)) | ((with_reducible apply awp_ret)) | ((with_reducible apply awp_skip)) | ((with_reducible apply athen_ret)) | ((with_reducible apply awp_block)) | ((with_reducible apply ablock_ret)) | ((with_reducible apply awp_cond_1); exact rfl; (first | assumption | exact decide_eq_true (by omega) | (simp only [Bool.not_eq_true', decide_eq_false_iff_not, decide_eq_true_eq, Bool.not_eq_false']; (first | done | omega))))))
        (first | (refine apost_ret rfl (resl_tmp rfl resl_nil) ?_))
        exact AV.Le.refl _
      · have e : (D.take (i + 1)).all (fun d => decide (1 ≤ d ∧ d ≤ 1048576)) = true := by
          rw [ht, List.all_append, hal]; simp; omega
        (repeat (first | ((with_reducible apply al_q); exact rfl) | ((with_reducible apply al_loadP1); (iterate 5 exact rfl)) | ((with_reducible apply al_idxS); (iterate 3 exact rfl); (first | decide | omega); (first | decide | omega); (first | assumption | rfl); exact rfl) | ((with_reducible apply al_add); (iterate 3 exact rfl); (first | exact i64_wrap (by omega) | assumption | rfl); exact rfl) | ((with_reducible apply al_guard_b (c := false)); exact rfl; exact rfl; (first | assumption | exact decide_eq_false (by omega) | (simp only [Bool.not_eq_true', decide_eq_false_iff_not, decide_eq_true_eq, Bool.not_eq_false']; (first | done | omega)))) | ((with_reducible apply awp_seq)) | ((with_reducible apply athen_normal)) | ((with_reducible apply awp_region)) | ((with_reducible apply al_nil)) | ((with_reducible apply awp_skip)) | ((with_reducible apply awp_block)) | ((with_reducible apply ablock_normal)) | ((with_reducible apply awp_cond_1); exact rfl; (first | assumption | exact decide_eq_true (by omega) | (simp only [Bool.not_eq_true', decide_eq_false_iff_not, decide_eq_true_eq, Bool.not_eq_false']; (first | done | omega)))) | ((with_reducible apply awp_cond_0); exact rfl; (first | assumption | exact decide_eq_false (by omega) | (simp only [Bool.not_eq_true', decide_eq_false_iff_not, decide_eq_true_eq, Bool.not_eq_false']; (first | done | omega))))))
        exact ⟨D.length - (i + 1), _, [], by omega, ⟨i + 1, ii + 1, by omega, rfl, by omega, e, rfl, rfl⟩, rfl, ⟨rfl, rfl, rfl, trivial⟩, trivial, rfl⟩
  · have q2 : ¬ ii < (D.length : Int) := by omega
    rw [List.take_of_length_le (by omega)] at hal
    rw [hal]
    (repeat (first | ((with_reducible apply al_q); exact rfl) | ((with_reducible apply awp_seq)) | ((with_reducible apply athen_normal)) | ((with_reducible apply awp_region)) | ((with_reducible apply al_nil)) | ((with_reducible apply awp_ret)) | ((with_reducible apply ablock_same)) | ((with_reducible apply awp_exit)) | ((with_reducible apply athen_exit)) | ((with_reducible apply awp_cond_0); exact rfl; (first | assumption | exact decide_eq_false (by omega) | (simp only [Bool.not_eq_true', decide_eq_false_iff_not, decide_eq_true_eq, Bool.not_eq_false']; (first | done | omega))))))
    (first | (refine apost_ret rfl (resl_tmp rfl resl_nil) ?_))
    exact AV.Le.refl _
def neP (p q : Px) : Bool := eqP p.1 p.2 q.1 q.2
def rgP (p q : Px) : Bool := decide (q.1 > p.1)
def lfP (p q : Px) : Bool := decide (q.1 < p.1)
def upP (p q : Px) : Bool := decide (q.2 > p.2)
def dnP (p q : Px) : Bool := decide (q.2 < p.2)
def goB (V : List Px) : Bool := !anyN neP V && (!(anyN rgP V && anyN lfP V) && !(anyN upP V && anyN dnP V))
def GoI (V : List Px) (n : Nat) (ts : List (Nat × AV)) (ms : List (Nat × List AC)) : Prop :=
  ∃ (i : Nat) (ii : Int) (b1 b2 b3 b4 : Bool), n = V.length + 1 - i ∧ ii = i ∧ 1 ≤ i ∧ i ≤ V.length + 1 ∧ anyN neP (V.take i) = false ∧ anyN rgP (V.take i) = b1 ∧ anyN lfP (V.take i) = b2 ∧ anyN upP (V.take i) = b3 ∧ anyN dnP (V.take i) = b4 ∧ ms = [] ∧ ts = [(0, vIt V), (3, vB b1), (4, vB b2), (5, vB b3), (6, vB b4), (7, vI ii)]
set_option maxRecDepth 100000 in
set_option maxHeartbeats 16000000 in
theorem p_goOn {V : List Px} (hb : V.length ≤ 100000) : PCall Try.prog 39 [vIt V] (vB (goB V)) := by
  refine pcall_body (f := 39) Try.func39 rfl rfl rfl rfl ?_
  (repeat (first | ((with_reducible apply al_q); exact rfl) | ((with_reducible apply awp_seq)) | ((with_reducible apply athen_normal)) | ((with_reducible apply awp_region)) | ((with_reducible apply al_nil)) | ((with_reducible apply awp_block))))
  refine awp_loopL 72 (GoI V) (V.length + 1 - 1) _ [] ⟨1, 1, false, false, false, false, rfl, rfl, Nat.le_refl _, by omega, anyN_first V, anyN_first V, anyN_first V, anyN_first V, anyN_first V, rfl, rfl⟩ rfl ⟨rfl, rfl, rfl, rfl, rfl, rfl, trivial⟩ trivial rfl ?_
  rintro n ts ms ⟨i, ii, b1, b2, b3, b4, rfl, hii, hi1, hi, h0, h1, h2, h3, h4, rfl, rfl⟩ hok
  clear hok
  by_cases hq : i < V.length
  · have q2 : ii < (V.length : Int) := by omega
    have q3 : 0 ≤ ii := by omega
    have q4 : 0 ≤ ii - 1 := by omega
    have q5 : ii - 1 < (V.length : Int) := by omega
    have w1 : IntKind.i64.wrap (ii - 1) = ii - 1 := i64_wrap (by omega)
    obtain ⟨k, rfl⟩ : ∃ k, i = k + 1 := ⟨i - 1, by omega⟩
    obtain ⟨x, y, g1⟩ : ∃ x y, V[k]? = some (x, y) := ⟨_, _, List.getElem?_eq_getElem (by omega)⟩
    obtain ⟨z, w, g2⟩ : ∃ z w, V[k + 1]? = some (z, w) := ⟨_, _, List.getElem?_eq_getElem hq⟩
    have E1 := itC_xy (j := ii - 1) (i := k) (by omega) g1
    have E2 := itC_xy hii g2
    have s0 := anyN_step (c := neP) g1 g2
    have s1 := anyN_step (c := rgP) g1 g2
    have s2 := anyN_step (c := lfP) g1 g2
    have s3 := anyN_step (c := upP) g1 g2
    have s4 := anyN_step (c := dnP) g1 g2
    rw [h0] at s0
    rw [h1] at s1
    rw [h2] at s2
    rw [h3] at s3
    rw [h4] at s4
    cases he : eqP x y z w with
    | true =>
      have e : goB V = false := by
        unfold goB
        rw [anyN_take (c := neP) (V := V) (k := k + 2) (by rw [s0]; exact he)]; rfl
      rw [e]
      clear s0 s1 s2 s3 s4 h0 h1 h2 h3 h4
      (repeat (first | ((with_reducible apply al_q); exact rfl) | ((with_reducible apply al_loadPN); (iterate 5 exact rfl)) | ((with_reducible apply al_idxS); (iterate 3 exact rfl); (first | decide | omega); (first | decide | omega); (first | assumption | rfl); exact rfl) | ((with_reducible apply al_eqP); (iterate 4 exact rfl)) | ((with_reducible apply al_sub); (iterate 3 exact rfl); (first | exact i64_wrap (by omega) | assumption | rfl); exact rfl) | ((with_reducible apply al_len); (iterate 3 exact rfl)) | ((with_reducible apply al_nilS); kernel_rfl) | ((with_reducible apply awp_region_draw); kernel_rfl; kernel_rfl; exact rfl) | ((with_reducible apply awp_seq)) | ((with_reducible apply athen_normal)) | ((with_reducible apply awp_region)) | ((with_reducible apply al_nil)) | ((with_reducible apply awp_ret)) | ((with_reducible apply awp_skip)) | ((with_reducible apply athen_ret)) | ((with_reducible apply awp_block)) | ((with_reducible apply ablock_ret)) | ((with_reducible apply awp_cond_1); exact rfl; (first | assumption | exact decide_eq_true (by omega) | (simp only [Bool.not_eq_true', decide_eq_false_iff_not, decide_eq_true_eq, Bool.not_eq_false']; (first | done | omega))))))
      (first | (refine apost_ret rfl (resl_tmp rfl resl_nil) ?_))
      exact AV.Le.refl _
    | false =>
      have e0 : anyN neP (V.take (k + 2)) = false := by rw [s0]; exact he
      clear s0 h0 h1 h2 h3 h4
      cases b1 <;> cases b2 <;> cases b3 <;> cases b4
      all_goals
        (repeat (first | ((with_reducible apply al_q); exact rfl) | ((with_reducible apply al_loadPN); (iterate 5 exact rfl)) | ((with_reducible apply al_idxS); (iterate 3 exact rfl); (first | decide | omega); (first | decide | omega); (first | assumption | rfl); exact rfl) | ((with_reducible apply al_eqP); (iterate 4 exact rfl)) | ((with_reducible apply al_add); (iterate 3 exact rfl); (first | exact i64_wrap (by omega) | assumption | rfl); exact rfl) | ((with_reducible apply al_sub); (iterate 3 exact rfl); (first | exact i64_wrap (by omega) | assumption | rfl); exact rfl) | ((with_reducible apply al_len); (iterate 3 exact rfl)) | ((with_reducible apply al_nilS); kernel_rfl) | ((with_reducible apply awp_region_draw); kernel_rfl; kernel_rfl; exact rfl) | ((with_reducible apply awp_seq)) | ((with_reducible apply athen_normal)) | ((with_reducible apply awp_region)) | ((with_reducible apply al_nil)) | ((with_reducible apply awp_skip)) | ((with_reducible apply awp_block)) | ((with_reducible apply ablock_normal)) | ((with_reducible apply awp_cond_1); exact rfl; (first | assumption | exact decide_eq_true (by omega) | (simp only [Bool.not_eq_true', decide_eq_false_iff_not, decide_eq_true_eq, Bool.not_eq_false']; (first | done | omega)))) | ((with_reducible apply awp_cond_0); exact rfl; (first | assumption | exact decide_eq_false (by omega) | (simp only [Bool.not_eq_true', decide_eq_false_iff_not, decide_eq_true_eq, Bool.not_eq_false']; (first | done | omega))))))
        exact ⟨V.length + 1 - (k + 2), _, [], by omega, ⟨k + 2, ii + 1, _, _, _, _, rfl, by omega, by omega, by omega, e0, s1, s2, s3, s4, rfl, rfl⟩, rfl, ⟨rfl, rfl, rfl, rfl, rfl, rfl, trivial⟩, trivial, rfl⟩
  · have q2 : ¬ ii < (V.length : Int) := by omega
    rw [List.take_of_length_le (by omega)] at h0 h1 h2 h3 h4
    have e : goB V = (!(b1 && b2) && !(b3 && b4)) := by unfold goB; rw [h0, h1, h2, h3, h4]; rfl
    rw [e]
    clear h0 h1 h2 h3 h4 e
    cases b1 <;> cases b2 <;> cases b3 <;> cases b4
    all_goals
      (repeat (first | ((with_reducible apply al_q); exact rfl) | ((with_reducible apply al_len); (iterate 3 exact rfl)) | ((with_reducible apply awp_seq)) | ((with_reducible apply athen_normal)) | ((with_reducible apply awp_region)) | ((with_reducible apply al_nil)) | ((with_reducible apply awp_ret)) | ((with_reducible apply ablock_same)) | ((with_reducible apply awp_exit)) | ((with_reducible apply athen_exit)) | ((with_reducible apply awp_cond_0); exact rfl; (first | assumption | exact decide_eq_false (by omega) | (simp only [Bool.not_eq_true', decide_eq_false_iff_not, decide_eq_true_eq, Bool.not_eq_false']; (first | done | omega))))))
      (first | (refine apost_ret rfl (resl_tmp rfl resl_nil) ?_))
      exact AV.Le.refl _
theorem rtB_all {r : Nat} {V : List Px} {D : List Int} : rtB r V D = (decide (0 < V.length) && ((V.all fun v => inB r v.1 v.2) && (goB V && (decide ((D.length : Int) = (V.length : Int) - 1) && D.all fun d => decide (1 ≤ d ∧ d ≤ 1048576))))) := by
  have key : rtV r V D ↔ (decide (0 < V.length) && ((V.all fun v => inB r v.1 v.2) && (goB V && (decide ((D.length : Int) = (V.length : Int) - 1) && D.all fun d => decide (1 ≤ d ∧ d ≤ 1048576))))) = true := by
    rw [rtV_any]
    unfold goB
    simp only [Bool.and_eq_true, decide_eq_true_eq, List.all_eq_true, Bool.not_eq_true', Bool.and_eq_false_iff]
    constructor
    · rintro ⟨g1, g2, g3, g4, g5, g6, g7⟩
      exact ⟨by cases V <;> simp_all, g3, ⟨g4, g6.symm, g7.symm⟩, by omega, g5⟩
    · rintro ⟨g1, g3, ⟨g4, g6, g7⟩, g2, g5⟩
      exact ⟨fun h => by simp [h] at g1, by omega, g3, g4, g5, g6.symm, g7.symm⟩
  by_cases h : rtV r V D
  · rw [rtB_of h]; exact (key.1 h).symm
  · rw [rtB_no h]
    cases hb : (decide (0 < V.length) && ((V.all fun v => inB r v.1 v.2) && (goB V && (decide ((D.length : Int) = (V.length : Int) - 1) && D.all fun d => decide (1 ≤ d ∧ d ≤ 1048576))))) with
    | false => rfl
    | true => exact absurd (key.2 hb) h
set_option maxRecDepth 100000 in
set_option maxHeartbeats 8000000 in
theorem right_core {V : List Px} {D : List Int} {k : Int} {b1 b2 b4 : Bool} (hb : V.length ≤ 1000) (C1 : PCall Try.prog 20 [vIt V, vI k] (vB b1)) (C2 : PCall Try.prog 39 [vIt V] (vB b2)) (C4 : PCall Try.prog 40 [vIn D] (vB b4)) : PCall Try.prog 16 [vCh V D, vI k] (vB (b1 && (b2 && (decide ((D.length : Int) = (V.length : Int) - 1) && b4)))) := by
  by_cases q : (D.length : Int) = (V.length : Int) - 1
  · rw [decide_eq_true q]
    cases b1 <;> cases b2 <;> cases b4
    all_goals
      refine pcall_body (f := 16) Try.func16 rfl rfl rfl rfl ?_
      (repeat (first | ((with_reducible apply al_q); exact rfl) | ((with_reducible apply al_sub); (iterate 3 exact rfl); (first | exact i64_wrap (by omega) | assumption | rfl); exact rfl) | ((with_reducible apply al_len); (iterate 3 exact rfl)) | (refine al_call1 rfl rfl rfl (by (first | exact C1 | exact C2 | exact C4)) rfl ?_) | (refine al_call2 rfl rfl rfl rfl (by (first | exact C1 | exact C2 | exact C4)) rfl ?_) | ((with_reducible apply al_guard_b (c := true)); exact rfl; exact rfl; (first | assumption | exact decide_eq_true (by omega) | (simp only [Bool.not_eq_true', decide_eq_false_iff_not, decide_eq_true_eq, Bool.not_eq_false']; (first | done | omega)))) | ((with_reducible apply awp_seq)) | ((with_reducible apply athen_normal)) | ((with_reducible apply awp_region)) | ((with_reducible apply al_nil)) | ((with_reducible apply awp_ret))))
      (first | (refine apost_ret rfl (resl_tmp rfl resl_nil) ?_))
      exact AV.Le.refl _
  · rw [decide_eq_false q]
    cases b1 <;> cases b2
    all_goals
      simp only [Bool.false_and, Bool.and_false, Bool.true_and]
      clear C4
      refine pcall_body (f := 16) Try.func16 rfl rfl rfl rfl ?_
      (repeat (first | ((with_reducible apply al_q); exact rfl) | ((with_reducible apply al_sub); (iterate 3 exact rfl); (first | exact i64_wrap (by omega) | assumption | rfl); exact rfl) | ((with_reducible apply al_len); (iterate 3 exact rfl)) | (refine al_call1 rfl rfl rfl (by (first | exact C1 | exact C2)) rfl ?_) | (refine al_call2 rfl rfl rfl rfl (by (first | exact C1 | exact C2)) rfl ?_) | ((with_reducible apply al_guard_b (c := false)); exact rfl; exact rfl; (first | assumption | exact decide_eq_false (by omega) | (simp only [Bool.not_eq_true', decide_eq_false_iff_not, decide_eq_true_eq, Bool.not_eq_false']; (first | done | omega)))) | ((with_reducible apply awp_seq)) | ((with_reducible apply athen_normal)) | ((with_reducible apply awp_region)) | ((with_reducible apply al_nil)) | ((with_reducible apply awp_ret))))
      (first | (refine apost_ret rfl (resl_tmp rfl resl_nil) ?_))
      exact AV.Le.refl _
theorem k_Right10 : CRight10 := by
  intro V D r hr hb hd hin hdd
  rw [rtB_all]
  have C2 := p_goOn (V := V) (by omega)
  have C4 := p_areDepths (D := D) (by omega)
  by_cases h : 0 < V.length
  · rw [decide_eq_true h, Bool.true_and]
    exact right_core hb (p_areIn_yes hr h (by omega)) C2 C4
  · rw [decide_eq_false h, Bool.false_and]
    have := right_core hb (p_areIn_no (k := (r : Int)) (.inl (by omega))) C2 C4
    rwa [Bool.false_and] at this
end Go.Proofs.Ytlglajaonmpljaa

namespace Go.Proofs.Ytlglajaonmpljaa
set_option linter.unusedVariables false
set_option linter.unusedSimpArgs false
/-- is the first one of two shares ahead? -/
def ahS (x y : Int × Int) : Bool := decide (x.1 * y.2 < y.1 * x.2)
def latS (x y : Int × Int) : Int × Int := bif ahS x y then y else x
def shrF (p q m far : Int) : Int × Int := if 2 * (q - p) > 0 then (2 * (m - p) - far, 2 * (q - p)) else if 2 * (q - p) < 0 then (-(2 * (m - p) + far), -(2 * (q - p))) else if 2 * (m - p) - far > 0 ∨ 2 * (m - p) + far < 0 then (1, 1) else (0, 1)
def shrT (p q m far : Int) : Int × Int := if 2 * (q - p) > 0 then (2 * (m - p) + far, 2 * (q - p)) else if 2 * (q - p) < 0 then (-(2 * (m - p) - far), -(2 * (q - p))) else if 2 * (m - p) - far > 0 ∨ 2 * (m - p) + far < 0 then (0, 1) else (1, 1)
abbrev fS (x : Int × Int) : Rat := frq x.1 x.2
theorem ahS_no {x y : Int × Int} (hx : 0 < x.2) (hy : 0 < y.2) : ahS x y = false ↔ fS y ≤ fS x := by
  unfold ahS fS; rw [frq_le hy hx, decide_eq_false_iff_not, Int.not_lt]
theorem latS_pos {x y : Int × Int} (hx : 0 < x.2) (hy : 0 < y.2) : 0 < (latS x y).2 := by
  unfold latS; cases ahS x y <;> assumption
theorem latS_le {x y : Int × Int} (hx : 0 < x.2) (hy : 0 < y.2) {t : Rat} : fS (latS x y) ≤ t ↔ fS x ≤ t ∧ fS y ≤ t := by
  unfold latS
  cases h : ahS x y with
  | false => exact ⟨fun g => ⟨g, Rat.le_trans ((ahS_no hx hy).1 h) g⟩, fun g => g.1⟩
  | true =>
    have h1 : fS x ≤ fS y := by
      rcases Rat.le_total (a := fS x) (b := fS y) with g | g
      · exact g
      · rw [(ahS_no hx hy).2 g] at h; cases h
    exact ⟨fun g => ⟨Rat.le_trans h1 g, g⟩, fun g => g.2⟩
theorem shrF_pos (p q m far : Int) : 0 < (shrF p q m far).2 := by
  unfold shrF
  split
  · assumption
  · split
    · show 0 < -(2 * (q - p)); omega
    · split <;> decide
theorem shrT_pos (p q m far : Int) : 0 < (shrT p q m far).2 := by
  unfold shrT
  split
  · assumption
  · split
    · show 0 < -(2 * (q - p)); omega
    · split <;> decide
theorem frq_leR {n d : Int} {t : Rat} (hd : 0 < d) : frq n d ≤ t ↔ rc n ≤ t * rc d := by
  have d0 := rc_pos hd
  have e1 : frq n d * rc d = rc n := rc_div hd
  rw [← e1]
  generalize frq n d = x
  constructor
  · intro h
    have := Rat.mul_nonneg (show 0 ≤ t - x by grind) (Rat.le_of_lt d0)
    grind
  · intro h
    refine Rat.not_lt.1 fun hlt => ?_
    have := Rat.mul_pos (show 0 < x - t by grind) d0
    grind
theorem frq_geR {n d : Int} {t : Rat} (hd : 0 < d) : t ≤ frq n d ↔ t * rc d ≤ rc n := by
  have d0 := rc_pos hd
  have e1 : frq n d * rc d = rc n := rc_div hd
  rw [← e1]
  generalize frq n d = x
  constructor
  · intro h
    have := Rat.mul_nonneg (show 0 ≤ x - t by grind) (Rat.le_of_lt d0)
    grind
  · intro h
    refine Rat.not_lt.1 fun hlt => ?_
    have := Rat.mul_pos (show 0 < t - x by grind) d0
    grind
theorem shr_in {p q m far : Int} {t : Rat} (h0 : 0 ≤ t) (h1 : t ≤ 1) : (fS (shrF p q m far) ≤ t ∧ t ≤ fS (shrT p q m far)) ↔ nrC (rc p) (rc q) (2 * rc m) (rc far) t := by
  unfold shrF shrT fS nrC
  by_cases c1 : 2 * (q - p) > 0
  · rw [if_pos c1, if_pos c1]
    simp only
    rw [frq_leR c1, frq_geR c1]
    simp only [rc, Rat.intCast_sub, Rat.intCast_mul, Rat.intCast_neg, Rat.intCast_add]
    constructor
    · rintro ⟨g1, g2⟩; constructor <;> grind
    · rintro ⟨g1, g2⟩; constructor <;> grind
  · rw [if_neg c1, if_neg c1]
    by_cases c2 : 2 * (q - p) < 0
    · have c3 : 0 < -(2 * (q - p)) := by omega
      rw [if_pos c2, if_pos c2]
      simp only
      rw [frq_leR c3, frq_geR c3]
      simp only [rc, Rat.intCast_sub, Rat.intCast_mul, Rat.intCast_neg, Rat.intCast_add]
      constructor
      · rintro ⟨g1, g2⟩; constructor <;> grind
      · rintro ⟨g1, g2⟩; constructor <;> grind
    · rw [if_neg c2, if_neg c2]
      have e : q = p := by omega
      subst e
      have e1 : ∀ g : Rat, 2 * rc q + t * (2 * (rc q - rc q)) - 2 * rc m = rc (2 * (q - m)) := fun g => by
        simp only [rc, Rat.intCast_sub, Rat.intCast_mul]; grind
      rw [e1 0, show -rc far = rc (-far) by simp [rc, Rat.intCast_neg], rc_le, rc_le]
      by_cases c3 : 2 * (m - q) - far > 0 ∨ 2 * (m - q) + far < 0
      · rw [if_pos c3, if_pos c3]
        simp only [frq_0, frq_1]
        constructor
        · rintro ⟨g1, g2⟩; exact absurd (Rat.le_trans g1 g2) (by decide)
        · rintro ⟨g1, g2⟩; omega
      · rw [if_neg c3, if_neg c3]
        simp only [frq_0, frq_1]
        exact ⟨fun _ => ⟨by omega, by omega⟩, fun _ => ⟨h0, h1⟩⟩
/-- the place up to which one has come, behind a vertex. -/
def nxS (a1 a2 b1 b2 S far : Int) (c : Int × Int) (v : Px) : Int × Int := latS (latS c (shrF a1 b1 (S * v.1) far)) (shrF a2 b2 (S * v.2) far)
def grd (a1 a2 b1 b2 S far : Int) : Int × Int → List Px → Bool
  | c, [] => !ahS (1, 1) c
  | c, v :: V => !ahS (shrT a1 b1 (S * v.1) far) (nxS a1 a2 b1 b2 S far c v) && (!ahS (shrT a2 b2 (S * v.2) far) (nxS a1 a2 b1 b2 S far c v) && grd a1 a2 b1 b2 S far (nxS a1 a2 b1 b2 S far c v) V)
theorem nxS_pos {a1 a2 b1 b2 S far : Int} {c : Int × Int} (v : Px) (hc : 0 < c.2) : 0 < (nxS a1 a2 b1 b2 S far c v).2 := latS_pos (latS_pos hc (shrF_pos _ _ _ _)) (shrF_pos _ _ _ _)
theorem nxS_le {a1 a2 b1 b2 S far : Int} {c : Int × Int} {v : Px} {t : Rat} (hc : 0 < c.2) : fS (nxS a1 a2 b1 b2 S far c v) ≤ t ↔ fS c ≤ t ∧ fS (shrF a1 b1 (S * v.1) far) ≤ t ∧ fS (shrF a2 b2 (S * v.2) far) ≤ t := by
  unfold nxS
  rw [latS_le (latS_pos hc (shrF_pos _ _ _ _)) (shrF_pos _ _ _ _), latS_le hc (shrF_pos _ _ _ _), and_assoc]
theorem nrP_shr {a1 a2 b1 b2 S far : Int} {t : Rat} {v : Px} (h0 : 0 ≤ t) (h1 : t ≤ 1) : nrP a1 a2 b1 b2 S (rc far) t v ↔ (fS (shrF a1 b1 (S * v.1) far) ≤ t ∧ t ≤ fS (shrT a1 b1 (S * v.1) far)) ∧ (fS (shrF a2 b2 (S * v.2) far) ≤ t ∧ t ≤ fS (shrT a2 b2 (S * v.2) far)) := by
  rw [shr_in h0 h1, shr_in h0 h1]
  unfold nrP
  have e1 : rc (S * v.1) = rc S * rc v.1 := by simp [rc, Rat.intCast_mul]
  have e2 : rc (S * v.2) = rc S * rc v.2 := by simp [rc, Rat.intCast_mul]
  rw [e1, e2]
/-- to wait as long as may be is as good as any way. -/
theorem grd_iff {a1 a2 b1 b2 S far : Int} : ∀ (V : List Px) (c : Int × Int), 0 < c.2 → 0 ≤ fS c → (grd a1 a2 b1 b2 S far c V = true ↔ fS c ≤ 1 ∧ clF (nrP a1 a2 b1 b2 S (rc far)) (fS c) V)
  | [], c, hc, h0 => by
    unfold grd clF
    rw [Bool.not_eq_true', ahS_no (by decide) hc, show fS (1, 1) = 1 from frq_1]
    exact ⟨fun h => ⟨h, trivial⟩, fun h => h.1⟩
  | v :: V, c, hc, h0 => by
    have hn := nxS_pos (a1 := a1) (a2 := a2) (b1 := b1) (b2 := b2) (S := S) (far := far) v hc
    have hle := fun t => nxS_le (a1 := a1) (a2 := a2) (b1 := b1) (b2 := b2) (S := S) (far := far) (v := v) (t := t) hc
    have hself := (hle (fS (nxS a1 a2 b1 b2 S far c v))).1 Rat.le_refl
    have hn0 : 0 ≤ fS (nxS a1 a2 b1 b2 S far c v) := Rat.le_trans h0 hself.1
    have ih := grd_iff (a1 := a1) (a2 := a2) (b1 := b1) (b2 := b2) (S := S) (far := far) V (nxS a1 a2 b1 b2 S far c v) hn hn0
    unfold grd clF
    rw [Bool.and_eq_true, Bool.and_eq_true, Bool.not_eq_true', Bool.not_eq_true', ahS_no (shrT_pos _ _ _ _) hn, ahS_no (shrT_pos _ _ _ _) hn, ih]
    constructor
    · rintro ⟨g1, g2, g3, g4⟩
      refine ⟨Rat.le_trans hself.1 g3, fS (nxS a1 a2 b1 b2 S far c v), hself.1, g3, ?_, g4⟩
      exact (nrP_shr hn0 g3).2 ⟨⟨hself.2.1, g1⟩, hself.2.2, g2⟩
    · rintro ⟨g0, t, g1, g2, g3, g4⟩
      obtain ⟨⟨p1, p2⟩, p3, p4⟩ := (nrP_shr (Rat.le_trans h0 g1) g2).1 g3
      have hx := (hle t).2 ⟨g1, p1, p3⟩
      exact ⟨Rat.le_trans hx p2, Rat.le_trans hx p4, Rat.le_trans hx g2, clF_less hx g4⟩
/-- what Near tells of one point. -/
theorem neB_pt {a1 a2 c1 c2 far : Int} : neB a1 a2 a1 a2 c1 c2 far = true ↔ rB5 a1 a2 = true ∧ rB5 c1 c2 = true ∧ 0 ≤ far ∧ far ≤ 268435456 ∧ (2 * c1 - far ≤ 2 * a1 ∧ 2 * a1 ≤ 2 * c1 + far) ∧ 2 * c2 - far ≤ 2 * a2 ∧ 2 * a2 ≤ 2 * c2 + far := by
  have hol : ∀ u n d : Int, 0 < d → (Hol u u true n d ↔ 0 ≤ u) := fun u n d hd => by
    unfold Hol
    have e : u * (d - n) + u * n = u * d := by grind
    rw [e]
    constructor
    · intro h
      have : 0 ≤ u * d := by
        rcases h with h | ⟨_, h⟩
        · omega
        · omega
      exact Int.nonneg_of_mul_nonneg_left this hd
    · intro h
      have := Int.mul_nonneg h (show 0 ≤ d by omega)
      rcases Int.lt_or_eq_of_le this with g | g
      · exact .inl g
      · exact .inr ⟨rfl, g.symm⟩
  unfold neB
  simp only [Bool.and_eq_true, Bool.not_eq_true', decide_eq_false_iff_not]
  rw [meB_iff, meR_iff]
  unfold MetB
  constructor
  · rintro ⟨⟨⟨g1, g2⟩, g3⟩, ⟨g4, _⟩, n, d, hd, hn, h1, h2, h3, h4⟩
    have k1 := (hol _ n d hd).1 h1
    have k2 := (hol _ n d hd).1 h2
    have k3 := (hol _ n d hd).1 h3
    have k4 := (hol _ n d hd).1 h4
    exact ⟨g4, g1, by omega, by omega, ⟨by omega, by omega⟩, by omega, by omega⟩
  · rintro ⟨g1, g2, g3, g4, ⟨k1, k2⟩, k3, k4⟩
    have b := rB5_iff.1 g2
    refine ⟨⟨⟨g2, by omega⟩, by omega⟩, ⟨g1, g1, co6_iff.2 ⟨by omega, by omega⟩, co6_iff.2 ⟨by omega, by omega⟩, rfl⟩, 0, 1, by decide, by decide, ?_, ?_, ?_, ?_⟩
    · exact (hol _ 0 1 (by decide)).2 (by omega)
    · exact (hol _ 0 1 (by decide)).2 (by omega)
    · exact (hol _ 0 1 (by decide)).2 (by omega)
    · exact (hol _ 0 1 (by decide)).2 (by omega)
theorem nr_0 {a1 a2 b1 b2 S far : Int} {v : Px} : nrP a1 a2 b1 b2 S (rc far) 0 v ↔ (2 * (S * v.1) - far ≤ 2 * a1 ∧ 2 * a1 ≤ 2 * (S * v.1) + far) ∧ 2 * (S * v.2) - far ≤ 2 * a2 ∧ 2 * a2 ≤ 2 * (S * v.2) + far := by
  unfold nrP nrC
  have e : ∀ a b x : Int, (-rc far ≤ 2 * rc a + 0 * (2 * (rc b - rc a)) - 2 * (rc S * rc x) ↔ 2 * (S * x) - far ≤ 2 * a) ∧ (2 * rc a + 0 * (2 * (rc b - rc a)) - 2 * (rc S * rc x) ≤ rc far ↔ 2 * a ≤ 2 * (S * x) + far) := fun a b x => by
    have e1 : 2 * rc a + 0 * (2 * (rc b - rc a)) - 2 * (rc S * rc x) = rc (2 * a - 2 * (S * x)) := by simp only [rc, Rat.intCast_sub, Rat.intCast_mul]; grind
    rw [e1, show -rc far = rc (-far) by simp [rc, Rat.intCast_neg], rc_le, rc_le]
    exact ⟨by omega, by omega⟩
  rw [(e a1 b1 v.1).1, (e a1 b1 v.1).2, (e a2 b2 v.2).1, (e a2 b2 v.2).2]
theorem nr_1 {a1 a2 b1 b2 S far : Int} {v : Px} : nrP a1 a2 b1 b2 S (rc far) 1 v ↔ (2 * (S * v.1) - far ≤ 2 * b1 ∧ 2 * b1 ≤ 2 * (S * v.1) + far) ∧ 2 * (S * v.2) - far ≤ 2 * b2 ∧ 2 * b2 ≤ 2 * (S * v.2) + far := by
  unfold nrP nrC
  have e : ∀ a b x : Int, (-rc far ≤ 2 * rc a + 1 * (2 * (rc b - rc a)) - 2 * (rc S * rc x) ↔ 2 * (S * x) - far ≤ 2 * b) ∧ (2 * rc a + 1 * (2 * (rc b - rc a)) - 2 * (rc S * rc x) ≤ rc far ↔ 2 * b ≤ 2 * (S * x) + far) := fun a b x => by
    have e1 : 2 * rc a + 1 * (2 * (rc b - rc a)) - 2 * (rc S * rc x) = rc (2 * b - 2 * (S * x)) := by simp only [rc, Rat.intCast_sub, Rat.intCast_mul]; grind
    rw [e1, show -rc far = rc (-far) by simp [rc, Rat.intCast_neg], rc_le, rc_le]
    exact ⟨by omega, by omega⟩
  rw [(e a1 b1 v.1).1, (e a1 b1 v.1).2, (e a2 b2 v.2).1, (e a2 b2 v.2).2]
theorem in_right {r : Nat} {x y : Int} (h : inB r x y = true) : rB5 (2 ^ r * x) (2 ^ r * y) = true := rB5_iff.2 (in_big h)
/-- Close's answer, by what the landed code asks. -/
theorem cloB_grd {a1 a2 b1 b2 far : Int} {r : Nat} {V : List Px} {v w : Px} (hr : r ≤ 28) (hv : V.head? = some v) (hw : V.getLast? = some w) (hin : ∀ v ∈ V, inB r v.1 v.2 = true) :
    cloB a1 a2 b1 b2 r far V = (neB a1 a2 a1 a2 (2 ^ r * v.1) (2 ^ r * v.2) far && (neB b1 b2 b1 b2 (2 ^ r * w.1) (2 ^ r * w.2) far && grd a1 a2 b1 b2 (2 ^ r) far (0, 1) V)) := by
  rw [Bool.eq_iff_iff, Bool.and_eq_true, Bool.and_eq_true, neB_pt, neB_pt, cloB_iff, grd_iff V (0, 1) (by decide) (by rw [show fS (0, 1) = 0 from frq_0]; decide), show fS (0, 1) = 0 from frq_0, Int.toNat_natCast]
  unfold preB cloP
  rw [hv, hw]
  have hne : ¬ V.length = 0 := fun h => by rw [List.eq_nil_of_length_eq_zero h] at hv; cases hv
  have iv := in_right (hin v (List.mem_of_mem_head? hv))
  have iw := in_right (hin w (List.mem_of_getLast? hw))
  have hk : (0 : Int) ≤ r ∧ (r : Int) ≤ 28 := by omega
  simp only [Bool.and_eq_true, decide_eq_true_eq, Bool.not_eq_true', decide_eq_false_iff_not, Option.some.injEq, exists_eq_left', nr_0, nr_1]
  constructor
  · rintro ⟨⟨⟨⟨⟨⟨_, g1⟩, g2⟩, g3⟩, g4⟩, _⟩, _, h1, h2, h3⟩
    exact ⟨⟨g1, iv, g3, g4, h1⟩, ⟨g2, iw, g3, g4, h2⟩, by decide, h3⟩
  · rintro ⟨⟨g1, _, g3, g4, h1⟩, ⟨g2, _, _, _, h2⟩, _, h3⟩
    exact ⟨⟨⟨⟨⟨⟨hk, g1⟩, g2⟩, g3⟩, g4⟩, hne⟩, hin, h1, h2, h3⟩
end Go.Proofs.Ytlglajaonmpljaa

namespace Go.Proofs.Ytlglajaonmpljaa
open Go.RowKit
set_option linter.unusedVariables false
set_option linter.unusedSimpArgs false
def okS (x : Int × Int) : Prop := (-1073741824 ≤ x.1 ∧ x.1 ≤ 1073741824) ∧ 0 < x.2 ∧ x.2 ≤ 1073741824
theorem okS_mul {a b : Int} (ha : -1073741824 ≤ a ∧ a ≤ 1073741824) (hb : 0 < b ∧ b ≤ 1073741824) : -1152921504606846976 ≤ a * b ∧ a * b ≤ 1152921504606846976 := by
  have h1 := Int.mul_le_mul_of_nonneg_right ha.2 (show 0 ≤ b by omega)
  have h2 := Int.mul_le_mul_of_nonneg_right ha.1 (show 0 ≤ b by omega)
  omega
set_option maxRecDepth 100000 in
set_option maxHeartbeats 8000000 in
theorem p_isAhead {x y : Int × Int} (hx : okS x) (hy : okS y) : PCall Try.prog 24 [vP x.1 x.2, vP y.1 y.2] (vB (ahS x y)) := by
  obtain ⟨a, b⟩ := x
  obtain ⟨c, d⟩ := y
  have h1 := okS_mul hx.1 hy.2
  have h2 := okS_mul hy.1 hx.2
  simp only at h1 h2
  have w1 : IntKind.i64.wrap (a * d) = a * d := i64_wrap (by omega)
  have w2 : IntKind.i64.wrap (c * b) = c * b := i64_wrap (by omega)
  clear h1 h2 hx hy
  refine pcall_body (f := 24) Try.func24 rfl rfl rfl rfl ?_
  (repeat (first | ((with_reducible apply al_q); exact rfl) | ((with_reducible apply al_mul); (iterate 3 exact rfl); (first | exact i64_wrap (by omega) | assumption | rfl); exact rfl) | ((with_reducible apply awp_seq)) | ((with_reducible apply athen_normal)) | ((with_reducible apply awp_region)) | ((with_reducible apply al_nil)) | ((with_reducible apply awp_ret))))
  (first | (refine apost_ret rfl (resl_tmp rfl resl_nil) ?_))
  exact AV.Le.refl _
abbrev shC (x : Int × Int) : List AC := [.c (.int .i64 x.1), .c (.int .i64 x.2)]
theorem latS_ok {x y : Int × Int} (hx : okS x) (hy : okS y) : okS (latS x y) := by unfold latS; cases ahS x y <;> assumption
def LtI (l : List Px) (x : Int × Int) (n : Nat) (ts : List (Nat × AV)) (ms : List (Nat × List AC)) : Prop :=
  ∃ (i : Nat) (ii : Int) (c : Int × Int), i ≤ l.length ∧ n = l.length - i ∧ ii = i ∧ okS c ∧ c = (l.take i).foldl latS x ∧ ms = [(2, shC c), (4, [.c (.int .i64 0), .c (.int .i64 0)])] ∧ ts = [(2, vOw 2), (4, vOw 4), (7, vIt l), (8, vI l.length), (9, vI ii)]
set_option maxRecDepth 100000 in
set_option maxHeartbeats 8000000 in
theorem p_latest {x : Int × Int} {l : List Px} (hx : okS x) (hl : ∀ y ∈ l, okS y) (hb : l.length ≤ 1000) : PCall Try.prog 23 [vP x.1 x.2, vIt l] (vP (l.foldl latS x).1 (l.foldl latS x).2) := by
  refine pcall_body (f := 23) Try.func23 rfl rfl rfl rfl ?_
  (repeat (first | ((with_reducible apply al_q); exact rfl) | ((with_reducible apply al_len); (iterate 3 exact rfl)) | ((with_reducible apply awp_seq)) | ((with_reducible apply athen_normal)) | ((with_reducible apply awp_region)) | ((with_reducible apply al_nil)) | ((with_reducible apply awp_block))))
  refine awp_loopL 19 (LtI l x) l.length _ [(2, shC x), (4, [.c (.int .i64 0), .c (.int .i64 0)])] ⟨0, 0, x, Nat.zero_le _, rfl, rfl, hx, rfl, rfl, rfl⟩ rfl ⟨rfl, rfl, rfl, rfl, rfl, trivial⟩ ⟨rfl, rfl, trivial⟩ rfl ?_
  rintro n ts ms ⟨i, ii, c, hi, rfl, hii, hc, hce, rfl, rfl⟩ hok
  clear hok
  by_cases hq : i < l.length
  · have q2 : ii < (l.length : Int) := by omega
    have q3 : 0 ≤ ii := by omega
    obtain ⟨y1, y2, g1⟩ : ∃ y1 y2, l[i]? = some (y1, y2) := ⟨_, _, List.getElem?_eq_getElem hq⟩
    have E1 := itC_xy hii g1
    have ho := hl _ (List.mem_of_getElem? g1)
    have C1 := p_isAhead hc ho
    have ht : (l.take (i + 1)).foldl latS x = latS c (y1, y2) := by
      rw [List.take_succ_eq_append_getElem hq, (List.getElem?_eq_some_iff.1 g1).2, List.foldl_append, ← hce]; rfl
    have hn := latS_ok hc ho
    unfold latS at hn ht
    clear hce
    obtain ⟨c1, c2⟩ := c
    cases ha : ahS (c1, c2) (y1, y2) with
    | false =>
      rw [ha] at C1 hn ht
      (repeat (first | ((with_reducible apply al_q); exact rfl) | ((with_reducible apply al_loadPN); (iterate 5 exact rfl)) | ((with_reducible apply al_idxS); (iterate 3 exact rfl); (first | decide | omega); (first | decide | omega); (first | assumption | rfl); exact rfl) | ((with_reducible apply al_add); (iterate 3 exact rfl); (first | exact i64_wrap (by omega) | assumption | rfl); exact rfl) | (refine al_call2 rfl rfl rfl rfl (by (first | exact C1)) rfl ?_) | ((with_reducible apply awp_seq)) | ((with_reducible apply athen_normal)) | ((with_reducible apply awp_region)) | ((with_reducible apply al_nil)) | ((with_reducible apply awp_skip)) | ((with_reducible apply awp_block)) | ((with_reducible apply ablock_normal)) | ((with_reducible apply awp_cond_f); exact rfl) | ((with_reducible apply awp_cond_1); exact rfl; (first | assumption | exact decide_eq_true (by omega) | (simp only [Bool.not_eq_true', decide_eq_false_iff_not, decide_eq_true_eq, Bool.not_eq_false']; (first | done | omega))))))
      exact ⟨l.length - (i + 1), _, [(2, shC (c1, c2)), (4, [.c (.int .i64 0), .c (.int .i64 0)])], by omega, ⟨i + 1, ii + 1, (c1, c2), by omega, rfl, by omega, hn, ht.symm, rfl, rfl⟩, rfl, ⟨rfl, rfl, rfl, rfl, rfl, trivial⟩, ⟨rfl, rfl, trivial⟩, rfl⟩
    | true =>
      rw [ha] at C1 hn ht
      (repeat (first | ((with_reducible apply al_q); exact rfl) | ((with_reducible apply al_loadPN); (iterate 5 exact rfl)) | ((with_reducible apply al_idxS); (iterate 3 exact rfl); (first | decide | omega); (first | decide | omega); (first | assumption | rfl); exact rfl) | ((with_reducible apply al_add); (iterate 3 exact rfl); (first | exact i64_wrap (by omega) | assumption | rfl); exact rfl) | (refine al_call2 rfl rfl rfl rfl (by (first | exact C1)) rfl ?_) | ((with_reducible apply awp_seq)) | ((with_reducible apply athen_normal)) | ((with_reducible apply awp_region)) | ((with_reducible apply al_nil)) | ((with_reducible apply awp_skip)) | ((with_reducible apply awp_block)) | ((with_reducible apply ablock_normal)) | ((with_reducible apply awp_cond_t); exact rfl) | ((with_reducible apply awp_cond_1); exact rfl; (first | assumption | exact decide_eq_true (by omega) | (simp only [Bool.not_eq_true', decide_eq_false_iff_not, decide_eq_true_eq, Bool.not_eq_false']; (first | done | omega))))))
      exact ⟨l.length - (i + 1), _, [(2, shC (y1, y2)), (4, [.c (.int .i64 0), .c (.int .i64 0)])], by omega, ⟨i + 1, ii + 1, (y1, y2), by omega, rfl, by omega, hn, ht.symm, rfl, rfl⟩, rfl, ⟨rfl, rfl, rfl, rfl, rfl, trivial⟩, ⟨rfl, rfl, trivial⟩, rfl⟩
  · have q2 : ¬ ii < (l.length : Int) := by omega
    rw [List.take_of_length_le (by omega)] at hce
    rw [← hce]
    (repeat (first | ((with_reducible apply al_q); exact rfl) | ((with_reducible apply awp_seq)) | ((with_reducible apply athen_normal)) | ((with_reducible apply awp_region)) | ((with_reducible apply al_nil)) | ((with_reducible apply awp_ret)) | ((with_reducible apply ablock_same)) | ((with_reducible apply awp_exit)) | ((with_reducible apply athen_exit)) | ((with_reducible apply awp_cond_0); exact rfl; (first | assumption | exact decide_eq_false (by omega) | (simp only [Bool.not_eq_true', decide_eq_false_iff_not, decide_eq_true_eq, Bool.not_eq_false']; (first | done | omega))))))
    (first | (refine apost_ret rfl (resl_agg rfl rfl rfl resl_nil) ?_) | (refine apost_ret rfl (resl_one rfl rfl rfl resl_nil) ?_))
    exact AV.Le.refl _
set_option maxRecDepth 100000 in
set_option maxHeartbeats 8000000 in
theorem p_stretch {p q m far : Int} (hp : -134217728 ≤ p ∧ p ≤ 134217728) (hq : -134217728 ≤ q ∧ q ≤ 134217728) (hm : -134217728 ≤ m ∧ m ≤ 134217728) (hf : 0 ≤ far ∧ far ≤ 268435456) : PCall Try.prog 22 [vI p, vI q, vI m, vI far] (.tup [.agg (shC (shrF p q m far)), .agg (shC (shrT p q m far))]) := by
  unfold shrF shrT
  by_cases c1 : 2 * (q - p) > 0
  · rw [if_pos c1, if_pos c1]
    refine pcall_body (f := 22) Try.func22 rfl rfl rfl rfl ?_
    (repeat (first | ((with_reducible apply al_q); exact rfl) | ((with_reducible apply al_add); (iterate 3 exact rfl); (first | exact i64_wrap (by omega) | assumption | rfl); exact rfl) | ((with_reducible apply al_sub); (iterate 3 exact rfl); (first | exact i64_wrap (by omega) | assumption | rfl); exact rfl) | ((with_reducible apply al_mul); (iterate 3 exact rfl); (first | exact i64_wrap (by omega) | assumption | rfl); exact rfl) | ((with_reducible apply awp_seq)) | ((with_reducible apply athen_normal)) | ((with_reducible apply awp_region)) | ((with_reducible apply al_nil)) | ((with_reducible apply awp_ret)) | ((with_reducible apply athen_ret)) | ((with_reducible apply awp_block)) | ((with_reducible apply ablock_ret)) | ((with_reducible apply awp_cond_1); exact rfl; (first | assumption | exact decide_eq_true (by omega) | (simp only [Bool.not_eq_true', decide_eq_false_iff_not, decide_eq_true_eq, Bool.not_eq_false']; (first | done | omega))))))
    (first | (refine apost_ret rfl (resl_agg rfl rfl rfl (resl_agg rfl rfl rfl resl_nil)) ?_) | (refine apost_ret rfl (resl_one rfl rfl rfl (resl_agg rfl rfl rfl resl_nil)) ?_) | (refine apost_ret rfl (resl_agg rfl rfl rfl (resl_one rfl rfl rfl resl_nil)) ?_) | (refine apost_ret rfl (resl_one rfl rfl rfl (resl_one rfl rfl rfl resl_nil)) ?_))
    exact AV.Le.refl _
  · rw [if_neg c1, if_neg c1]
    by_cases c2 : 2 * (q - p) < 0
    · rw [if_pos c2, if_pos c2]
      refine pcall_body (f := 22) Try.func22 rfl rfl rfl rfl ?_
      (repeat (first | ((with_reducible apply al_q); exact rfl) | ((with_reducible apply al_add); (iterate 3 exact rfl); (first | exact i64_wrap (by omega) | assumption | rfl); exact rfl) | ((with_reducible apply al_sub); (iterate 3 exact rfl); (first | exact i64_wrap (by omega) | assumption | rfl); exact rfl) | ((with_reducible apply al_mul); (iterate 3 exact rfl); (first | exact i64_wrap (by omega) | assumption | rfl); exact rfl) | ((with_reducible apply al_neg); exact rfl; exact rfl; (first | exact i64_wrap (by omega) | assumption | rfl); exact rfl) | ((with_reducible apply awp_seq)) | ((with_reducible apply athen_normal)) | ((with_reducible apply awp_region)) | ((with_reducible apply al_nil)) | ((with_reducible apply awp_ret)) | ((with_reducible apply athen_ret)) | ((with_reducible apply awp_block)) | ((with_reducible apply ablock_ret)) | ((with_reducible apply awp_cond_1); exact rfl; (first | assumption | exact decide_eq_true (by omega) | (simp only [Bool.not_eq_true', decide_eq_false_iff_not, decide_eq_true_eq, Bool.not_eq_false']; (first | done | omega)))) | ((with_reducible apply awp_cond_0); exact rfl; (first | assumption | exact decide_eq_false (by omega) | (simp only [Bool.not_eq_true', decide_eq_false_iff_not, decide_eq_true_eq, Bool.not_eq_false']; (first | done | omega))))))
      (first | (refine apost_ret rfl (resl_agg rfl rfl rfl (resl_agg rfl rfl rfl resl_nil)) ?_) | (refine apost_ret rfl (resl_one rfl rfl rfl (resl_agg rfl rfl rfl resl_nil)) ?_) | (refine apost_ret rfl (resl_agg rfl rfl rfl (resl_one rfl rfl rfl resl_nil)) ?_) | (refine apost_ret rfl (resl_one rfl rfl rfl (resl_one rfl rfl rfl resl_nil)) ?_))
      exact AV.Le.refl _
    · rw [if_neg c2, if_neg c2]
      by_cases c3 : 2 * (m - p) - far > 0
      · rw [if_pos (.inl c3), if_pos (.inl c3)]
        refine pcall_body (f := 22) Try.func22 rfl rfl rfl rfl ?_
        (repeat (first | ((with_reducible apply al_q); exact rfl) | ((with_reducible apply al_add); (iterate 3 exact rfl); (first | exact i64_wrap (by omega) | assumption | rfl); exact rfl) | ((with_reducible apply al_sub); (iterate 3 exact rfl); (first | exact i64_wrap (by omega) | assumption | rfl); exact rfl) | ((with_reducible apply al_mul); (iterate 3 exact rfl); (first | exact i64_wrap (by omega) | assumption | rfl); exact rfl) | ((with_reducible apply awp_seq)) | ((with_reducible apply athen_normal)) | ((with_reducible apply awp_region)) | ((with_reducible apply al_nil)) | ((with_reducible apply awp_ret)) | ((with_reducible apply awp_skip)) | ((with_reducible apply athen_ret)) | ((with_reducible apply awp_block)) | ((with_reducible apply ablock_ret)) | ((with_reducible apply awp_cond_1); exact rfl; (first | assumption | exact decide_eq_true (by omega) | (simp only [Bool.not_eq_true', decide_eq_false_iff_not, decide_eq_true_eq, Bool.not_eq_false']; (first | done | omega)))) | ((with_reducible apply awp_cond_0); exact rfl; (first | assumption | exact decide_eq_false (by omega) | (simp only [Bool.not_eq_true', decide_eq_false_iff_not, decide_eq_true_eq, Bool.not_eq_false']; (first | done | omega))))))
        (first | (refine apost_ret rfl (resl_agg rfl rfl rfl (resl_agg rfl rfl rfl resl_nil)) ?_) | (refine apost_ret rfl (resl_one rfl rfl rfl (resl_agg rfl rfl rfl resl_nil)) ?_) | (refine apost_ret rfl (resl_agg rfl rfl rfl (resl_one rfl rfl rfl resl_nil)) ?_) | (refine apost_ret rfl (resl_one rfl rfl rfl (resl_one rfl rfl rfl resl_nil)) ?_))
        exact AV.Le.refl _
      · by_cases c4 : 2 * (m - p) + far < 0
        · rw [if_pos (.inr c4), if_pos (.inr c4)]
          refine pcall_body (f := 22) Try.func22 rfl rfl rfl rfl ?_
          (repeat (first | ((with_reducible apply al_q); exact rfl) | ((with_reducible apply al_add); (iterate 3 exact rfl); (first | exact i64_wrap (by omega) | assumption | rfl); exact rfl) | ((with_reducible apply al_sub); (iterate 3 exact rfl); (first | exact i64_wrap (by omega) | assumption | rfl); exact rfl) | ((with_reducible apply al_mul); (iterate 3 exact rfl); (first | exact i64_wrap (by omega) | assumption | rfl); exact rfl) | ((with_reducible apply awp_seq)) | ((with_reducible apply athen_normal)) | ((with_reducible apply awp_region)) | ((with_reducible apply al_nil)) | ((with_reducible apply awp_ret)) | ((with_reducible apply athen_ret)) | ((with_reducible apply awp_block)) | ((with_reducible apply ablock_ret)) | ((with_reducible apply awp_cond_1); exact rfl; (first | assumption | exact decide_eq_true (by omega) | (simp only [Bool.not_eq_true', decide_eq_false_iff_not, decide_eq_true_eq, Bool.not_eq_false']; (first | done | omega)))) | ((with_reducible apply awp_cond_0); exact rfl; (first | assumption | exact decide_eq_false (by omega) | (simp only [Bool.not_eq_true', decide_eq_false_iff_not, decide_eq_true_eq, Bool.not_eq_false']; (first | done | omega))))))
          (first | (refine apost_ret rfl (resl_agg rfl rfl rfl (resl_agg rfl rfl rfl resl_nil)) ?_) | (refine apost_ret rfl (resl_one rfl rfl rfl (resl_agg rfl rfl rfl resl_nil)) ?_) | (refine apost_ret rfl (resl_agg rfl rfl rfl (resl_one rfl rfl rfl resl_nil)) ?_) | (refine apost_ret rfl (resl_one rfl rfl rfl (resl_one rfl rfl rfl resl_nil)) ?_))
          exact AV.Le.refl _
        · rw [if_neg (by omega), if_neg (by omega)]
          refine pcall_body (f := 22) Try.func22 rfl rfl rfl rfl ?_
          (repeat (first | ((with_reducible apply al_q); exact rfl) | ((with_reducible apply al_add); (iterate 3 exact rfl); (first | exact i64_wrap (by omega) | assumption | rfl); exact rfl) | ((with_reducible apply al_sub); (iterate 3 exact rfl); (first | exact i64_wrap (by omega) | assumption | rfl); exact rfl) | ((with_reducible apply al_mul); (iterate 3 exact rfl); (first | exact i64_wrap (by omega) | assumption | rfl); exact rfl) | ((with_reducible apply awp_seq)) | ((with_reducible apply athen_normal)) | ((with_reducible apply awp_region)) | ((with_reducible apply al_nil)) | ((with_reducible apply awp_ret)) | ((with_reducible apply awp_skip)) | ((with_reducible apply awp_block)) | ((with_reducible apply ablock_normal)) | ((with_reducible apply awp_cond_0); exact rfl; (first | assumption | exact decide_eq_false (by omega) | (simp only [Bool.not_eq_true', decide_eq_false_iff_not, decide_eq_true_eq, Bool.not_eq_false']; (first | done | omega))))))
          (first | (refine apost_ret rfl (resl_agg rfl rfl rfl (resl_agg rfl rfl rfl resl_nil)) ?_) | (refine apost_ret rfl (resl_one rfl rfl rfl (resl_agg rfl rfl rfl resl_nil)) ?_) | (refine apost_ret rfl (resl_agg rfl rfl rfl (resl_one rfl rfl rfl resl_nil)) ?_) | (refine apost_ret rfl (resl_one rfl rfl rfl (resl_one rfl rfl rfl resl_nil)) ?_))
          exact AV.Le.refl _
theorem shrF_ok {p q m far : Int} (hp : -134217728 ≤ p ∧ p ≤ 134217728) (hq : -134217728 ≤ q ∧ q ≤ 134217728) (hm : -134217728 ≤ m ∧ m ≤ 134217728) (hf : 0 ≤ far ∧ far ≤ 268435456) : okS (shrF p q m far) := by
  unfold okS shrF
  split
  · simp only; omega
  · split
    · simp only; omega
    · split <;> decide
theorem shrT_ok {p q m far : Int} (hp : -134217728 ≤ p ∧ p ≤ 134217728) (hq : -134217728 ≤ q ∧ q ≤ 134217728) (hm : -134217728 ≤ m ∧ m ≤ 134217728) (hf : 0 ≤ far ∧ far ≤ 268435456) : okS (shrT p q m far) := by
  unfold okS shrT
  split
  · simp only; omega
  · split
    · simp only; omega
    · split <;> decide
end Go.Proofs.Ytlglajaonmpljaa

