/-
  cobweblaw04.PlaneAround returns true, for all its arguments. My own text.
-/
import Derived.Test.YtljkapolljgbiaaPlaneIa
import Derived.Test.YtljkapolljgbiaaPlaneIb
import Derived.Test.YtljkapolljgbiaaPlaneIc
namespace Go.Proofs.Ytljkapolljgbiaa
open Go.RowKit
set_option linter.unusedVariables false
set_option linter.unusedSimpArgs false
set_option maxRecDepth 100000 in
theorem paround_core {a1 a2 b1 b2 l1 l2 h1 h2 w : Int} (A1 : PCall Try.prog 27 [] (vB true)) (K1 : PCall Try.prog 37 [vP a1 a2, vP b1 b2] (vBx l1 l2 h1 h2)) (K2 : PCall Try.prog 37 [vP b1 b2, vP a1 a2] (vBx l1 l2 h1 h2))
    (H1 : PCall Try.prog 36 [vBx l1 l2 h1 h2, vP a1 a2] (vB true)) (H2 : PCall Try.prog 36 [vBx l1 l2 h1 h2, vP b1 b2] (vB true)) (P1 : PCall Try.prog 40 [vP a1 a2, vP b1 b2] (vI w)) (P2 : PCall Try.prog 40 [vP b1 b2, vP a1 a2] (vI (-w))) (q : eqB l1 l2 h1 h2 l1 l2 h1 h2 = true)
    (c1 : (a1 < b1 ∧ l1 = a1 ∧ h1 = b1) ∨ (a1 = b1 ∧ l1 = a1 ∧ h1 = a1) ∨ (b1 < a1 ∧ l1 = b1 ∧ h1 = a1)) (c2 : (a2 < b2 ∧ l2 = a2 ∧ h2 = b2) ∨ (a2 = b2 ∧ l2 = a2 ∧ h2 = a2) ∨ (b2 < a2 ∧ l2 = b2 ∧ h2 = a2))
    (hw : (w = -1 ∧ (a1 < b1 ∨ (a1 = b1 ∧ a2 < b2))) ∨ (w = 0 ∧ a1 = b1 ∧ a2 = b2 ∧ (!eqP a1 a2 b1 b2) = false) ∨ (w = 1 ∧ ((a1 = b1 ∧ b2 < a2) ∨ b1 < a1) ∧ (!eqP a1 a2 b1 b2) = true)) : PCall Try.prog 11 [vP a1 a2, vP b1 b2] (vB true) := by
  rcases c1 with c1 | c1 | c1
  · exact paround_a A1 K1 K2 H1 H2 P1 P2 q c1 c2 hw
  · exact paround_b A1 K1 K2 H1 H2 P1 P2 q c1 c2 hw
  · exact paround_c A1 K1 K2 H1 H2 P1 P2 q c1 c2 hw
theorem pc_swap (a1 a2 b1 b2 : Int) : pc b1 b2 a1 a2 = -pc a1 a2 b1 b2 := by
  unfold pc eqP
  by_cases h1 : a1 = b1 <;> by_cases h2 : a2 = b2 <;> simp [h1, h2, eq_comm]
  all_goals (repeat' split) <;> omega
theorem paround (a1 a2 b1 b2 : Int) : PCall Try.prog 11 [vP a1 a2, vP b1 b2] (vB true) := by
  refine paround_core (l1 := imin a1 b1) (l2 := imin a2 b2) (h1 := imax a1 b1) (h2 := imax a2 b2) (w := pc a1 a2 b1 b2) p_alive4 p_Around ?_ (p_Holds ?_) (p_Holds ?_) p_pCmp ?_ ?_ ?_ ?_ ?_
  · have := p_Around (a1 := b1) (a2 := b2) (b1 := a1) (b2 := a2)
    have e1 : imin b1 a1 = imin a1 b1 := by unfold imin; split <;> split <;> omega
    have e2 : imin b2 a2 = imin a2 b2 := by unfold imin; split <;> split <;> omega
    have e3 : imax b1 a1 = imax a1 b1 := by unfold imax; split <;> split <;> omega
    have e4 : imax b2 a2 = imax a2 b2 := by unfold imax; split <;> split <;> omega
    rwa [e1, e2, e3, e4] at this
  · rw [hB_iff]; unfold imin imax; refine ⟨?_, ?_, ?_, ?_⟩ <;> split <;> omega
  · rw [hB_iff]; unfold imin imax; refine ⟨?_, ?_, ?_, ?_⟩ <;> split <;> omega
  · have := p_pCmp (a := b1) (b := b2) (c := a1) (d := a2); rwa [pc_swap a1 a2] at this
  · unfold eqB; rw [eqP_iff.2 ⟨rfl, rfl⟩, eqP_iff.2 ⟨rfl, rfl⟩]; rfl
  · unfold imin imax; split <;> split <;> omega
  · unfold imin imax; split <;> split <;> omega
  · unfold pc
    cases h : eqP a1 a2 b1 b2 with
    | true => have := eqP_iff.1 h; simp; omega
    | false =>
      have : ¬ (a1 = b1 ∧ a2 = b2) := fun hh => by rw [eqP_iff.2 hh] at h; cases h
      by_cases k : a1 < b1 ∨ (a1 = b1 ∧ a2 < b2)
      · simp [k]
      · simp [k]; omega
theorem paround_walk (a1 a2 b1 b2 : Int) (W : World) (_ : -9223372036854775808 ≤ a1 ∧ a1 ≤ 9223372036854775807) (_ : -9223372036854775808 ≤ a2 ∧ a2 ≤ 9223372036854775807) (_ : -9223372036854775808 ≤ b1 ∧ b1 ≤ 9223372036854775807) (_ : -9223372036854775808 ≤ b2 ∧ b2 ≤ 9223372036854775807) :
    Calls Try.prog 11 #[.agg #[.int .i64 a1, .int .i64 a2], .agg #[.int .i64 b1, .int .i64 b2]] W fun e W' => e = .returned (.bool true) ∧ Below W.heap.size W W' :=
  pcall_true (paround a1 a2 b1 b2) [_, _] rfl rfl W
end Go.Proofs.Ytljkapolljgbiaa
