/-
  cobweblaw04.PlaneOn returns true, for all its arguments. My own text.
-/
import Derived.Test.YtljkapolljgbiaaPlaneL
import Derived.Test.YtljkapolljgbiaaPlaneM
namespace Go.Proofs.Ytljkapolljgbiaa
open Go.RowKit
set_option linter.unusedVariables false
set_option linter.unusedSimpArgs false
theorem imin_comm (a b : Int) : imin a b = imin b a := by unfold imin; split <;> split <;> omega
theorem imax_comm (a b : Int) : imax a b = imax b a := by unfold imax; split <;> split <;> omega
theorem onB_comm (p1 p2 a1 a2 b1 b2 : Int) : onB p1 p2 b1 b2 a1 a2 = onB p1 p2 a1 a2 b1 b2 := by
  unfold onB
  rw [imin_comm b1 a1, imin_comm b2 a2, imax_comm b1 a1, imax_comm b2 a2, cr_swap a1 a2 b1 b2]
  have e : decide (-cr a1 a2 b1 b2 p1 p2 = 0) = decide (cr a1 a2 b1 b2 p1 p2 = 0) := by rw [Bool.eq_iff_iff, decide_eq_true_eq, decide_eq_true_eq]; omega
  rw [e]
  cases rB p1 p2 <;> cases rB a1 a2 <;> cases rB b1 b2 <;> rfl
theorem onB_left (a1 a2 b1 b2 : Int) : onB a1 a2 a1 a2 b1 b2 = (rB a1 a2 && rB b1 b2) := by
  unfold onB
  have e1 : hB (imin a1 b1) (imin a2 b2) (imax a1 b1) (imax a2 b2) a1 a2 = true := by rw [hB_iff]; unfold imin imax; refine ⟨?_, ?_, ?_, ?_⟩ <;> split <;> omega
  have e2 : cr a1 a2 b1 b2 a1 a2 = 0 := by unfold cr; grind
  rw [e1, e2]
  cases rB a1 a2 <;> cases rB b1 b2 <;> rfl
theorem onB_right (a1 a2 b1 b2 : Int) : onB b1 b2 a1 a2 b1 b2 = (rB a1 a2 && rB b1 b2) := by
  rw [← onB_comm, onB_left]
  cases rB a1 a2 <;> cases rB b1 b2 <;> rfl
theorem onB_holds {p1 p2 a1 a2 b1 b2 : Int} (h : onB p1 p2 a1 a2 b1 b2 = true) : hB (imin a1 b1) (imin a2 b2) (imax a1 b1) (imax a2 b2) p1 p2 = true := by
  unfold onB at h
  simp only [Bool.and_eq_true] at h
  exact h.1.2
theorem pon {p1 p2 a1 a2 b1 b2 : Int} : PCall Try.prog 9 [vP p1 p2, vP a1 a2, vP b1 b2] (vB true) :=
  pon_core p_alive4 (p_On rfl) p_r4On (p_On (onB_comm p1 p2 a1 a2 b1 b2)) (p_On (onB_left a1 a2 b1 b2)) (p_On (onB_right a1 a2 b1 b2)) (p_r4Right rfl) (p_r4Right rfl) p_Around (fun h => p_Holds (onB_holds h))
theorem pon_walk (p1 p2 a1 a2 b1 b2 : Int) (W : World) (_ : -9223372036854775808 ≤ p1 ∧ p1 ≤ 9223372036854775807) (_ : -9223372036854775808 ≤ p2 ∧ p2 ≤ 9223372036854775807) (_ : -9223372036854775808 ≤ a1 ∧ a1 ≤ 9223372036854775807) (_ : -9223372036854775808 ≤ a2 ∧ a2 ≤ 9223372036854775807) (_ : -9223372036854775808 ≤ b1 ∧ b1 ≤ 9223372036854775807) (_ : -9223372036854775808 ≤ b2 ∧ b2 ≤ 9223372036854775807) :
    Calls Try.prog 9 #[.agg #[.int .i64 p1, .int .i64 p2], .agg #[.int .i64 a1, .int .i64 a2], .agg #[.int .i64 b1, .int .i64 b2]] W fun e W' => e = .returned (.bool true) ∧ Below W.heap.size W W' :=
  pcall_true pon [_, _, _] rfl rfl W
end Go.Proofs.Ytljkapolljgbiaa
