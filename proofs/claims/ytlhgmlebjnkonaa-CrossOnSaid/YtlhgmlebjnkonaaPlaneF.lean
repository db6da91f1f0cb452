/-
  cobweblaw04.PlaneParts returns true, for all their arguments. My own text.
-/
import Derived.Test.YtlhgmlebjnkonaaPlaneE
namespace Go.Proofs.Ytlhgmlebjnkonaa
open Go.RowKit
set_option linter.unusedVariables false
set_option linter.unusedSimpArgs false
theorem cr_parts (p1 p2 a1 a2 b1 b2 c1 c2 : Int) : cr p1 p2 a1 a2 b1 b2 + cr p1 p2 b1 b2 c1 c2 + cr p1 p2 c1 c2 a1 a2 = cr a1 a2 b1 b2 c1 c2 := by unfold cr; grind
theorem cr_turn (a1 a2 b1 b2 c1 c2 : Int) : cr b1 b2 c1 c2 a1 a2 = cr a1 a2 b1 b2 c1 c2 := by unfold cr; grind
theorem cr_swap (a1 a2 b1 b2 c1 c2 : Int) : cr b1 b2 a1 a2 c1 c2 = -cr a1 a2 b1 b2 c1 c2 := by unfold cr; grind
theorem cr_swap2 (a1 a2 b1 b2 c1 c2 : Int) : cr a1 a2 c1 c2 b1 b2 = -cr a1 a2 b1 b2 c1 c2 := by unfold cr; grind
theorem cr_move (a1 a2 b1 b2 c1 c2 x y : Int) : cr (a1 + x) (a2 + y) (b1 + x) (b2 + y) (c1 + x) (c2 + y) = cr a1 a2 b1 b2 c1 c2 := by unfold cr; grind
theorem crV_right {a1 a2 b1 b2 c1 c2 : Int} (h1 : rB a1 a2 = true) (h2 : rB b1 b2 = true) (h3 : rB c1 c2 = true) : crV a1 a2 b1 b2 c1 c2 = cr a1 a2 b1 b2 c1 c2 := by unfold crV; simp [h1, h2, h3]
theorem crV_turn (a1 a2 b1 b2 c1 c2 : Int) : crV b1 b2 c1 c2 a1 a2 = crV a1 a2 b1 b2 c1 c2 := by
  unfold crV
  rw [cr_turn a1 a2]
  cases rB a1 a2 <;> cases rB b1 b2 <;> cases rB c1 c2 <;> rfl
theorem crV_swap (a1 a2 b1 b2 c1 c2 : Int) : crV b1 b2 a1 a2 c1 c2 = -crV a1 a2 b1 b2 c1 c2 := by
  unfold crV
  rw [cr_swap a1 a2]
  cases rB a1 a2 <;> cases rB b1 b2 <;> cases rB c1 c2 <;> simp
theorem crV_swap2 (a1 a2 b1 b2 c1 c2 : Int) : crV a1 a2 c1 c2 b1 b2 = -crV a1 a2 b1 b2 c1 c2 := by
  unfold crV
  rw [cr_swap2 a1 a2]
  cases rB a1 a2 <;> cases rB b1 b2 <;> cases rB c1 c2 <;> simp
abbrev vP3 (a1 a2 b1 b2 c1 c2 : Int) : AV := .w (.agg [.c (.int .i64 a1), .c (.int .i64 a2), .c (.int .i64 b1), .c (.int .i64 b2), .c (.int .i64 c1), .c (.int .i64 c2)])
end Go.Proofs.Ytlhgmlebjnkonaa
