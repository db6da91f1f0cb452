/-
  Two numbers compared by a function that defers a closure, which calls recover: nothing panics, and the named result is what the comparison told. My own text.
-/
import Derived.Test.YtcplkjnmfdinaaaOrdS
import Derived.Defers
import Derived.Recover
namespace Go.Proofs.Ytcplkjnmfdinaaa
open Go.RowKit
set_option linter.unusedVariables false
set_option linter.unusedSimpArgs false
theorem same1_idle (w : World) : CallsD Try.prog 33 #[] .returning w fun e u' w' => e = .returned (.tuple #[]) ∧ u' = .returning ∧ w' = w := by
  refine callsD_of_wpS Try.func33 rfl fun c₀ cs hu => ?_
  apply wpS_region
  simp [wpOpsS, go_sem, recoverD, hu, Try.ntmps33, Exit.thenS]
  cases c₀
  simp_all [bodyPostS, results, Try.results33]
theorem w_same (x y : Int) (w : World) : Calls Try.prog 27 #[.int .i64 x, .int .i64 y] w fun e w' => e = .returned (.bool (decide (x = y))) ∧ w' = w := by
  go_enter_defers Try.func27, Try.ntmps27
  go_wp2
  refine leaves_cons (f := 33) (args := #[]) (by simp) (by simp [go_sem]) ?_
  refine (same1_idle _).mono ?_
  rintro e u' w'' ⟨rfl, rfl, rfl⟩
  simp [Leaves, settle, results, Try.results27, go_sem]
  by_cases h : x = y <;> simp [h]
theorem p_osame (x y : Int) : PCall Try.prog 27 [vI x, vI y] (vB (decide (x = y))) :=
  pcall_ev [.int .i64 x, .int .i64 y] (.bool (decide (x = y))) rfl rfl rfl rfl rfl fun W => (w_same x y W).mono fun e w' ⟨h1, h2⟩ => ⟨h1, by subst h2; exact Below.refl _ _⟩
end Go.Proofs.Ytcplkjnmfdinaaa
