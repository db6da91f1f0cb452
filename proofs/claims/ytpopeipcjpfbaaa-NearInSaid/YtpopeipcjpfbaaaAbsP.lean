/-
  States without addresses: points and boxes that are compared; the negative, and the rest, of numbers. My own text.
-/
import Derived.Test.YtpopeipcjpfbaaaAbsE
import Derived.Test.YtpopeipcjpfbaaaAbsX
import Derived.ProofKit
import Derived.Laws.StructEq
namespace Go.Proofs.Ytpopeipcjpfbaaa
open Go.RowKit
set_option linter.unusedVariables false
set_option linter.unusedSimpArgs false
section
variable {P : Program} {s : AS} {ops : Array Oper} {K : AS → Prop} {rest : List Oper} {ty : Nat} {pos : String} {after : Array Edge} {guard : Option (Nat × Bool)} {d : Nat}
theorem al_neg {xt : Nat} {x : Operand} {k : IntKind} {a c : Int} (hw : want ops ⟨some d, .unOp .neg xt x, ty, pos, after, guard⟩ s = some true) (hx : s.look x = some (vC (.int k a))) (hc : k.wrap (-a) = c) (hd : Nat.blt d s.n = true) (h : aList P ops K rest (s.put (some d) (vC (.int k c)))) : aList P ops K (⟨some d, .unOp .neg xt x, ty, pos, after, guard⟩ :: rest) s := by
  refine al_un hw hx (fun W => ?_) rfl hd h
  rw [← hc, show -a = 0 - a by omega]
  cases k <;> rfl
theorem al_rem {xt yt : Nat} {x y : Operand} {k : IntKind} {a b : Int} (hw : want ops ⟨some d, .binOp .rem xt x y yt, ty, pos, after, guard⟩ s = some true) (hx : s.look x = some (vC (.int k a))) (hy : s.look y = some (vC (.int k b))) (h0 : 0 ≤ a) (h1 : 0 < b) (hd : Nat.blt d s.n = true) (h : aList P ops K rest (s.put (some d) (vC (.int k (a % b))))) : aList P ops K (⟨some d, .binOp .rem xt x y yt, ty, pos, after, guard⟩ :: rest) s := by
  refine al_int hw hx hy (fun W => ?_) rfl hd h
  have hb : b ≠ 0 := by omega
  have e : a.tmod b = a % b := Int.tmod_eq_emod_of_nonneg h0
  rw [← e]
  cases k <;> simp [binOp, Op.intDiv, hb] <;> rfl
end
/-- two points. -/
abbrev vBx (l1 l2 h1 h2 : Int) : AV := .w (.agg [.c (.int .i64 l1), .c (.int .i64 l2), .c (.int .i64 h1), .c (.int .i64 h2)])
/-- are two points the same? -/
def eqP (a b c d : Int) : Bool := decide (a = c) && decide (b = d)
theorem eqP_iff {a b c d : Int} : eqP a b c d = true ↔ a = c ∧ b = d := by unfold eqP; rw [Bool.and_eq_true, decide_eq_true_eq, decide_eq_true_eq]
def eqB (a b c d a' b' c' d' : Int) : Bool := eqP a b a' b' && eqP c d c' d'
class EqP (P : Program) (t : TypeId) : Prop where
  g : P.eqGuardType P.depth t = false
  h : ∀ (a b c d : Int) W, (Op.equalIn 10000 t (.agg #[.int .i64 a, .int .i64 b]) (.agg #[.int .i64 c, .int .i64 d])).run P W = .ok (eqP a b c d) W
class EqB (P : Program) (t : TypeId) : Prop where
  g : P.eqGuardType P.depth t = false
  h : ∀ (a b c d a' b' c' d' : Int) W, (Op.equalIn 10000 t (.agg #[.int .i64 a, .int .i64 b, .int .i64 c, .int .i64 d]) (.agg #[.int .i64 a', .int .i64 b', .int .i64 c', .int .i64 d'])).run P W = .ok (eqB a b c d a' b' c' d') W
theorem eqg_agg {P : Program} {op : BinOp} {t : TypeId} {x y : Operand} {u v : Array Value} {W : World} (hg : P.eqGuardType P.depth t = false) : (eqGuard op t x y (.agg u) (.agg v)).run P W = .ok () W := by
  unfold eqGuard
  cases op <;> first | rfl | simp [Sem.run_bind, program, Sem.run, Result.andThen, hg]
section
variable {P : Program} {s : AS} {ops : Array Oper} {K : AS → Prop} {rest : List Oper} {ty : Nat} {pos : String} {after : Array Edge} {guard : Option (Nat × Bool)} {d : Nat}
theorem al_eqP {t yt : Nat} {x y : Operand} {a b a' b' : Int} [E : EqP P t] (hw : want ops ⟨some d, .binOp .eql t x y yt, ty, pos, after, guard⟩ s = some true) (hx : s.look x = some (vP a b)) (hy : s.look y = some (vP a' b')) (hd : Nat.blt d s.n = true) (h : aList P ops K rest (s.put (some d) (vB (eqP a b a' b')))) : aList P ops K (⟨some d, .binOp .eql t x y yt, ty, pos, after, guard⟩ :: rest) s :=
  al_bin hw hx hy rfl rfl (fun W => eqg_agg E.g) (fun W => by rw [run_eql_struct, E.h]; rfl) rfl hd h
theorem al_neqP {t yt : Nat} {x y : Operand} {a b a' b' : Int} [E : EqP P t] (hw : want ops ⟨some d, .binOp .neq t x y yt, ty, pos, after, guard⟩ s = some true) (hx : s.look x = some (vP a b)) (hy : s.look y = some (vP a' b')) (hd : Nat.blt d s.n = true) (h : aList P ops K rest (s.put (some d) (vB (!eqP a b a' b')))) : aList P ops K (⟨some d, .binOp .neq t x y yt, ty, pos, after, guard⟩ :: rest) s :=
  al_bin hw hx hy rfl rfl (fun W => eqg_agg E.g) (fun W => by rw [run_neq_struct, E.h]; rfl) rfl hd h
theorem al_eqB {t yt : Nat} {x y : Operand} {a b c e a' b' c' e' : Int} [E : EqB P t] (hw : want ops ⟨some d, .binOp .eql t x y yt, ty, pos, after, guard⟩ s = some true) (hx : s.look x = some (vBx a b c e)) (hy : s.look y = some (vBx a' b' c' e')) (hd : Nat.blt d s.n = true) (h : aList P ops K rest (s.put (some d) (vB (eqB a b c e a' b' c' e')))) : aList P ops K (⟨some d, .binOp .eql t x y yt, ty, pos, after, guard⟩ :: rest) s :=
  al_bin hw hx hy rfl rfl (fun W => eqg_agg E.g) (fun W => by rw [run_eql_struct, E.h]; rfl) rfl hd h
end
theorem eqPx_run (a b c d : Int) (W : World) : (Op.equalIn 10000 35 (.agg #[.int .i64 a, .int .i64 b]) (.agg #[.int .i64 c, .int .i64 d])).run Try.prog W = .ok (eqP a b c d) W := by
  unfold eqP
  go_simp
  by_cases h1 : a = c <;> by_cases h2 : b = d <;> simp [h1, h2]
instance : EqP Try.prog 35 := ⟨by kernel_rfl, eqPx_run⟩
theorem eqPr_run (a b c d : Int) (W : World) : (Op.equalIn 10000 29 (.agg #[.int .i64 a, .int .i64 b]) (.agg #[.int .i64 c, .int .i64 d])).run Try.prog W = .ok (eqP a b c d) W := by
  unfold eqP
  go_simp
  by_cases h1 : a = c <;> by_cases h2 : b = d <;> simp [h1, h2]
instance : EqP Try.prog 29 := ⟨by kernel_rfl, eqPr_run⟩
end Go.Proofs.Ytpopeipcjpfbaaa
