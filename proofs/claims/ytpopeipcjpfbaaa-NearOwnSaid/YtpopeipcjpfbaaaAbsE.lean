/-
  States without addresses: values that are known exactly. My own text.
-/
import Derived.Test.YtpopeipcjpfbaaaAbsS
namespace Go.Proofs.Ytpopeipcjpfbaaa
open Go.RowKit
set_option linter.unusedVariables false
set_option linter.unusedSimpArgs false
/-! exact values -/
def okW (x : AW) : Bool := x.cells.all fun y => match y with | .c v => v.oneCell' | _ => true
def exactT : List AW → Option (List Value)
  | [] => some []
  | x :: xs => match exactW x, exactT xs with
    | some v, some r => some (v :: r)
    | _, _ => none
def exactV : AV → Option Value
  | .w x => exactW x
  | .tup xs => match exactT xs with
    | some r => some (.tuple r.toArray)
    | none => none
def okV : AV → Bool
  | .w x => okW x
  | .tup xs => xs.all okW
section
variable {U : Nat → Prop} {ρ : Nat → Nat} {W : World}
theorem rpL_exact : ∀ (xs : List AC) (r : List Value), exactL xs = some r → (xs.all fun y => match y with | .c v => v.oneCell' | _ => true) = true → RpL U ρ W xs r
  | [], r, h, _ => by cases h; exact ⟨rfl, fun i x v h => by simp at h⟩
  | .c v :: xs, r, h, ok => by
    simp only [exactL] at h
    split at h
    · rename_i r' hr
      cases h
      simp only [List.all_cons, Bool.and_eq_true] at ok
      have ih := rpL_exact xs r' hr ok.2
      refine ⟨by simp [ih.1], fun i x u hx hu => ?_⟩
      cases i with
      | zero => simp at hx hu; subst hx; subst hu; exact ⟨rfl, ok.1⟩
      | succ i => exact ih.2 i x u (by simpa using hx) (by simpa using hu)
    · cases h
  | .own _ _ :: _, _, h, _ => by cases h
  | .p _ :: _, _, h, _ => by cases h
theorem rpW_exact {x : AW} {u : Value} (h : exactW x = some u) (ok : okW x = true) : RpW U ρ W x u := by
  cases x with
  | one y => cases y with
    | c v => cases h; simp [okW, AW.cells] at ok; exact ⟨rfl, ok⟩
    | own => cases h
    | p => cases h
  | agg xs =>
    simp only [exactW] at h
    split at h
    · rename_i r hr; cases h; exact ⟨r, rfl, rpL_exact xs r hr ok⟩
    · cases h
theorem rpT_exact : ∀ (xs : List AW) (r : List Value), exactT xs = some r → xs.all okW = true → xs.length = r.length ∧ ∀ (i : Nat) (x : AW) (v : Value), xs[i]? = some x → r[i]? = some v → RpW U ρ W x v
  | [], r, h, _ => by cases h; exact ⟨rfl, fun i x v h => by simp at h⟩
  | x :: xs, r, h, ok => by
    simp only [exactT] at h
    split at h
    · rename_i v r' hv hr
      cases h
      simp only [List.all_cons, Bool.and_eq_true] at ok
      obtain ⟨h1, h2⟩ := rpT_exact xs r' hr ok.2
      refine ⟨by simp [h1], fun i y u hy hu => ?_⟩
      cases i with
      | zero => simp at hy hu; subst hy; subst hu; exact rpW_exact hv ok.1
      | succ i => exact h2 i y u (by simpa using hy) (by simpa using hu)
    · cases h
theorem rpV_exact {x : AV} {u : Value} (h : exactV x = some u) (ok : okV x = true) : RpV U ρ W x u := by
  cases x with
  | w y => exact rpW_exact h ok
  | tup xs =>
    simp only [exactV] at h
    split at h
    · rename_i r hr; cases h; exact ⟨r, rfl, rpT_exact xs r hr ok⟩
    · cases h
end
/-- a call of which arguments and result are known by their values. -/
theorem pcall_ev {P : Program} {f : FuncId} {args : List AV} {r : AV} (vals : List Value) (rv : Value) (he : args.map (fun x => match x with | .w y => exactW y | _ => none) = vals.map some) (hr : exactV r = some rv) (ca : args.all AV.closedB = true) (cr : r.closedB = true) (ok : okV r = true)
    (h : ∀ W, Calls P f vals.toArray W fun e W' => e = .returned rv ∧ Below W.heap.size W W') : PCall P f args r :=
  pcall_vals vals he ca cr fun W => (h W).mono fun e w' ⟨h1, h2⟩ => ⟨rv, h1, fun _ _ => rpV_exact hr ok, h2⟩
end Go.Proofs.Ytpopeipcjpfbaaa
