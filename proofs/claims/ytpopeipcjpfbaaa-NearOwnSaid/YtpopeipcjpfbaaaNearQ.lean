/-
  Rows of pixels with a value each, that are handed in. My own text.
-/
import Derived.Test.YtpopeipcjpfbaaaNearA
import Derived.Test.YtpopeipcjpfbaaaAbsQr
namespace Go.Proofs.Ytpopeipcjpfbaaa
open Go.ChangeShapes Go.WideShapes Go.ChangeAt Go.RowKit Go.Joins
set_option linter.unusedVariables false
theorem laidOut : laidOutB Try.prog = true := by kernel_rfl
theorem flC_en : ∀ (L : List (List Int)), (∀ x ∈ L, x.length = 3) → ∃ l : List Ent, l.length = L.length ∧ flC L = enC l
  | [], _ => ⟨[], rfl, rfl⟩
  | x :: L, h => by
    obtain ⟨l, h1, h2⟩ := flC_en L fun y hy => h y (by simp [hy])
    have hx := h x (by simp)
    match x, hx with
    | [a, b, c], _ => exact ⟨(a, b, c) :: l, by simp [h1], by unfold flC at *; simp only [List.flatten_cons, List.map_append, h2, enC]; rfl⟩
theorem open_ents {H : Type} {enc : TypeId × Value → H} {P : Program} {W : World} {t e : TypeId} (ht : P.underlying t = some (.slice e)) (ce : P.cellsOf e = 3)
    (hel : ∀ (n : Nat) (cs : List Value) d, DataW.trod enc P W 0 (fun _ => true) true n e cs = some d → ∃ x y v : Int, cs = [.int .i64 x, .int .i64 y, .int .i64 v])
    {v : Value} {d : DataW H} {p : List MemPlace} (hv : ∃ a len cap, v = .slice a len cap) (h0 : DataW.Trod enc P W 0 (fun _ => true) true t v d p) :
    ∃ l : List Ent, (l.length : Int) ≤ 9223372036854775807 ∧ RpV (fun _ => True) id W (vEn l) v := by
  obtain ⟨L, h1, h2, h3⟩ := open_flat 3 ht ce (fun n cs d h => by obtain ⟨x, y, v, e⟩ := hel n cs d h; exact ⟨[x, y, v], e⟩) hv h0 (by decide)
  obtain ⟨l, h4, h5⟩ := flC_en L h2
  rw [h5] at h3
  refine ⟨l, by rw [h4]; exact h1, ?_⟩
  rw [← h4] at h3
  exact h3
/-- a call that returns true, at values that are told. -/
theorem pcall_true' {P : Program} {f : FuncId} {args : List AV} (h : PCall P f args (vB true)) (vals : List Value) (W : World) (hl : args.length = vals.length) (hr : ∀ (i : Nat) (x : AV) (v : Value), args[i]? = some x → vals[i]? = some v → RpV (fun _ => True) id W x v) :
    Calls P f vals.toArray W fun e W' => e = .returned (.bool true) ∧ Below W.heap.size W W' :=
  (h.call (fun _ => True) W vals ⟨hl, hr⟩).mono fun e W' ⟨v, he, ⟨hv, _⟩, hb⟩ => by subst hv; exact ⟨he, hb⟩
end Go.Proofs.Ytpopeipcjpfbaaa
