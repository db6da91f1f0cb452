/-
  Fractions as arguments, opened and shut; what the rows of layer 2 share. My own text.
-/
import Derived.Test.YtdmjccbpghilcaaFracG
import Derived.ProofKit
import Derived.OpenShut
import Derived.Deep.DeepHandedRow
import Derived.Lib.LaidTab
import Derived.Lib.SmallJoins
namespace Go.Proofs.Ytdmjccbpghilcaa
open Go.ChangeShapes Go.WideShapes Go.ChangeAt Go.RowKit Go.Joins
set_option linter.unusedVariables false

theorem own : ownKnob Try.prog.godebug = none := by kernel_rfl
theorem cellsInt : Try.prog.cellsOf 24 = 2 := by kernel_rfl
theorem cellsFrac : Try.prog.cellsOf 26 = 4 := by kernel_rfl
theorem cellsI64 : Try.prog.cellsOf 2 = 1 := by kernel_rfl
theorem cellsU64 : Try.prog.cellsOf 22 = 1 := by kernel_rfl
theorem isW_of {a b : Int} (ha : (Lit.int .i64 a).wf = true) (hb : (Lit.int .u64 b).wf = true) : IsW a b (a * 18446744073709551616 + b) := by
  have h1 : -9223372036854775808 ≤ a ∧ a ≤ 9223372036854775807 := by simpa [Lit.wf, IntKind.min, IntKind.max, IntKind.signed, IntKind.bits] using ha
  have h2 : 0 ≤ b ∧ b ≤ 18446744073709551615 := by simpa [Lit.wf, IntKind.min, IntKind.max, IntKind.signed, IntKind.bits] using hb
  unfold IsW
  omega
/-- arguments without places of their own in memory: what lay there before is as it was. -/
theorem post_plain {H : Type} {enc : TypeId × Value → H} {P : Program} {f : Func} {s : ChangeSpec} {apart fresh handsOn again : Bool} {W W' : World} {args : Array Value} {v : Value} {ds gs : List (DataW H)}
    (hW : DataW.Whole enc P f.params.toList s.vars apart W args.toList ds gs [])
    (hres : ∀ (b : Nat) (sp : Nat → Bool) (hd : Bool), DataW.TrodAll enc P W' b sp hd f.resultTypes.toList (v.resultList f.resultTypes.size) (s.fn H (ds ++ gs)).results [])
    (hargs : ∀ sp : Nat → Bool, DataW.TrodAll enc P W' 0 sp true f.params.toList args.toList (s.fn H (ds ++ gs)).args [])
    (hvars : ∀ sp : Nat → Bool, DataW.TrodVars enc P W' sp s.vars (s.fn H (ds ++ gs)).vars [])
    (hb : Below W.heap.size W W')
    (hok : ∀ (j : Nat) (t : TypeId) (r : Value), f.resultTypes[j]? = some t → (v.resultList f.resultTypes.size)[j]? = some r → Value.okWide P W' .any 0 t r) :
    s.post enc P f apart fresh handsOn again W args v W' :=
  ⟨ds, gs, [], [], [], [], hW, hres _ _ _, hargs _, hvars _, World.keptBut_mono (fun p hp => by cases hp) (hb.frame (· ∈ [])),
    fun _ => ⟨hok, _, _, [], ⟨[], [], trodAll_append (hargs _) (hres _ _ _), hvars _, rfl, (fun b off (hp : MemPlace.cell b off ∈ []) => by cases hp), fun _ => List.nodup_nil⟩, fun p hp _ => by cases hp⟩⟩
section
variable {H : Type} {enc : TypeId × Value → H} {w : World} {base : Nat} {spare : Nat → Bool} {held : Bool}
theorem trod_wide {n : Nat} {c0 c1 : Value} {y : DataW H × List MemPlace} (h : DataW.trod enc Try.prog w base spare held n 24 [c0, c1] = some y) :
    ∃ a b : Int, c0 = .int .i64 a ∧ c1 = .int .u64 b ∧ y = (.agg [.lit (.int .i64 a), .lit (.int .u64 b)], []) ∧ (Lit.int .i64 a).wf = true ∧ (Lit.int .u64 b).wf = true := by
  obtain ⟨y0, y1, m, rfl, _, h0, h1⟩ := trod_struct2 Try.underlying24 h
  simp only [cellsI64, cellsU64, List.drop_zero, List.drop_succ_cons, List.take_succ_cons, List.take_zero] at h0 h1
  obtain ⟨a, e0, rfl, wa⟩ := DataW.trod_int Try.underlying2 h0
  obtain ⟨b, e1, rfl, wb⟩ := DataW.trod_int Try.underlying22 h1
  simp at e0 e1
  exact ⟨a, b, e0, e1, rfl, wa, wb⟩
theorem wide_trod (n : Nat) {a b : Int} (wa : (Lit.int .i64 a).wf = true) (wb : (Lit.int .u64 b).wf = true) : DataW.trod enc Try.prog w base spare held (n + 2) 24 [.int .i64 a, .int .u64 b] = some (.agg [.lit (.int .i64 a), .lit (.int .u64 b)], []) :=
  trod_struct2_mk (y0 := (.lit (.int .i64 a), [])) (y1 := (.lit (.int .u64 b), [])) Try.underlying24 (by rw [cellsInt]; rfl)
    (by simp only [cellsI64, List.drop_zero, List.take_succ_cons, List.take_zero]; exact trod_int_mk n Try.underlying2 wa)
    (by simp only [cellsU64, List.drop_succ_cons, List.drop_zero, List.take_succ_cons, List.take_zero]; exact trod_int_mk n Try.underlying22 wb)
theorem open_frac {r : Reach} {b0 : Nat} {v : Value} {D : DataW H} {p : List MemPlace} (hv : Value.okWide Try.prog w r b0 26 v) (h : DataW.Trod enc Try.prog w base spare held 26 v D p) :
    ∃ a b c d : Int, v = .agg #[.int .i64 a, .int .u64 b, .int .i64 c, .int .u64 d] ∧ D = .agg [.agg [.lit (.int .i64 a), .lit (.int .u64 b)], .agg [.lit (.int .i64 c), .lit (.int .u64 d)]] ∧ p = [] ∧ ((Lit.int .i64 a).wf = true ∧ (Lit.int .u64 b).wf = true ∧ (Lit.int .i64 c).wf = true ∧ (Lit.int .u64 d).wf = true) := by
  obtain ⟨cs, rfl, hsz⟩ := okWide_struct Try.underlying26 hv
  obtain ⟨c0, c1, c2, c3, rfl⟩ := array4 (hsz.trans cellsFrac)
  obtain ⟨fuel, hf⟩ := h
  obtain ⟨y0, y1, n, hx, _, h0, h1⟩ := trod_struct2 Try.underlying26 hf
  simp only [Value.cells, cellsInt, List.drop_zero, List.drop_succ_cons, List.take_succ_cons, List.take_zero] at h0 h1
  obtain ⟨a, b, rfl, rfl, rfl, wa, wb⟩ := trod_wide h0
  obtain ⟨c, d, rfl, rfl, rfl, wc, wd⟩ := trod_wide h1
  simp only [Prod.mk.injEq] at hx
  exact ⟨a, b, c, d, rfl, hx.1, hx.2, wa, wb, wc, wd⟩
theorem shut_frac {a b c d : Int} (h : (Lit.int .i64 a).wf = true ∧ (Lit.int .u64 b).wf = true ∧ (Lit.int .i64 c).wf = true ∧ (Lit.int .u64 d).wf = true) :
    DataW.Trod enc Try.prog w base spare held 26 (.agg #[.int .i64 a, .int .u64 b, .int .i64 c, .int .u64 d]) (.agg [.agg [.lit (.int .i64 a), .lit (.int .u64 b)], .agg [.lit (.int .i64 c), .lit (.int .u64 d)]]) [] := by
  obtain ⟨wa, wb, wc, wd⟩ := h
  exact ⟨3, trod_struct2_mk (y0 := (.agg [.lit (.int .i64 a), .lit (.int .u64 b)], [])) (y1 := (.agg [.lit (.int .i64 c), .lit (.int .u64 d)], [])) Try.underlying26 (by rw [cellsFrac]; rfl)
    (by simp only [Value.cells, cellsInt, List.drop_zero, List.take_succ_cons, List.take_zero]; exact wide_trod 0 wa wb)
    (by simp only [Value.cells, cellsInt, List.drop_succ_cons, List.drop_zero, List.take_succ_cons, List.take_zero]; exact wide_trod 0 wc wd)⟩
end
end Go.Proofs.Ytdmjccbpghilcaa
