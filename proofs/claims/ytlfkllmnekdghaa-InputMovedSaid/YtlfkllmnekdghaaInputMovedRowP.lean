/-
  InputMoved: for all its arguments the call returns true, and its arguments read as before. My own text.
-/
import Derived.Test.YtlfkllmnekdghaaRows
import Derived.Test.YtlfkllmnekdghaaInpMvSK5
namespace Go.Proofs.Ytlfkllmnekdghaa.inputMoved
open Go.ChangeShapes Go.WideShapes Go.ChangeAt Go.RowKit Go.Joins
set_option linter.unusedVariables false
set_option linter.unusedSimpArgs false

set_option maxRecDepth 100000 in
theorem contract (H : Type) (enc : TypeId × Value → H) (W : World) (base : Nat) (args : Array Value) (ds gs : List (DataW H)) (before : List MemPlace) (us : List TypeId)
    (hval : ∀ (j : Nat) t v, Try.f9.params[j]? = some t → args[j]? = some v → Value.okWide Try.prog W .any base t v)
    (hW : DataW.Whole enc Try.prog Try.f9.params.toList Rows.inputMovedSpec.vars false W args.toList ds gs before)
    (hwt : (DataW.weightsEach Try.prog (Try.f9.params.toList ++ us) (ds ++ gs)).all (· ≤ reachBytes) = true) :
    Calls Try.prog 9 args W fun e W' => ∃ v, e = .returned v ∧ Rows.inputMovedSpec.post enc Try.prog Try.f9 false true false false W args v W' := by
  have hW' := hW
  obtain ⟨p, q, hA0, hV, rfl, hfz, hnd⟩ := hW
  have hA : DataW.TrodAll enc Try.prog W 0 (fun _ => true) true Try.f9.params.toList args.toList ds p := hA0
  rw [Try.params9] at hA hval hwt
  obtain ⟨v0, vs0, d0, ds0, p0, q0, hargs, rfl, rfl, h0, r0⟩ := trodAll_cons hA
  obtain ⟨v1, vs1, d1, ds1, p1, q1, rfl, rfl, rfl, h1, r1⟩ := trodAll_cons r0
  obtain ⟨v2, vs2, d2, ds2, p2, q2, rfl, rfl, rfl, h2, r2⟩ := trodAll_cons r1
  obtain ⟨rfl, rfl, rfl⟩ := trodAll_nil r2
  obtain rfl : args = #[v0, v1, v2] := by cases args; simp_all
  obtain ⟨rfl, rfl⟩ := trodVars_none hV
  simp only [List.cons_append, List.nil_append, List.append_nil, DataW.weightsEach, List.all_append, Bool.and_eq_true] at hwt
  have hw0 : ∀ w ∈ DataW.weights Try.prog 22 d0, w ≤ reachBytes := fun w h => by first | exact of_decide_eq_true (List.all_eq_true.1 hwt.1 w h) | exact of_decide_eq_true (List.all_eq_true.1 hwt w h)
  obtain ⟨L0, w0, u0, rp0⟩ := open_rings Try.underlying22 (by kernel_rfl) Try.underlying45 Try.underlying37 (by kernel_rfl) rfl rfl (by kernel_rfl) (by kernel_rfl) (by kernel_rfl) (by kernel_rfl) (okWide_slice Try.underlying22 (hval 0 22 v0 rfl rfl)) h0
  have bl0 : L0.length * 24 ≤ 140737488351232 ∧ ∀ r ∈ L0, r.length * 16 ≤ 140737488351232 := by have h := w0 _ hw0; simp only [show Program.bytesOf Try.prog 37 = 16 from by kernel_rfl, show Program.bytesOf Try.prog 45 = 24 from by kernel_rfl, show reachBytes = 140737488351232 from rfl] at h; exact h
  obtain ⟨rfl, g1⟩ := flat_arg (d := 6) (t := 55) (by kernel_rfl) h1
  obtain ⟨cs1, rfl, hl1, hc1⟩ := okw_agg (n := 2) (ts := [3, 3]) (by kernel_rfl) (hval 1 55 v1 rfl rfl)
  obtain ⟨c1_0, c1_1, rfl⟩ := list2 hl1
  obtain ⟨n1_0, rfl, l1_0, m1_0⟩ := okw_int (k := .i64) Try.underlying3 (hc1 0 _ _ rfl rfl)
  have b1_0 : -9223372036854775808 ≤ n1_0 ∧ n1_0 ≤ 9223372036854775807 := ⟨by simpa [IntKind.min, IntKind.max, IntKind.signed, IntKind.bits] using l1_0, by simpa [IntKind.min, IntKind.max, IntKind.signed, IntKind.bits] using m1_0⟩
  obtain ⟨n1_1, rfl, l1_1, m1_1⟩ := okw_int (k := .i64) Try.underlying3 (hc1 1 _ _ rfl rfl)
  have b1_1 : -9223372036854775808 ≤ n1_1 ∧ n1_1 ≤ 9223372036854775807 := ⟨by simpa [IntKind.min, IntKind.max, IntKind.signed, IntKind.bits] using l1_1, by simpa [IntKind.min, IntKind.max, IntKind.signed, IntKind.bits] using m1_1⟩
  obtain ⟨rfl, g2⟩ := flat_arg (d := 6) (t := 37) (by kernel_rfl) h2
  obtain ⟨cs2, rfl, hl2, hc2⟩ := okw_agg (n := 2) (ts := [3, 3]) (by kernel_rfl) (hval 2 37 v2 rfl rfl)
  obtain ⟨c2_0, c2_1, rfl⟩ := list2 hl2
  obtain ⟨n2_0, rfl, l2_0, m2_0⟩ := okw_int (k := .i64) Try.underlying3 (hc2 0 _ _ rfl rfl)
  have b2_0 : -9223372036854775808 ≤ n2_0 ∧ n2_0 ≤ 9223372036854775807 := ⟨by simpa [IntKind.min, IntKind.max, IntKind.signed, IntKind.bits] using l2_0, by simpa [IntKind.min, IntKind.max, IntKind.signed, IntKind.bits] using m2_0⟩
  obtain ⟨n2_1, rfl, l2_1, m2_1⟩ := okw_int (k := .i64) Try.underlying3 (hc2 1 _ _ rfl rfl)
  have b2_1 : -9223372036854775808 ≤ n2_1 ∧ n2_1 ≤ 9223372036854775807 := ⟨by simpa [IntKind.min, IntKind.max, IntKind.signed, IntKind.bits] using l2_1, by simpa [IntKind.min, IntKind.max, IntKind.signed, IntKind.bits] using m2_1⟩
  clear hA0
  simp only [List.append_nil, List.nil_append] at hW'
  have hlt : ∀ x ∈ p0, x.block < W.heap.size := fun x hx => by simpa using hW'.lt x hx
  refine (pcall_true' (args := [.w (.one (ringsA L0)), .w (.agg [(.c (.int .i64 n1_0)), (.c (.int .i64 n1_1))]), .w (.agg [(.c (.int .i64 n2_0)), (.c (.int .i64 n2_1))])]) (movedS_walk L0 n1_0 n1_1 n2_0 n2_1 bl0 b1_0 b1_1 b2_0 b2_1) [v0, _, _] W rfl ?_).mono fun e W' ⟨he, hg⟩ => ?_
  · intro i x v hx hv
    match i with
    | 0 => simp only [List.getElem?_cons_zero, List.getElem?_cons_succ, Option.some.injEq] at hx hv; subst hx; subst hv; exact rp0
    | 1 => simp only [List.getElem?_cons_zero, List.getElem?_cons_succ, Option.some.injEq] at hx hv; subst hx; subst hv; exact (rpV_exact rfl rfl)
    | 2 => simp only [List.getElem?_cons_zero, List.getElem?_cons_succ, Option.some.injEq] at hx hv; subst hx; subst hv; exact (rpV_exact rfl rfl)
    | i + 3 => simp at hx
  · subst he
    exact ⟨_, rfl, _, _, _, [], _, [], hW', trodAll_cons_mk (shut_bool Try.underlying4 _) trodAll_mk0, (trodAll_cons_mk (Below.trod laidOut (by kernel_rfl) (of_decide_eq_true (by kernel_rfl)) h0 hg (fun x hx => hlt x (by simp [hx]))) (trodAll_cons_mk (g1 W' 0 _ true) (trodAll_cons_mk (g2 W' 0 _ true) trodAll_mk0))), rfl, hg.frame _, fun h => by cases h⟩
noncomputable def world (os : Os) : World := World.holding Try.prog os ⟨#[], #[], []⟩
theorem laid_met (os : Os) : laidMet Try.prog Rows.inputMovedRow.laid ((world os).forCall (fun _ _ => 0) ⟨#[], #[.slice none 0 0, .agg #[.int .i64 0, .int .i64 0], .agg #[.int .i64 0, .int .i64 0]], []⟩).memory :=
  laidMet_of_run' 8 (by kernel_rfl) (by kernel_rfl)
theorem reads (os : Os) {H : Type} (enc : TypeId × Value → H) : ∃ places, DataW.whole enc Try.prog ((world os).forCall (fun _ _ => 0) ⟨#[], #[.slice none 0 0, .agg #[.int .i64 0, .int .i64 0], .agg #[.int .i64 0, .int .i64 0]], []⟩).memory Try.f9.params.toList Rows.inputMovedSpec.vars false (#[.slice none 0 0, .agg #[.int .i64 0, .int .i64 0], .agg #[.int .i64 0, .int .i64 0]] : Array Value).toList 8 = some ([.nil, .agg [.lit (.int .i64 0), .lit (.int .i64 0)], .agg [.lit (.int .i64 0), .lit (.int .i64 0)]], [], places) :=
  ⟨[], by kernel_rfl⟩
set_option maxRecDepth 100000 in
theorem lifted (os : Os) (started : os.Started) (H : Type) (enc : TypeId × Value → H) (F : Stop.Interp) :
    ReturnsInHanded {} Try.checked os 9 .any ((OpenSpec.ofChange Rows.inputMovedSpec).preRow enc Try.prog Try.f9 Rows.inputMovedRow.domain false Rows.inputMovedRow.laid) (((OpenSpec.ofChange Rows.inputMovedSpec).at F).post enc Try.prog Try.f9 false true false false) := by
  obtain ⟨places, hx⟩ := reads os enc
  refine returnsInHanded_of_row (C := Try.checked) (s := OpenSpec.ofChange Rows.inputMovedSpec) own3 started (by kernel_rfl) Try.func9
    (witness_row_at (enc := enc) (C := Try.checked) false (world os) #[.slice none 0 0, .agg #[.int .i64 0, .int .i64 0], .agg #[.int .i64 0, .int .i64 0]] rfl (by kernel_rfl) (by kernel_rfl) (by kernel_rfl)
      (OpenSpec.preRow_of_cond 8 hx (by kernel_rfl) (fun k hk => by cases hk) (by kernel_rfl) (laid_met os))) ?_
  intro W base args ds gs before hval hW _ hcond hwt hL _ _
  exact contract H enc W base args ds gs before _ hval hW hwt
theorem said : Rows.InputMovedSaid :=
  OpenClaim.holds_of_cond 9 Try.f9 rfl rfl rfl rfl rfl rfl rfl ⟨rfl, rfl, rfl, rfl, rfl⟩ rfl rfl rfl rfl rfl (by kernel_rfl) Try.func9 (by kernel_rfl)
    (of_decide_eq_true (by kernel_rfl)) (by unfold Func.isWrapper; first | (rw [if_pos (by decide +kernel)]; kernel_rfl) | (rw [if_neg (by decide +kernel)]; exact ⟨rfl, rfl⟩))
    (fun os started H enc _ F => by rw [OpenClaim.pre_eq_preRow]; exact lifted os started H enc F)
end Go.Proofs.Ytlfkllmnekdghaa.inputMoved
