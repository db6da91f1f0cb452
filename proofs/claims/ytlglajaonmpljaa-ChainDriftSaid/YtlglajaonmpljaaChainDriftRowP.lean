/-
  ChainDrift: for all its arguments the call returns true, and its arguments read as before. My own text.
-/
import Derived.Test.YtlglajaonmpljaaRows
import Derived.Test.YtlglajaonmpljaaChDriftK5
namespace Go.Proofs.Ytlglajaonmpljaa.chainDrift
open Go.ChangeShapes Go.WideShapes Go.ChangeAt Go.RowKit Go.Joins
set_option linter.unusedVariables false
set_option linter.unusedSimpArgs false

set_option maxRecDepth 100000 in
theorem contract (H : Type) (enc : TypeId × Value → H) (W : World) (base : Nat) (args : Array Value) (ds gs : List (DataW H)) (before : List MemPlace) (us : List TypeId)
    (hval : ∀ (j : Nat) t v, Try.f4.params[j]? = some t → args[j]? = some v → Value.okWide Try.prog W .any base t v)
    (hW : DataW.Whole enc Try.prog Try.f4.params.toList Rows.chainDriftSpec.vars false W args.toList ds gs before)
    (hwt : (DataW.weightsEach Try.prog (Try.f4.params.toList ++ us) (ds ++ gs)).all (· ≤ reachBytes) = true) :
    Calls Try.prog 4 args W fun e W' => ∃ v, e = .returned v ∧ Rows.chainDriftSpec.post enc Try.prog Try.f4 false true false false W args v W' := by
  have hW' := hW
  obtain ⟨p, q, hA0, hV, rfl, hfz, hnd⟩ := hW
  have hA : DataW.TrodAll enc Try.prog W 0 (fun _ => true) true Try.f4.params.toList args.toList ds p := hA0
  rw [Try.params4] at hA hval hwt
  obtain ⟨v0, vs0, d0, ds0, p0, q0, hargs, rfl, rfl, h0, r0⟩ := trodAll_cons hA
  obtain ⟨v1, vs1, d1, ds1, p1, q1, rfl, rfl, rfl, h1, r1⟩ := trodAll_cons r0
  obtain ⟨v2, vs2, d2, ds2, p2, q2, rfl, rfl, rfl, h2, r2⟩ := trodAll_cons r1
  obtain ⟨rfl, rfl, rfl⟩ := trodAll_nil r2
  obtain rfl : args = #[v0, v1, v2] := by cases args; simp_all
  obtain ⟨rfl, rfl⟩ := trodVars_none hV
  obtain ⟨rfl, g0⟩ := flat_arg (d := 6) (t := 28) (by kernel_rfl) h0
  obtain ⟨cs0, rfl, hl0, hc0⟩ := okw_agg (n := 4) (ts := [3, 3, 3, 3]) (by kernel_rfl) (hval 0 28 v0 rfl rfl)
  obtain ⟨c0_0, c0_1, c0_2, c0_3, rfl⟩ := list4 hl0
  obtain ⟨n0_0, rfl, l0_0, m0_0⟩ := okw_int (k := .i64) Try.underlying3 (hc0 0 _ _ rfl rfl)
  have b0_0 : -9223372036854775808 ≤ n0_0 ∧ n0_0 ≤ 9223372036854775807 := ⟨by simpa [IntKind.min, IntKind.max, IntKind.signed, IntKind.bits] using l0_0, by simpa [IntKind.min, IntKind.max, IntKind.signed, IntKind.bits] using m0_0⟩
  obtain ⟨n0_1, rfl, l0_1, m0_1⟩ := okw_int (k := .i64) Try.underlying3 (hc0 1 _ _ rfl rfl)
  have b0_1 : -9223372036854775808 ≤ n0_1 ∧ n0_1 ≤ 9223372036854775807 := ⟨by simpa [IntKind.min, IntKind.max, IntKind.signed, IntKind.bits] using l0_1, by simpa [IntKind.min, IntKind.max, IntKind.signed, IntKind.bits] using m0_1⟩
  obtain ⟨n0_2, rfl, l0_2, m0_2⟩ := okw_int (k := .i64) Try.underlying3 (hc0 2 _ _ rfl rfl)
  have b0_2 : -9223372036854775808 ≤ n0_2 ∧ n0_2 ≤ 9223372036854775807 := ⟨by simpa [IntKind.min, IntKind.max, IntKind.signed, IntKind.bits] using l0_2, by simpa [IntKind.min, IntKind.max, IntKind.signed, IntKind.bits] using m0_2⟩
  obtain ⟨n0_3, rfl, l0_3, m0_3⟩ := okw_int (k := .i64) Try.underlying3 (hc0 3 _ _ rfl rfl)
  have b0_3 : -9223372036854775808 ≤ n0_3 ∧ n0_3 ≤ 9223372036854775807 := ⟨by simpa [IntKind.min, IntKind.max, IntKind.signed, IntKind.bits] using l0_3, by simpa [IntKind.min, IntKind.max, IntKind.signed, IntKind.bits] using m0_3⟩
  obtain ⟨rfl, g1⟩ := flat_arg (d := 6) (t := 3) (by kernel_rfl) h1
  have hc1 := okw_one (D := .int .i64) Try.underlying3 (fun _ h => by cases h) (fun _ _ h => by cases h) (hval 1 3 v1 rfl rfl)
  obtain ⟨n1_0, rfl, l1_0, m1_0⟩ := okw_int (k := .i64) Try.underlying3 hc1
  have b1_0 : -9223372036854775808 ≤ n1_0 ∧ n1_0 ≤ 9223372036854775807 := ⟨by simpa [IntKind.min, IntKind.max, IntKind.signed, IntKind.bits] using l1_0, by simpa [IntKind.min, IntKind.max, IntKind.signed, IntKind.bits] using m1_0⟩
  obtain ⟨l2, bl2, in2, _, rp2⟩ := open_pxsW Try.underlying22 Try.underlying47 (by kernel_rfl) rfl rfl (by kernel_rfl) (by kernel_rfl) (by kernel_rfl) (by kernel_rfl) (okWide_slice Try.underlying22 (hval 2 22 v2 rfl rfl)) h2
  clear hA0
  simp only [List.append_nil, List.nil_append] at hW'
  have hlt : ∀ x ∈ p2, x.block < W.heap.size := fun x hx => by simpa using hW'.lt x hx
  refine (pcall_true' (args := [.w (.agg [(.c (.int .i64 n0_0)), (.c (.int .i64 n0_1)), (.c (.int .i64 n0_2)), (.c (.int .i64 n0_3))]), .w (.one (.c (.int .i64 n1_0))), vIt l2]) (drift_walk n0_0 n0_1 n0_2 n0_3 n1_0 l2 b0_0 b0_1 b0_2 b0_3 b1_0 bl2 in2) [_, _, v2] W rfl ?_).mono fun e W' ⟨he, hg⟩ => ?_
  · intro i x v hx hv
    match i with
    | 0 => simp only [List.getElem?_cons_zero, List.getElem?_cons_succ, Option.some.injEq] at hx hv; subst hx; subst hv; exact (rpV_exact rfl rfl)
    | 1 => simp only [List.getElem?_cons_zero, List.getElem?_cons_succ, Option.some.injEq] at hx hv; subst hx; subst hv; exact (rpV_exact rfl rfl)
    | 2 => simp only [List.getElem?_cons_zero, List.getElem?_cons_succ, Option.some.injEq] at hx hv; subst hx; subst hv; exact rp2
    | i + 3 => simp at hx
  · subst he
    exact ⟨_, rfl, _, _, _, [], _, [], hW', trodAll_cons_mk (shut_bool Try.underlying4 _) trodAll_mk0, (trodAll_cons_mk (g0 W' 0 _ true) (trodAll_cons_mk (g1 W' 0 _ true) (trodAll_cons_mk (Below.trod laidOut (by kernel_rfl) (of_decide_eq_true (by kernel_rfl)) h2 hg (fun x hx => hlt x (by simp [hx]))) trodAll_mk0))), rfl, hg.frame _, fun h => by cases h⟩
noncomputable def world (os : Os) : World := World.holding Try.prog os ⟨#[], #[], []⟩
theorem laid_met (os : Os) : laidMet Try.prog Rows.chainDriftRow.laid ((world os).forCall (fun _ _ => 0) ⟨#[], #[.agg #[.int .i64 0, .int .i64 0, .int .i64 0, .int .i64 0], .int .i64 0, .slice none 0 0], []⟩).memory :=
  laidMet_of_run' 8 (by kernel_rfl) (by kernel_rfl)
theorem reads (os : Os) {H : Type} (enc : TypeId × Value → H) : ∃ places, DataW.whole enc Try.prog ((world os).forCall (fun _ _ => 0) ⟨#[], #[.agg #[.int .i64 0, .int .i64 0, .int .i64 0, .int .i64 0], .int .i64 0, .slice none 0 0], []⟩).memory Try.f4.params.toList Rows.chainDriftSpec.vars false (#[.agg #[.int .i64 0, .int .i64 0, .int .i64 0, .int .i64 0], .int .i64 0, .slice none 0 0] : Array Value).toList 8 = some ([.agg [.agg [.lit (.int .i64 0), .lit (.int .i64 0)], .agg [.lit (.int .i64 0), .lit (.int .i64 0)]], .lit (.int .i64 0), .nil], [], places) :=
  ⟨[], by kernel_rfl⟩
set_option maxRecDepth 100000 in
theorem lifted (os : Os) (started : os.Started) (H : Type) (enc : TypeId × Value → H) (F : Stop.Interp) :
    ReturnsInHanded {} Try.checked os 4 .any ((OpenSpec.ofChange Rows.chainDriftSpec).preRow enc Try.prog Try.f4 Rows.chainDriftRow.domain false Rows.chainDriftRow.laid) (((OpenSpec.ofChange Rows.chainDriftSpec).at F).post enc Try.prog Try.f4 false true false false) := by
  obtain ⟨places, hx⟩ := reads os enc
  refine returnsInHanded_of_row (C := Try.checked) (s := OpenSpec.ofChange Rows.chainDriftSpec) own3 started (by kernel_rfl) Try.func4
    (witness_row_at (enc := enc) (C := Try.checked) false (world os) #[.agg #[.int .i64 0, .int .i64 0, .int .i64 0, .int .i64 0], .int .i64 0, .slice none 0 0] rfl (by kernel_rfl) (by kernel_rfl) (by kernel_rfl)
      (OpenSpec.preRow_of_cond 8 hx (by kernel_rfl) (fun k hk => by cases hk) (by kernel_rfl) (laid_met os))) ?_
  intro W base args ds gs before hval hW _ _ hwt hL _ _
  exact contract H enc W base args ds gs before _ hval hW hwt
theorem said : Rows.ChainDriftSaid :=
  OpenClaim.holds_of_cond 4 Try.f4 rfl rfl rfl rfl rfl rfl rfl ⟨rfl, rfl, rfl, rfl, rfl⟩ rfl rfl rfl rfl rfl (by kernel_rfl) Try.func4 (by kernel_rfl)
    (of_decide_eq_true (by kernel_rfl)) (by unfold Func.isWrapper; first | (rw [if_pos (by decide +kernel)]; kernel_rfl) | (rw [if_neg (by decide +kernel)]; exact ⟨rfl, rfl⟩))
    (fun os started H enc _ F => by rw [OpenClaim.pre_eq_preRow]; exact lifted os started H enc F)
end Go.Proofs.Ytlglajaonmpljaa.chainDrift
