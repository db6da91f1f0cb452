/-
  PixelNear: for all its arguments the call returns true, and its arguments read as before. My own text.
-/
import Derived.Test.YtfcehanpmbeegaaPixU
import Derived.Test.YtfcehanpmbeegaaAbsRow
import Derived.Test.YtfcehanpmbeegaaRows
namespace Go.Proofs.Ytfcehanpmbeegaa.pixelNear
open Go.ChangeShapes Go.WideShapes Go.ChangeAt Go.RowKit Go.Joins
set_option linter.unusedVariables false
set_option linter.unusedSimpArgs false

set_option maxRecDepth 100000 in
theorem contract (H : Type) (enc : TypeId × Value → H) (W : World) (base : Nat) (args : Array Value) (ds gs : List (DataW H)) (before : List MemPlace)
    (hval : ∀ (j : Nat) t v, Try.f5.params[j]? = some t → args[j]? = some v → Value.okWide Try.prog W .any base t v)
    (hW : DataW.Whole enc Try.prog Try.f5.params.toList Rows.pixelNearSpec.vars false W args.toList ds gs before) :
    Calls Try.prog 5 args W fun e W' => ∃ v, e = .returned v ∧ Rows.pixelNearSpec.post enc Try.prog Try.f5 false true false false W args v W' := by
  have hW' := hW
  obtain ⟨p, q, hA0, hV, rfl, hfz, hnd⟩ := hW
  have hA : DataW.TrodAll enc Try.prog W 0 (fun _ => true) true Try.f5.params.toList args.toList ds p := hA0
  rw [Try.params5] at hA hval
  obtain ⟨v0, vs0, d0, ds0, p0, q0, hargs, rfl, rfl, h0, r0⟩ := trodAll_cons hA
  obtain ⟨v1, vs1, d1, ds1, p1, q1, rfl, rfl, rfl, h1, r1⟩ := trodAll_cons r0
  obtain ⟨v2, vs2, d2, ds2, p2, q2, rfl, rfl, rfl, h2, r2⟩ := trodAll_cons r1
  obtain ⟨rfl, rfl, rfl⟩ := trodAll_nil r2
  obtain rfl : args = #[v0, v1, v2] := by cases args; simp_all
  obtain ⟨rfl, rfl⟩ := trodVars_none hV
  obtain ⟨rfl, g0⟩ := flat_arg (d := 6) (t := 24) (by kernel_rfl) h0
  obtain ⟨cs0, rfl, hl0, hc0⟩ := okw_agg (n := 4) (ts := [3, 3, 3, 3]) (by kernel_rfl) (hval 0 24 v0 rfl rfl)
  obtain ⟨c0_0, c0_1, c0_2, c0_3, rfl⟩ := list4 hl0
  obtain ⟨n0_0, rfl, l0_0, m0_0⟩ := okw_int (k := .i64) Try.underlying3 (hc0 0 _ _ rfl rfl)
  have b0_0 : -9223372036854775808 ≤ n0_0 ∧ n0_0 ≤ 9223372036854775807 := ⟨by simpa [IntKind.min, IntKind.max, IntKind.signed, IntKind.bits] using l0_0, by simpa [IntKind.min, IntKind.max, IntKind.signed, IntKind.bits] using m0_0⟩
  obtain ⟨n0_1, rfl, l0_1, m0_1⟩ := okw_int (k := .i64) Try.underlying3 (hc0 1 _ _ rfl rfl)
  have b0_1 : -9223372036854775808 ≤ n0_1 ∧ n0_1 ≤ 9223372036854775807 := ⟨by simpa [IntKind.min, IntKind.max, IntKind.signed, IntKind.bits] using l0_1, by simpa [IntKind.min, IntKind.max, IntKind.signed, IntKind.bits] using m0_1⟩
  obtain ⟨n0_2, rfl, l0_2, m0_2⟩ := okw_int (k := .i64) Try.underlying3 (hc0 2 _ _ rfl rfl)
  have b0_2 : -9223372036854775808 ≤ n0_2 ∧ n0_2 ≤ 9223372036854775807 := ⟨by simpa [IntKind.min, IntKind.max, IntKind.signed, IntKind.bits] using l0_2, by simpa [IntKind.min, IntKind.max, IntKind.signed, IntKind.bits] using m0_2⟩
  obtain ⟨n0_3, rfl, l0_3, m0_3⟩ := okw_int (k := .i64) Try.underlying3 (hc0 3 _ _ rfl rfl)
  have b0_3 : -9223372036854775808 ≤ n0_3 ∧ n0_3 ≤ 9223372036854775807 := ⟨by simpa [IntKind.min, IntKind.max, IntKind.signed, IntKind.bits] using l0_3, by simpa [IntKind.min, IntKind.max, IntKind.signed, IntKind.bits] using m0_3⟩
  obtain ⟨rfl, g1⟩ := flat_arg (d := 6) (t := 23) (by kernel_rfl) h1
  obtain ⟨cs1, rfl, hl1, hc1⟩ := okw_agg (n := 2) (ts := [3, 3]) (by kernel_rfl) (hval 1 23 v1 rfl rfl)
  obtain ⟨c1_0, c1_1, rfl⟩ := list2 hl1
  obtain ⟨n1_0, rfl, l1_0, m1_0⟩ := okw_int (k := .i64) Try.underlying3 (hc1 0 _ _ rfl rfl)
  have b1_0 : -9223372036854775808 ≤ n1_0 ∧ n1_0 ≤ 9223372036854775807 := ⟨by simpa [IntKind.min, IntKind.max, IntKind.signed, IntKind.bits] using l1_0, by simpa [IntKind.min, IntKind.max, IntKind.signed, IntKind.bits] using m1_0⟩
  obtain ⟨n1_1, rfl, l1_1, m1_1⟩ := okw_int (k := .i64) Try.underlying3 (hc1 1 _ _ rfl rfl)
  have b1_1 : -9223372036854775808 ≤ n1_1 ∧ n1_1 ≤ 9223372036854775807 := ⟨by simpa [IntKind.min, IntKind.max, IntKind.signed, IntKind.bits] using l1_1, by simpa [IntKind.min, IntKind.max, IntKind.signed, IntKind.bits] using m1_1⟩
  obtain ⟨rfl, g2⟩ := flat_arg (d := 6) (t := 3) (by kernel_rfl) h2
  have hc2 := okw_one (D := .int .i64) Try.underlying3 (fun _ h => by cases h) (fun _ _ h => by cases h) (hval 2 3 v2 rfl rfl)
  obtain ⟨n2_0, rfl, l2_0, m2_0⟩ := okw_int (k := .i64) Try.underlying3 hc2
  have b2_0 : -9223372036854775808 ≤ n2_0 ∧ n2_0 ≤ 9223372036854775807 := ⟨by simpa [IntKind.min, IntKind.max, IntKind.signed, IntKind.bits] using l2_0, by simpa [IntKind.min, IntKind.max, IntKind.signed, IntKind.bits] using m2_0⟩
  clear hA0
  simp only [List.append_nil] at hW'
  refine (pnear_walk n0_0 n0_1 n0_2 n0_3 n1_0 n1_1 n2_0 W b0_0 b0_1 b0_2 b0_3 b1_0 b1_1 b2_0).mono fun e W' ⟨he, hg⟩ => ?_
  subst he
  exact ⟨_, rfl, post_plain3 hW' (fun _ _ _ => trodAll_cons_mk (shut_bool Try.underlying4 _) trodAll_mk0) (fun sp => (trodAll_cons_mk (g0 W' 0 sp true) (trodAll_cons_mk (g1 W' 0 sp true) (trodAll_cons_mk (g2 W' 0 sp true) trodAll_mk0)))) (fun _ => rfl)
    hg (ok_one (by kernel_rfl) rfl (okWide_bool_mk Try.underlying4 _))⟩
noncomputable def world (os : Os) : World := World.holding Try.prog os ⟨#[], #[], []⟩
theorem laid_met (os : Os) : laidMet Try.prog Rows.pixelNearRow.laid ((world os).forCall (fun _ _ => 0) ⟨#[], #[.agg #[.int .i64 0, .int .i64 0, .int .i64 0, .int .i64 0], .agg #[.int .i64 0, .int .i64 0], .int .i64 0], []⟩).memory :=
  laidMet_of_run' 8 (by kernel_rfl) (by kernel_rfl)
theorem reads (os : Os) {H : Type} (enc : TypeId × Value → H) : ∃ places, DataW.whole enc Try.prog ((world os).forCall (fun _ _ => 0) ⟨#[], #[.agg #[.int .i64 0, .int .i64 0, .int .i64 0, .int .i64 0], .agg #[.int .i64 0, .int .i64 0], .int .i64 0], []⟩).memory Try.f5.params.toList Rows.pixelNearSpec.vars false (#[.agg #[.int .i64 0, .int .i64 0, .int .i64 0, .int .i64 0], .agg #[.int .i64 0, .int .i64 0], .int .i64 0] : Array Value).toList 8 = some ([.agg [.agg [.lit (.int .i64 0), .lit (.int .i64 0)], .agg [.lit (.int .i64 0), .lit (.int .i64 0)]], .agg [.lit (.int .i64 0), .lit (.int .i64 0)], .lit (.int .i64 0)], [], places) :=
  ⟨[], by kernel_rfl⟩
set_option maxRecDepth 100000 in
theorem lifted (os : Os) (started : os.Started) (H : Type) (enc : TypeId × Value → H) (F : Stop.Interp) :
    ReturnsInHanded {} Try.checked os 5 .any ((OpenSpec.ofChange Rows.pixelNearSpec).preRow enc Try.prog Try.f5 Rows.pixelNearRow.domain false Rows.pixelNearRow.laid) (((OpenSpec.ofChange Rows.pixelNearSpec).at F).post enc Try.prog Try.f5 false true false false) := by
  obtain ⟨places, hx⟩ := reads os enc
  refine returnsInHanded_of_row (C := Try.checked) (s := OpenSpec.ofChange Rows.pixelNearSpec) own3 started (by kernel_rfl) Try.func5
    (witness_row_at (enc := enc) (C := Try.checked) false (world os) #[.agg #[.int .i64 0, .int .i64 0, .int .i64 0, .int .i64 0], .agg #[.int .i64 0, .int .i64 0], .int .i64 0] rfl (by kernel_rfl) (by kernel_rfl) (by kernel_rfl)
      (OpenSpec.preRow_of_cond 8 hx (by kernel_rfl) (fun k hk => by cases hk) (by kernel_rfl) (laid_met os))) ?_
  intro W base args ds gs before hval hW _ _ _ hL _ _
  exact contract H enc W base args ds gs before hval hW
theorem said : Rows.PixelNearSaid :=
  OpenClaim.holds_of_cond 5 Try.f5 rfl rfl rfl rfl rfl rfl rfl ⟨rfl, rfl, rfl, rfl, rfl⟩ rfl rfl rfl rfl rfl (by kernel_rfl) Try.func5 (by kernel_rfl)
    (of_decide_eq_true (by kernel_rfl)) (by unfold Func.isWrapper; first | (rw [if_pos (by decide +kernel)]; kernel_rfl) | (rw [if_neg (by decide +kernel)]; exact ⟨rfl, rfl⟩))
    (fun os started H enc _ F => by rw [OpenClaim.pre_eq_preRow]; exact lifted os started H enc F)
end Go.Proofs.Ytfcehanpmbeegaa.pixelNear
