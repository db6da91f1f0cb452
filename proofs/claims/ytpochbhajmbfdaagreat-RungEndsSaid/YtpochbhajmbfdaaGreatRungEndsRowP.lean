/-
  RungEnds: for all its arguments the call returns true, and its arguments read as before. My own text.
-/
import Derived.Test.YtpochbhajmbfdaaGreatRows
import Derived.Test.YtpochbhajmbfdaaGreatSEndsK13
set_option maxRecDepth 100000
set_option maxHeartbeats 64000000
set_option linter.unusedVariables false
set_option linter.unusedSimpArgs false
set_option linter.unusedSectionVars false
open Go.Proofs.Tryz renaming prog → ai
namespace Go.Proofs.YtpochbhajmbfdaaGreat.rungEnds
open Go.ChangeShapes Go.WideShapes Go.ChangeAt Go.RowKit Go.Joins
theorem Uu (H : Type) (enc : TypeId × Value → H) (W : World) (base : Nat) (args : Array Value) (ds gs : List (DataW H)) (before : List MemPlace) (us : List TypeId)
  (w6 : ∀ (j : Nat) t v, Tryz.f4.params[j]? = some t → args[j]? = some v → Value.okWide ai W .any base t v)
  (eY : DataW.Whole enc ai Tryz.f4.params.toList Rows.rungEndsSpec.vars false W args.toList ds gs before)
  (rY : (DataW.weightsEach ai (Tryz.f4.params.toList ++ us) (ds ++ gs)).all (· ≤ reachBytes) = true) :
  Calls ai 4 args W fun e bo => ∃ v, e = .returned v ∧ Rows.rungEndsSpec.post enc ai Tryz.f4 false true false false W args v bo := by
 have yO := eY
 obtain ⟨p, q, L1, pt, rfl, ahe, gT⟩ := eY
 have dU : DataW.TrodAll enc ai W 0 (fun _ => true) true Tryz.f4.params.toList args.toList ds p := L1
 rw [Tryz.params4] at dU w6 rY
 obtain ⟨v0, aiS, d0, ags, jF, cY, ob, rfl, rfl, aH, h3⟩ := trodAll_cons dU
 obtain ⟨v1, aiT, d1, FN, p1, q1, rfl, rfl, rfl, h1, cQ⟩ := trodAll_cons h3
 obtain ⟨v2, aiU, d2, Vf, p2, q2, rfl, rfl, rfl, h2, dN⟩ := trodAll_cons cQ
 obtain ⟨rfl, rfl, rfl⟩ := trodAll_nil dN
 obtain rfl : args = #[v0, v1, v2] := by cases args; simp_all
 obtain ⟨rfl, rfl⟩ := trodVars_none pt
 obtain ⟨qz, Fw, ad1⟩ := abK Tryz.underlying22 (by kernel_rfl) (fun n cs d h => Vp Tryz.underlying63 (by kernel_rfl) rfl rfl rfl (by kernel_rfl) rfl (by kernel_rfl) (by kernel_rfl) Tryz.underlying61 rfl rfl (by kernel_rfl) (by kernel_rfl) (by kernel_rfl) (by kernel_rfl) h) (okWide_slice Tryz.underlying22 (w6 0 22 v0 rfl rfl)) aH
 obtain ⟨rfl, g1⟩ := LK (d := 6) (t := 3) (by kernel_rfl) h1
 have jU := O2 (D := .int .i64) Tryz.underlying3 (fun _ h => by cases h) (fun _ _ h => by cases h) (w6 1 3 v1 rfl rfl)
 obtain ⟨Du, rfl, ZP, aaq⟩ := O1 (k := .i64) Tryz.underlying3 jU
 have TN : -9223372036854775808 ≤ Du ∧ Du ≤ 9223372036854775807 := ⟨by simpa [IntKind.min, IntKind.max, IntKind.signed, IntKind.bits] using ZP, by simpa [IntKind.min, IntKind.max, IntKind.signed, IntKind.bits] using aaq⟩
 obtain ⟨rfl, g2⟩ := LK (d := 6) (t := 3) (by kernel_rfl) h2
 have hB := O2 (D := .int .i64) Tryz.underlying3 (fun _ h => by cases h) (fun _ _ h => by cases h) (w6 2 3 v2 rfl rfl)
 obtain ⟨Dv, rfl, ZQ, aar⟩ := O1 (k := .i64) Tryz.underlying3 hB
 have TO : -9223372036854775808 ≤ Dv ∧ Dv ≤ 9223372036854775807 := ⟨by simpa [IntKind.min, IntKind.max, IntKind.signed, IntKind.bits] using ZQ, by simpa [IntKind.min, IntKind.max, IntKind.signed, IntKind.bits] using aar⟩
 clear L1
 simp only [pJ, List.nil_append] at yO
 have bj : ∀ x ∈ jF, x.block < W.heap.size := fun x aa => by simpa using yO.lt x aa
 refine (ac4 (args := [jK qz, .w (.one (.c (.int .i64 Du))), .w (.one (.c (.int .i64 Dv)))]) (Vy qz Du Dv Fw TN TO) [v0, _, _] W rfl ?_).mono fun e bo ⟨he, aw⟩ => ?_
 ·intro i x v aa hv
  match i with
  | 0 => simp only [sj, xr, hK] at aa hv; subst aa; subst hv; exact ad1
  | 1 => simp only [sj, xr, hK] at aa hv; subst aa; subst hv; exact (IH rfl rfl)
  | 2 => simp only [sj, xr, hK] at aa hv; subst aa; subst hv; exact (IH rfl rfl)
  | i + 3 => simp at aa
 ·subst he
  exact ⟨_, rfl, _, _, _, [], _, [], yO, trodAll_cons_mk (shut_bool Tryz.underlying4 _) trodAll_mk0, (trodAll_cons_mk (Below.trod laidOut (by kernel_rfl) (of_decide_eq_true (by kernel_rfl)) aH aw (fun x aa => bj x (by simp [aa]))) (trodAll_cons_mk (g1 bo 0 _ true) (trodAll_cons_mk (g2 bo 0 _ true) trodAll_mk0))), rfl, aw.frame _, fun h => by cases h⟩
noncomputable def world (os : Os) : World := World.holding ai os ⟨#[], #[], []⟩
theorem ZZ (os : Os) : laidMet ai Rows.rungEndsRow.laid ((world os).forCall (fun _ _ => 0) ⟨#[], #[.slice none 0 0, .int .i64 0, .int .i64 0], []⟩).memory :=
 laidMet_of_run' 8 (by kernel_rfl) (by kernel_rfl)
theorem reads (os : Os) {H : Type} (enc : TypeId × Value → H) : ∃ places, DataW.whole enc ai ((world os).forCall (fun _ _ => 0) ⟨#[], #[.slice none 0 0, .int .i64 0, .int .i64 0], []⟩).memory Tryz.f4.params.toList Rows.rungEndsSpec.vars false (#[.slice none 0 0, .int .i64 0, .int .i64 0] : Array Value).toList 8 = some ([.nil, .lit (.int .i64 0), .lit (.int .i64 0)], [], places) :=
 ⟨[], by kernel_rfl⟩
theorem lifted (os : Os) (started : os.Started) (H : Type) (enc : TypeId × Value → H) (F : Stop.Interp) :
  ReturnsInHanded {} Tryz.checked os 4 .any ((OpenSpec.ofChange Rows.rungEndsSpec).preRow enc ai Tryz.f4 Rows.rungEndsRow.domain false Rows.rungEndsRow.laid) (((OpenSpec.ofChange Rows.rungEndsSpec).at F).post enc ai Tryz.f4 false true false false) := by
 obtain ⟨places, aa⟩ := reads os enc
 refine returnsInHanded_of_row (C := Tryz.checked) (s := OpenSpec.ofChange Rows.rungEndsSpec) abO started (by kernel_rfl) Tryz.func4
  (witness_row_at (enc := enc) (C := Tryz.checked) false (world os) #[.slice none 0 0, .int .i64 0, .int .i64 0] rfl (by kernel_rfl) (by kernel_rfl) (by kernel_rfl)
   (OpenSpec.preRow_of_cond 8 aa (by kernel_rfl) (fun k af => by cases af) (by kernel_rfl) (ZZ os))) ?_
 intro W base args ds gs before w6 eY _ ahb rY iH _ _
 exact Uu H enc W base args ds gs before _ w6 eY rY
theorem inst : Tryz.f4.isInstance ai Rows.rungEndsRow.origin Rows.rungEndsRow.targs := of_decide_eq_true (by kernel_rfl)
theorem wrap : Tryz.f4.isWrapper ai Rows.rungEndsRow.wrapper Rows.rungEndsRow.mainSum := by
 unfold Func.isWrapper; first | (rw [if_pos (by decide +kernel)]; kernel_rfl) | (rw [if_neg (by decide +kernel)]; exact ⟨rfl, rfl⟩)
theorem closed : joinedFacts ai 4 Tryz.f4 (OpenSpec.ofChange Rows.rungEndsSpec).bare Rows.rungEndsRow = true := by kernel_rfl
theorem said : Rows.RungEndsSaid :=
 OpenClaim.holds_of_cond 4 Tryz.f4 rfl rfl rfl rfl rfl rfl rfl ⟨rfl, rfl, rfl, rfl, rfl⟩ rfl rfl rfl rfl rfl (by kernel_rfl) Tryz.func4 closed
  inst wrap
  (fun os started H enc _ F => by rw [OpenClaim.pre_eq_preRow]; exact lifted os started H enc F)
end Go.Proofs.YtpochbhajmbfdaaGreat.rungEnds
