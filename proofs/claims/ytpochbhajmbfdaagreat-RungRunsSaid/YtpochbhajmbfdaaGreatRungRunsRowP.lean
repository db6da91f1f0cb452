/-
  RungRuns: for all its arguments the call returns true, and its arguments read as before. My own text.
-/
import Derived.Test.YtpochbhajmbfdaaGreatRows
import Derived.Test.YtpochbhajmbfdaaGreatSRunsK14
set_option maxRecDepth 100000
set_option maxHeartbeats 64000000
set_option linter.unusedVariables false
set_option linter.unusedSimpArgs false
set_option linter.unusedSectionVars false
open Go.Proofs.Tryz renaming prog → aj
namespace Go.Proofs.YtpochbhajmbfdaaGreat.rungRuns
open Go.ChangeShapes Go.WideShapes Go.ChangeAt Go.RowKit Go.Joins
theorem U9 (H : Type) (enc : TypeId × Value → H) (W : World) (base : Nat) (args : Array Value) (ds gs : List (DataW H)) (before : List MemPlace) (us : List TypeId)
  (xw : ∀ (j : Nat) t v, Tryz.f8.params[j]? = some t → args[j]? = some v → Value.okWide aj W .any base t v)
  (fg : DataW.Whole enc aj Tryz.f8.params.toList Rows.rungRunsSpec.vars false W args.toList ds gs before)
  (sB : (DataW.weightsEach aj (Tryz.f8.params.toList ++ us) (ds ++ gs)).all (· ≤ reachBytes) = true) :
  Calls aj 8 args W fun e bq => ∃ v, e = .returned v ∧ Rows.rungRunsSpec.post enc aj Tryz.f8 false true false false W args v bq := by
 have ze := fg
 obtain ⟨p, q, Mo, pT, rfl, ahM, hr⟩ := fg
 have dO : DataW.TrodAll enc aj W 0 (fun _ => true) true Tryz.f8.params.toList args.toList ds p := Mo
 rw [Tryz.params8] at dO xw sB
 obtain ⟨v0, ajp, d0, agZ, j8, c9, oJ, rfl, rfl, aI, hU⟩ := trodAll_cons dO
 obtain ⟨v1, ajq, d1, Gm, p1, q1, rfl, rfl, rfl, h1, c3⟩ := trodAll_cons hU
 obtain ⟨v2, ajr, d2, VS, p2, q2, rfl, rfl, rfl, h2, ec⟩ := trodAll_cons c3
 obtain ⟨rfl, rfl, rfl⟩ := trodAll_nil ec
 obtain rfl : args = #[v0, v1, v2] := by cases args; simp_all
 obtain ⟨rfl, rfl⟩ := trodVars_none pT
 obtain ⟨q5, F7, aeu⟩ := ach Tryz.underlying22 (by kernel_rfl) (fun n cs d h => V2 Tryz.underlying63 (by kernel_rfl) rfl rfl rfl (by kernel_rfl) rfl (by kernel_rfl) (by kernel_rfl) Tryz.underlying61 rfl rfl (by kernel_rfl) (by kernel_rfl) (by kernel_rfl) (by kernel_rfl) h) (okWide_slice Tryz.underlying22 (xw 0 22 v0 rfl rfl)) aI
 obtain ⟨rfl, g1⟩ := WD (d := 6) (t := 23) (by kernel_rfl) h1
 obtain ⟨Co, rfl, Hq, jU⟩ := ace (n := 2) (ts := [3, 3]) (by kernel_rfl) (xw 1 23 v1 rfl rfl)
 obtain ⟨ags, agt, rfl⟩ := aaK Hq
 obtain ⟨DZ, rfl, aak, aaW⟩ := Ps (k := .i64) Tryz.underlying3 (jU 0 _ _ rfl rfl)
 have Un : -9223372036854775808 ≤ DZ ∧ DZ ≤ 9223372036854775807 := ⟨by simpa [IntKind.min, IntKind.max, IntKind.signed, IntKind.bits] using aak, by simpa [IntKind.min, IntKind.max, IntKind.signed, IntKind.bits] using aaW⟩
 obtain ⟨D0, rfl, aal, aaX⟩ := Ps (k := .i64) Tryz.underlying3 (jU 1 _ _ rfl rfl)
 have Uo : -9223372036854775808 ≤ D0 ∧ D0 ≤ 9223372036854775807 := ⟨by simpa [IntKind.min, IntKind.max, IntKind.signed, IntKind.bits] using aal, by simpa [IntKind.min, IntKind.max, IntKind.signed, IntKind.bits] using aaX⟩
 obtain ⟨l2, Uv, aev⟩ := open_ints Tryz.underlying51 (by kernel_rfl) Tryz.underlying3 (okWide_slice Tryz.underlying51 (xw 2 51 v2 rfl rfl)) h2
 clear Mo
 simp only [qe, List.nil_append] at ze
 have bj : ∀ x ∈ j8 ++ p2, x.block < W.heap.size := fun x aa => by simpa using ze.lt x aa
 refine (adA (args := [kX q5, .w (.agg [(.c (.int .i64 DZ)), (.c (.int .i64 D0))]), lu l2]) (aeK q5 DZ D0 l2 F7 Un Uo Uv) [v0, _, v2] W rfl ?_).mono fun e bq ⟨he, aw⟩ => ?_
 ·intro i x v aa hv
  match i with
  | 0 => simp only [sS, xQ, ib] at aa hv; subst aa; subst hv; exact aeu
  | 1 => simp only [sS, xQ, ib] at aa hv; subst aa; subst hv; exact (QO rfl rfl)
  | 2 => simp only [sS, xQ, ib] at aa hv; subst aa; subst hv; exact aev
  | i + 3 => simp at aa
 ·subst he
  exact ⟨_, rfl, _, _, _, [], _, [], ze, trodAll_cons_mk (shut_bool Tryz.underlying4 _) trodAll_mk0, (trodAll_cons_mk (Below.trod laidOut (by kernel_rfl) (of_decide_eq_true (by kernel_rfl)) aI aw (fun x aa => bj x (by simp [aa]))) (trodAll_cons_mk (g1 bq 0 _ true) (trodAll_cons_mk (Below.trod laidOut (by kernel_rfl) (of_decide_eq_true (by kernel_rfl)) h2 aw (fun x aa => bj x (by simp [aa]))) trodAll_mk0))), rfl, aw.frame _, fun h => by cases h⟩
noncomputable def world (os : Os) : World := World.holding aj os ⟨#[], #[], []⟩
theorem aau (os : Os) : laidMet aj Rows.rungRunsRow.laid ((world os).forCall (fun _ _ => 0) ⟨#[], #[.slice none 0 0, .agg #[.int .i64 0, .int .i64 0], .slice none 0 0], []⟩).memory :=
 laidMet_of_run' 8 (by kernel_rfl) (by kernel_rfl)
theorem reads (os : Os) {H : Type} (enc : TypeId × Value → H) : ∃ places, DataW.whole enc aj ((world os).forCall (fun _ _ => 0) ⟨#[], #[.slice none 0 0, .agg #[.int .i64 0, .int .i64 0], .slice none 0 0], []⟩).memory Tryz.f8.params.toList Rows.rungRunsSpec.vars false (#[.slice none 0 0, .agg #[.int .i64 0, .int .i64 0], .slice none 0 0] : Array Value).toList 8 = some ([.nil, .agg [.lit (.int .i64 0), .lit (.int .i64 0)], .nil], [], places) :=
 ⟨[], by kernel_rfl⟩
theorem lifted (os : Os) (started : os.Started) (H : Type) (enc : TypeId × Value → H) (F : Stop.Interp) :
  ReturnsInHanded {} Tryz.checked os 8 .any ((OpenSpec.ofChange Rows.rungRunsSpec).preRow enc aj Tryz.f8 Rows.rungRunsRow.domain false Rows.rungRunsRow.laid) (((OpenSpec.ofChange Rows.rungRunsSpec).at F).post enc aj Tryz.f8 false true false false) := by
 obtain ⟨places, aa⟩ := reads os enc
 refine returnsInHanded_of_row (C := Tryz.checked) (s := OpenSpec.ofChange Rows.rungRunsSpec) acm started (by kernel_rfl) Tryz.func8
  (witness_row_at (enc := enc) (C := Tryz.checked) false (world os) #[.slice none 0 0, .agg #[.int .i64 0, .int .i64 0], .slice none 0 0] rfl (by kernel_rfl) (by kernel_rfl) (by kernel_rfl)
   (OpenSpec.preRow_of_cond 8 aa (by kernel_rfl) (fun k af => by cases af) (by kernel_rfl) (aau os))) ?_
 intro W base args ds gs before xw fg _ ahJ sB hK _ _
 exact U9 H enc W base args ds gs before _ xw fg sB
theorem inst : Tryz.f8.isInstance aj Rows.rungRunsRow.origin Rows.rungRunsRow.targs := of_decide_eq_true (by kernel_rfl)
theorem wrap : Tryz.f8.isWrapper aj Rows.rungRunsRow.wrapper Rows.rungRunsRow.mainSum := by
 unfold Func.isWrapper; first | (rw [if_pos (by decide +kernel)]; kernel_rfl) | (rw [if_neg (by decide +kernel)]; exact ⟨rfl, rfl⟩)
theorem closed : joinedFacts aj 8 Tryz.f8 (OpenSpec.ofChange Rows.rungRunsSpec).bare Rows.rungRunsRow = true := by kernel_rfl
theorem said : Rows.RungRunsSaid :=
 OpenClaim.holds_of_cond 8 Tryz.f8 rfl rfl rfl rfl rfl rfl rfl ⟨rfl, rfl, rfl, rfl, rfl⟩ rfl rfl rfl rfl rfl (by kernel_rfl) Tryz.func8 closed
  inst wrap
  (fun os started H enc _ F => by rw [OpenClaim.pre_eq_preRow]; exact lifted os started H enc F)
end Go.Proofs.YtpochbhajmbfdaaGreat.rungRuns
