/-
  RungTurned: for all its arguments the call returns true, and its arguments read as before. My own text.
-/
import Derived.Test.YtpochbhajmbfdaaGreatRows
import Derived.Test.YtpochbhajmbfdaaGreatSTurnedK13
set_option maxRecDepth 100000
set_option maxHeartbeats 64000000
set_option linter.unusedVariables false
set_option linter.unusedSimpArgs false
set_option linter.unusedSectionVars false
open Go.Proofs.Tryz renaming prog → aj
namespace Go.Proofs.YtpochbhajmbfdaaGreat.rungTurned
open Go.ChangeShapes Go.WideShapes Go.ChangeAt Go.RowKit Go.Joins
theorem V7 (H : Type) (enc : TypeId × Value → H) (W : World) (base : Nat) (args : Array Value) (ds gs : List (DataW H)) (before : List MemPlace) (us : List TypeId)
  (x9 : ∀ (j : Nat) t v, Tryz.f13.params[j]? = some t → args[j]? = some v → Value.okWide aj W .any base t v)
  (e9 : DataW.Whole enc aj Tryz.f13.params.toList Rows.rungTurnedSpec.vars false W args.toList ds gs before)
  (sT : (DataW.weightsEach aj (Tryz.f13.params.toList ++ us) (ds ++ gs)).all (· ≤ reachBytes) = true) :
  Calls aj 13 args W fun e bn => ∃ v, e = .returned v ∧ Rows.rungTurnedSpec.post enc aj Tryz.f13 false true false false W args v bn := by
 have zW := e9
 obtain ⟨p, q, Nr, qh, rfl, aiX, hJ⟩ := e9
 have ej : DataW.TrodAll enc aj W 0 (fun _ => true) true Tryz.f13.params.toList args.toList ds p := Nr
 rw [Tryz.params13] at ej x9 sT
 obtain ⟨v0, akK, d0, aic, ke, db, oY, rfl, rfl, aJ, iD⟩ := trodAll_cons ej
 obtain ⟨v1, akL, d1, C9, p1, q1, rfl, rfl, rfl, h1, cN⟩ := trodAll_cons iD
 obtain ⟨v2, akM, d2, MF, p2, q2, rfl, rfl, rfl, h2, cJ⟩ := trodAll_cons cN
 obtain ⟨rfl, rfl, rfl⟩ := trodAll_nil cJ
 obtain rfl : args = #[v0, v1, v2] := by cases args; simp_all
 obtain ⟨rfl, rfl⟩ := trodVars_none qh
 obtain ⟨rs, GP, afK⟩ := adt Tryz.underlying22 (by kernel_rfl) (fun n cs d h => W4 Tryz.underlying63 (by kernel_rfl) rfl rfl rfl (by kernel_rfl) rfl (by kernel_rfl) (by kernel_rfl) Tryz.underlying61 rfl rfl (by kernel_rfl) (by kernel_rfl) (by kernel_rfl) (by kernel_rfl) h) (okWide_slice Tryz.underlying22 (x9 0 22 v0 rfl rfl)) aJ
 obtain ⟨rfl, g1⟩ := M8 (d := 6) (t := 3) (by kernel_rfl) h1
 have jG := QB (D := .int .i64) Tryz.underlying3 (fun _ h => by cases h) (fun _ _ h => by cases h) (x9 1 3 v1 rfl rfl)
 obtain ⟨EN, rfl, abt, ab5⟩ := QA (k := .i64) Tryz.underlying3 jG
 have Vp : -9223372036854775808 ≤ EN ∧ EN ≤ 9223372036854775807 := ⟨by simpa [IntKind.min, IntKind.max, IntKind.signed, IntKind.bits] using abt, by simpa [IntKind.min, IntKind.max, IntKind.signed, IntKind.bits] using ab5⟩
 obtain ⟨rfl, g2⟩ := M8 (d := 6) (t := 3) (by kernel_rfl) h2
 have hH := QB (D := .int .i64) Tryz.underlying3 (fun _ h => by cases h) (fun _ _ h => by cases h) (x9 2 3 v2 rfl rfl)
 obtain ⟨EO, rfl, abu, ab6⟩ := QA (k := .i64) Tryz.underlying3 hH
 have Vq : -9223372036854775808 ≤ EO ∧ EO ≤ 9223372036854775807 := ⟨by simpa [IntKind.min, IntKind.max, IntKind.signed, IntKind.bits] using abu, by simpa [IntKind.min, IntKind.max, IntKind.signed, IntKind.bits] using ab6⟩
 clear Nr
 simp only [qz, List.nil_append] at zW
 have bh : ∀ x ∈ ke, x.block < W.heap.size := fun x aa => by simpa using zW.lt x aa
 refine (aeM (args := [jx rs, .w (.one (.c (.int .i64 EN))), .w (.one (.c (.int .i64 EO)))]) (ag4 rs EN EO GP Vp Vq) [v0, _, _] W rfl ?_).mono fun e bn ⟨he, ax⟩ => ?_
 ·intro i x v aa hv
  match i with
  | 0 => simp only [oB, rI, gE] at aa hv; subst aa; subst hv; exact afK
  | 1 => simp only [oB, rI, gE] at aa hv; subst aa; subst hv; exact (J8 rfl rfl)
  | 2 => simp only [oB, rI, gE] at aa hv; subst aa; subst hv; exact (J8 rfl rfl)
  | i + 3 => simp at aa
 ·subst he
  exact ⟨_, rfl, _, _, _, [], _, [], zW, trodAll_cons_mk (shut_bool Tryz.underlying4 _) trodAll_mk0, (trodAll_cons_mk (Below.trod laidOut (by kernel_rfl) (of_decide_eq_true (by kernel_rfl)) aJ ax (fun x aa => bh x (by simp [aa]))) (trodAll_cons_mk (g1 bn 0 _ true) (trodAll_cons_mk (g2 bn 0 _ true) trodAll_mk0))), rfl, ax.frame _, fun h => by cases h⟩
noncomputable def world (os : Os) : World := World.holding aj os ⟨#[], #[], []⟩
theorem abD (os : Os) : laidMet aj Rows.rungTurnedRow.laid ((world os).forCall (fun _ _ => 0) ⟨#[], #[.slice none 0 0, .int .i64 0, .int .i64 0], []⟩).memory :=
 laidMet_of_run' 8 (by kernel_rfl) (by kernel_rfl)
theorem reads (os : Os) {H : Type} (enc : TypeId × Value → H) : ∃ places, DataW.whole enc aj ((world os).forCall (fun _ _ => 0) ⟨#[], #[.slice none 0 0, .int .i64 0, .int .i64 0], []⟩).memory Tryz.f13.params.toList Rows.rungTurnedSpec.vars false (#[.slice none 0 0, .int .i64 0, .int .i64 0] : Array Value).toList 8 = some ([.nil, .lit (.int .i64 0), .lit (.int .i64 0)], [], places) :=
 ⟨[], by kernel_rfl⟩
theorem lifted (os : Os) (started : os.Started) (H : Type) (enc : TypeId × Value → H) (F : Stop.Interp) :
  ReturnsInHanded {} Tryz.checked os 13 .any ((OpenSpec.ofChange Rows.rungTurnedSpec).preRow enc aj Tryz.f13 Rows.rungTurnedRow.domain false Rows.rungTurnedRow.laid) (((OpenSpec.ofChange Rows.rungTurnedSpec).at F).post enc aj Tryz.f13 false true false false) := by
 obtain ⟨places, aa⟩ := reads os enc
 refine returnsInHanded_of_row (C := Tryz.checked) (s := OpenSpec.ofChange Rows.rungTurnedSpec) adx started (by kernel_rfl) Tryz.func13
  (witness_row_at (enc := enc) (C := Tryz.checked) false (world os) #[.slice none 0 0, .int .i64 0, .int .i64 0] rfl (by kernel_rfl) (by kernel_rfl) (by kernel_rfl)
   (OpenSpec.preRow_of_cond 8 aa (by kernel_rfl) (fun k ae => by cases ae) (by kernel_rfl) (abD os))) ?_
 intro W base args ds gs before x9 e9 _ xU sT gY _ _
 exact V7 H enc W base args ds gs before _ x9 e9 sT
theorem inst : Tryz.f13.isInstance aj Rows.rungTurnedRow.origin Rows.rungTurnedRow.targs := of_decide_eq_true (by kernel_rfl)
theorem wrap : Tryz.f13.isWrapper aj Rows.rungTurnedRow.wrapper Rows.rungTurnedRow.mainSum := by
 unfold Func.isWrapper; first | (rw [if_pos (by decide +kernel)]; kernel_rfl) | (rw [if_neg (by decide +kernel)]; exact ⟨rfl, rfl⟩)
theorem closed : joinedFacts aj 13 Tryz.f13 (OpenSpec.ofChange Rows.rungTurnedSpec).bare Rows.rungTurnedRow = true := by kernel_rfl
theorem said : Rows.RungTurnedSaid :=
 OpenClaim.holds_of_cond 13 Tryz.f13 rfl rfl rfl rfl rfl rfl rfl ⟨rfl, rfl, rfl, rfl, rfl⟩ rfl rfl rfl rfl rfl (by kernel_rfl) Tryz.func13 closed
  inst wrap
  (fun os started H enc _ F => by rw [OpenClaim.pre_eq_preRow]; exact lifted os started H enc F)
end Go.Proofs.YtpochbhajmbfdaaGreat.rungTurned
