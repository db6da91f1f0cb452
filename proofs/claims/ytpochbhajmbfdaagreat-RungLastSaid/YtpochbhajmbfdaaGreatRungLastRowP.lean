/-
  RungLast: for all its arguments the call returns true, and its arguments read as before. My own text.
-/
import Derived.Test.YtpochbhajmbfdaaGreatRows
import Derived.Test.YtpochbhajmbfdaaGreatSLastK13
set_option maxRecDepth 100000
set_option maxHeartbeats 64000000
set_option linter.unusedVariables false
set_option linter.unusedSimpArgs false
set_option linter.unusedSectionVars false
open Go.Proofs.Tryz renaming prog → aj
namespace Go.Proofs.YtpochbhajmbfdaaGreat.rungLast
open Go.ChangeShapes Go.WideShapes Go.ChangeAt Go.RowKit Go.Joins
theorem Up (H : Type) (enc : TypeId × Value → H) (W : World) (base : Nat) (args : Array Value) (ds gs : List (DataW H)) (before : List MemPlace) (us : List TypeId)
  (zi : ∀ (j : Nat) t v, Tryz.f9.params[j]? = some t → args[j]? = some v → Value.okWide aj W .any base t v)
  (eT : DataW.Whole enc aj Tryz.f9.params.toList Rows.rungLastSpec.vars false W args.toList ds gs before)
  (r2 : (DataW.weightsEach aj (Tryz.f9.params.toList ++ us) (ds ++ gs)).all (· ≤ reachBytes) = true) :
  Calls aj 9 args W fun e W' => ∃ v, e = .returned v ∧ Rows.rungLastSpec.post enc aj Tryz.f9 false true false false W args v W' := by
 have yN := eT
 obtain ⟨p, q, LR, po, rfl, ag7, gN⟩ := eT
 have dS : DataW.TrodAll enc aj W 0 (fun _ => true) true Tryz.f9.params.toList args.toList ds p := LR
 rw [Tryz.params9] at dS zi r2
 obtain ⟨v0, aiK, d0, agk, jD, cY, n8, rfl, rfl, aG, hV⟩ := trodAll_cons dS
 obtain ⟨v1, aiL, d1, FM, p1, q1, rfl, rfl, rfl, h1, cP⟩ := trodAll_cons hV
 obtain ⟨rfl, rfl, rfl⟩ := trodAll_nil cP
 obtain rfl : args = #[v0, v1] := by cases args; simp_all
 obtain ⟨rfl, rfl⟩ := trodVars_none po
 obtain ⟨qz, Fx, adT⟩ := abH Tryz.underlying22 (by kernel_rfl) (fun n cs d h => Vm Tryz.underlying63 (by kernel_rfl) rfl rfl rfl (by kernel_rfl) rfl (by kernel_rfl) (by kernel_rfl) Tryz.underlying61 rfl rfl (by kernel_rfl) (by kernel_rfl) (by kernel_rfl) (by kernel_rfl) h) (okWide_slice Tryz.underlying22 (zi 0 22 v0 rfl rfl)) aG
 obtain ⟨rfl, g1⟩ := VX (d := 6) (t := 3) (by kernel_rfl) h1
 have jR := abE (D := .int .i64) Tryz.underlying3 (fun _ h => by cases h) (fun _ _ h => by cases h) (zi 1 3 v1 rfl rfl)
 obtain ⟨Ds, rfl, ZK, aam⟩ := abD (k := .i64) Tryz.underlying3 jR
 have TJ : -9223372036854775808 ≤ Ds ∧ Ds ≤ 9223372036854775807 := ⟨by simpa [IntKind.min, IntKind.max, IntKind.signed, IntKind.bits] using ZK, by simpa [IntKind.min, IntKind.max, IntKind.signed, IntKind.bits] using aam⟩
 clear LR
 simp only [pF, List.nil_append] at yN
 have bi : ∀ x ∈ jD, x.block < W.heap.size := fun x aa => by simpa using yN.lt x aa
 refine (acY (args := [j9 qz, .w (.one (.c (.int .i64 Ds)))]) (ZV qz Ds Fx TJ) [v0, _] W rfl ?_).mono fun e W' ⟨he, aw⟩ => ?_
 ·intro i x v aa hv
  match i with
  | 0 => simp only [tX, List.getElem?_cons_succ, hR] at aa hv; subst aa; subst hv; exact adT
  | 1 => simp only [tX, List.getElem?_cons_succ, hR] at aa hv; subst aa; subst hv; exact (P9 rfl rfl)
  | i + 2 => simp at aa
 ·subst he
  exact ⟨_, rfl, _, _, _, [], _, [], yN, trodAll_cons_mk (shut_bool Tryz.underlying4 _) trodAll_mk0, (trodAll_cons_mk (Below.trod laidOut (by kernel_rfl) (of_decide_eq_true (by kernel_rfl)) aG aw (fun x aa => bi x (by simp [aa]))) (trodAll_cons_mk (g1 W' 0 _ true) trodAll_mk0)), rfl, aw.frame _, fun h => by cases h⟩
noncomputable def world (os : Os) : World := World.holding aj os ⟨#[], #[], []⟩
theorem ZT (os : Os) : laidMet aj Rows.rungLastRow.laid ((world os).forCall (fun _ _ => 0) ⟨#[], #[.slice none 0 0, .int .i64 0], []⟩).memory :=
 laidMet_of_run' 8 (by kernel_rfl) (by kernel_rfl)
theorem reads (os : Os) {H : Type} (enc : TypeId × Value → H) : ∃ places, DataW.whole enc aj ((world os).forCall (fun _ _ => 0) ⟨#[], #[.slice none 0 0, .int .i64 0], []⟩).memory Tryz.f9.params.toList Rows.rungLastSpec.vars false (#[.slice none 0 0, .int .i64 0] : Array Value).toList 8 = some ([.nil, .lit (.int .i64 0)], [], places) :=
 ⟨[], by kernel_rfl⟩
theorem lifted (os : Os) (started : os.Started) (H : Type) (enc : TypeId × Value → H) (F : Stop.Interp) :
  ReturnsInHanded {} Tryz.checked os 9 .any ((OpenSpec.ofChange Rows.rungLastSpec).preRow enc aj Tryz.f9 Rows.rungLastRow.domain false Rows.rungLastRow.laid) (((OpenSpec.ofChange Rows.rungLastSpec).at F).post enc aj Tryz.f9 false true false false) := by
 obtain ⟨places, aa⟩ := reads os enc
 refine returnsInHanded_of_row (C := Tryz.checked) (s := OpenSpec.ofChange Rows.rungLastSpec) abL started (by kernel_rfl) Tryz.func9
  (witness_row_at (enc := enc) (C := Tryz.checked) false (world os) #[.slice none 0 0, .int .i64 0] rfl (by kernel_rfl) (by kernel_rfl) (by kernel_rfl)
   (OpenSpec.preRow_of_cond 8 aa (by kernel_rfl) (fun k af => by cases af) (by kernel_rfl) (ZT os))) ?_
 intro W base args ds gs before zi eT _ ag4 r2 iB _ _
 exact Up H enc W base args ds gs before _ zi eT r2
theorem inst : Tryz.f9.isInstance aj Rows.rungLastRow.origin Rows.rungLastRow.targs := of_decide_eq_true (by kernel_rfl)
theorem wrap : Tryz.f9.isWrapper aj Rows.rungLastRow.wrapper Rows.rungLastRow.mainSum := by
 unfold Func.isWrapper; first | (rw [if_pos (by decide +kernel)]; kernel_rfl) | (rw [if_neg (by decide +kernel)]; exact ⟨rfl, rfl⟩)
theorem closed : joinedFacts aj 9 Tryz.f9 (OpenSpec.ofChange Rows.rungLastSpec).bare Rows.rungLastRow = true := by kernel_rfl
theorem said : Rows.RungLastSaid :=
 OpenClaim.holds_of_cond 9 Tryz.f9 rfl rfl rfl rfl rfl rfl rfl ⟨rfl, rfl, rfl, rfl, rfl⟩ rfl rfl rfl rfl rfl (by kernel_rfl) Tryz.func9 closed
  inst wrap
  (fun os started H enc _ F => by rw [OpenClaim.pre_eq_preRow]; exact lifted os started H enc F)
end Go.Proofs.YtpochbhajmbfdaaGreat.rungLast
