/-
  RungKeeps: for all its arguments the call returns true, and its arguments read as before. My own text.
-/
import Derived.Test.YtbcecodakfejaaaGreatRows
import Derived.Test.YtbcecodakfejaaaGreatSKeepsK18
set_option maxRecDepth 100000
set_option maxHeartbeats 64000000
set_option linter.unusedVariables false
set_option linter.unusedSimpArgs false
set_option linter.unusedSectionVars false
open Go.Proofs.Tryz renaming prog → ag
namespace Go.Proofs.YtbcecodakfejaaaGreat.rungKeeps
open Go.ChangeShapes Go.WideShapes Go.ChangeAt Go.RowKit Go.Joins
theorem Xu (H : Type) (enc : TypeId × Value → H) (W : World) (base : Nat) (args : Array Value) (ds gs : List (DataW H)) (before : List MemPlace) (us : List TypeId)
  (Aq : ∀ (j : Nat) t v, Tryz.f6.params[j]? = some t → args[j]? = some v → Value.okWide ag W .any base t v)
  (dT : DataW.Whole enc ag Tryz.f6.params.toList Rows.rungKeepsSpec.vars false W args.toList ds gs before)
  (s6 : (DataW.weightsEach ag (Tryz.f6.params.toList ++ us) (ds ++ gs)).all (· ≤ reachBytes) = true) :
  Calls ag 6 args W fun e bk => ∃ v, e = .returned v ∧ Rows.rungKeepsSpec.post enc ag Tryz.f6 false true false false W args v bk := by
 have zG := dT
 obtain ⟨p, q, Oe, nG, rfl, akA, hE⟩ := dT
 have dn : DataW.TrodAll enc ag W 0 (fun _ => true) true Tryz.f6.params.toList args.toList ds p := Oe
 rw [Tryz.params6] at dn Aq s6
 obtain ⟨v0, alG, d0, aka, mG, q0, pe, rfl, rfl, aA, gW⟩ := trodAll_cons dn
 obtain ⟨v1, alH, d1, G9, p1, q1, rfl, rfl, rfl, h1, bV⟩ := trodAll_cons gW
 obtain ⟨rfl, rfl, rfl⟩ := trodAll_nil bV
 obtain rfl : args = #[v0, v1] := by cases args; simp_all
 obtain ⟨rfl, rfl⟩ := trodVars_none nG
 obtain ⟨pw, GU, ahm⟩ := aep Tryz.underlying22 (by kernel_rfl) (fun n cs d h => Yh Tryz.underlying53 (by kernel_rfl) rfl rfl rfl (by kernel_rfl) rfl (by kernel_rfl) (by kernel_rfl) Tryz.underlying38 rfl rfl (by kernel_rfl) (by kernel_rfl) (by kernel_rfl) (by kernel_rfl) h) (okWide_slice Tryz.underlying22 (Aq 0 22 v0 rfl rfl)) aA
 obtain ⟨rfl, g1⟩ := YE (d := 6) (t := 3) (by kernel_rfl) h1
 have iZ := aen (D := .int .i64) Tryz.underlying3 (fun _ h => by cases h) (fun _ _ h => by cases h) (Aq 1 3 v1 rfl rfl)
 obtain ⟨Ep, rfl, acx, ac1⟩ := aem (k := .i64) Tryz.underlying3 iZ
 have W0 : -9223372036854775808 ≤ Ep ∧ Ep ≤ 9223372036854775807 := ⟨by simpa [IntKind.min, IntKind.max, IntKind.signed, IntKind.bits] using acx, by simpa [IntKind.min, IntKind.max, IntKind.signed, IntKind.bits] using ac1⟩
 clear Oe
 simp only [me, List.nil_append] at zG
 have bb : ∀ x ∈ mG, x.block < W.heap.size := fun x aa => by simpa using zG.lt x aa
 refine (agd (args := [gX pw, .w (.one (.c (.int .i64 Ep)))]) (acp pw Ep GU W0) [v0, _] W rfl ?_).mono fun e bk ⟨he, an⟩ => ?_
 ·intro i x v aa hv
  match i with
  | 0 => simp only [u2, List.getElem?_cons_succ, iT] at aa hv; subst aa; subst hv; exact ahm
  | 1 => simp only [u2, List.getElem?_cons_succ, iT] at aa hv; subst aa; subst hv; exact (Kh rfl rfl)
  | i + 2 => simp at aa
 ·subst he
  exact ⟨_, rfl, _, _, _, [], _, [], zG, trodAll_cons_mk (shut_bool Tryz.underlying4 _) trodAll_mk0, (trodAll_cons_mk (Below.trod laidOut (by kernel_rfl) (of_decide_eq_true (by kernel_rfl)) aA an (fun x aa => bb x (by simp [aa]))) (trodAll_cons_mk (g1 bk 0 _ true) trodAll_mk0)), rfl, an.frame _, fun h => by cases h⟩
noncomputable def world (os : Os) : World := World.holding ag os ⟨#[], #[], []⟩
theorem acD (os : Os) : laidMet ag Rows.rungKeepsRow.laid ((world os).forCall (fun _ _ => 0) ⟨#[], #[.slice none 0 0, .int .i64 0], []⟩).memory :=
 laidMet_of_run' 8 (by kernel_rfl) (by kernel_rfl)
theorem reads (os : Os) {H : Type} (enc : TypeId × Value → H) : ∃ places, DataW.whole enc ag ((world os).forCall (fun _ _ => 0) ⟨#[], #[.slice none 0 0, .int .i64 0], []⟩).memory Tryz.f6.params.toList Rows.rungKeepsSpec.vars false (#[.slice none 0 0, .int .i64 0] : Array Value).toList 8 = some ([.nil, .lit (.int .i64 0)], [], places) :=
 ⟨[], by kernel_rfl⟩
theorem lifted (os : Os) (started : os.Started) (H : Type) (enc : TypeId × Value → H) (F : Stop.Interp) :
  ReturnsInHanded {} Tryz.checked os 6 .any ((OpenSpec.ofChange Rows.rungKeepsSpec).preRow enc ag Tryz.f6 Rows.rungKeepsRow.domain false Rows.rungKeepsRow.laid) (((OpenSpec.ofChange Rows.rungKeepsSpec).at F).post enc ag Tryz.f6 false true false false) := by
 obtain ⟨places, aa⟩ := reads os enc
 refine returnsInHanded_of_row (C := Tryz.checked) (s := OpenSpec.ofChange Rows.rungKeepsSpec) aet started (by kernel_rfl) Tryz.func6
  (witness_row_at (enc := enc) (C := Tryz.checked) false (world os) #[.slice none 0 0, .int .i64 0] rfl (by kernel_rfl) (by kernel_rfl) (by kernel_rfl)
   (OpenSpec.preRow_of_cond 8 aa (by kernel_rfl) (fun k af => by cases af) (by kernel_rfl) (acD os))) ?_
 intro W base args ds gs before Aq dT _ akx s6 iq _ _
 exact Xu H enc W base args ds gs before _ Aq dT s6
theorem inst : Tryz.f6.isInstance ag Rows.rungKeepsRow.origin Rows.rungKeepsRow.targs := of_decide_eq_true (by kernel_rfl)
theorem wrap : Tryz.f6.isWrapper ag Rows.rungKeepsRow.wrapper Rows.rungKeepsRow.mainSum := by
 unfold Func.isWrapper; first | (rw [if_pos (by decide +kernel)]; kernel_rfl) | (rw [if_neg (by decide +kernel)]; exact ⟨rfl, rfl⟩)
theorem closed : joinedFacts ag 6 Tryz.f6 (OpenSpec.ofChange Rows.rungKeepsSpec).bare Rows.rungKeepsRow = true := by kernel_rfl
theorem said : Rows.RungKeepsSaid :=
 OpenClaim.holds_of_cond 6 Tryz.f6 rfl rfl rfl rfl rfl rfl rfl ⟨rfl, rfl, rfl, rfl, rfl⟩ rfl rfl rfl rfl rfl (by kernel_rfl) Tryz.func6 closed
  inst wrap
  (fun os started H enc _ F => by rw [OpenClaim.pre_eq_preRow]; exact lifted os started H enc F)
end Go.Proofs.YtbcecodakfejaaaGreat.rungKeeps
