/-
  RungApart: for all its arguments the call returns true, and its arguments read as before. My own text.
-/
import Derived.Test.YtbcecodakfejaaaGreatRows
import Derived.Test.YtbcecodakfejaaaGreatSApartK15
set_option maxRecDepth 100000
set_option maxHeartbeats 64000000
set_option linter.unusedVariables false
set_option linter.unusedSimpArgs false
set_option linter.unusedSectionVars false
open Go.Proofs.Tryz renaming prog → ag
namespace Go.Proofs.YtbcecodakfejaaaGreat.rungApart
open Go.ChangeShapes Go.WideShapes Go.ChangeAt Go.RowKit Go.Joins
theorem Vd (H : Type) (enc : TypeId × Value → H) (W : World) (base : Nat) (args : Array Value) (ds gs : List (DataW H)) (before : List MemPlace) (us : List TypeId)
  (wG : ∀ (j : Nat) t v, Tryz.f3.params[j]? = some t → args[j]? = some v → Value.okWide ag W .any base t v)
  (dJ : DataW.Whole enc ag Tryz.f3.params.toList Rows.rungApartSpec.vars false W args.toList ds gs before)
  (rK : (DataW.weightsEach ag (Tryz.f3.params.toList ++ us) (ds ++ gs)).all (· ≤ reachBytes) = true) :
  Calls ag 3 args W fun e bb => ∃ v, e = .returned v ∧ Rows.rungApartSpec.post enc ag Tryz.f3 false true false false W args v bb := by
 have ym := dJ
 obtain ⟨p, q, LX, pk, rfl, ahs, gJ⟩ := dJ
 have dR : DataW.TrodAll enc ag W 0 (fun _ => true) true Tryz.f3.params.toList args.toList ds p := LX
 rw [Tryz.params3] at dR wG rK
 obtain ⟨v0, air, d0, ag6, lI, q0, od, rfl, rfl, aA, gn⟩ := trodAll_cons dR
 obtain ⟨v1, ais, d1, E2, p1, q1, rfl, rfl, rfl, h1, b9⟩ := trodAll_cons gn
 obtain ⟨v2, ait, d2, VD, p2, q2, rfl, rfl, rfl, h2, cT⟩ := trodAll_cons b9
 obtain ⟨rfl, rfl, rfl⟩ := trodAll_nil cT
 obtain rfl : args = #[v0, v1, v2] := by cases args; simp_all
 obtain ⟨rfl, rfl⟩ := trodVars_none pk
 obtain ⟨qw, EN, aej⟩ := abA Tryz.underlying22 (by kernel_rfl) (fun n cs d h => VV Tryz.underlying53 (by kernel_rfl) rfl rfl rfl (by kernel_rfl) rfl (by kernel_rfl) (by kernel_rfl) Tryz.underlying38 rfl rfl (by kernel_rfl) (by kernel_rfl) (by kernel_rfl) (by kernel_rfl) h) (okWide_slice Tryz.underlying22 (wG 0 22 v0 rfl rfl)) aA
 obtain ⟨rfl, g1⟩ := LG (d := 6) (t := 3) (by kernel_rfl) h1
 have hG := O2 (D := .int .i64) Tryz.underlying3 (fun _ h => by cases h) (fun _ _ h => by cases h) (wG 1 3 v1 rfl rfl)
 obtain ⟨CF, rfl, ZN, aah⟩ := O1 (k := .i64) Tryz.underlying3 hG
 have UH : -9223372036854775808 ≤ CF ∧ CF ≤ 9223372036854775807 := ⟨by simpa [IntKind.min, IntKind.max, IntKind.signed, IntKind.bits] using ZN, by simpa [IntKind.min, IntKind.max, IntKind.signed, IntKind.bits] using aah⟩
 obtain ⟨rfl, g2⟩ := LG (d := 6) (t := 3) (by kernel_rfl) h2
 have gH := O2 (D := .int .i64) Tryz.underlying3 (fun _ h => by cases h) (fun _ _ h => by cases h) (wG 2 3 v2 rfl rfl)
 obtain ⟨CG, rfl, ZO, aai⟩ := O1 (k := .i64) Tryz.underlying3 gH
 have UI : -9223372036854775808 ≤ CG ∧ CG ≤ 9223372036854775807 := ⟨by simpa [IntKind.min, IntKind.max, IntKind.signed, IntKind.bits] using ZO, by simpa [IntKind.min, IntKind.max, IntKind.signed, IntKind.bits] using aai⟩
 clear LX
 simp only [mn, List.nil_append] at ym
 have a8 : ∀ x ∈ lI, x.block < W.heap.size := fun x aa => by simpa using ym.lt x aa
 refine (adl (args := [jL qw, .w (.one (.c (.int .i64 CF))), .w (.one (.c (.int .i64 CG)))]) (Uv qw CF CG EN UH UI) [v0, _, _] W rfl ?_).mono fun e bb ⟨he, ao⟩ => ?_
 ·intro i x v aa hv
  match i with
  | 0 => simp only [pI, va, gP] at aa hv; subst aa; subst hv; exact aej
  | 1 => simp only [pI, va, gP] at aa hv; subst aa; subst hv; exact (Dn rfl rfl)
  | 2 => simp only [pI, va, gP] at aa hv; subst aa; subst hv; exact (Dn rfl rfl)
  | i + 3 => simp at aa
 ·subst he
  exact ⟨_, rfl, _, _, _, [], _, [], ym, trodAll_cons_mk (shut_bool Tryz.underlying4 _) trodAll_mk0, (trodAll_cons_mk (Below.trod laidOut (by kernel_rfl) (of_decide_eq_true (by kernel_rfl)) aA ao (fun x aa => a8 x (by simp [aa]))) (trodAll_cons_mk (g1 bb 0 _ true) (trodAll_cons_mk (g2 bb 0 _ true) trodAll_mk0))), rfl, ao.frame _, fun h => by cases h⟩
noncomputable def world (os : Os) : World := World.holding ag os ⟨#[], #[], []⟩
theorem ZU (os : Os) : laidMet ag Rows.rungApartRow.laid ((world os).forCall (fun _ _ => 0) ⟨#[], #[.slice none 0 0, .int .i64 0, .int .i64 0], []⟩).memory :=
 laidMet_of_run' 8 (by kernel_rfl) (by kernel_rfl)
theorem reads (os : Os) {H : Type} (enc : TypeId × Value → H) : ∃ places, DataW.whole enc ag ((world os).forCall (fun _ _ => 0) ⟨#[], #[.slice none 0 0, .int .i64 0, .int .i64 0], []⟩).memory Tryz.f3.params.toList Rows.rungApartSpec.vars false (#[.slice none 0 0, .int .i64 0, .int .i64 0] : Array Value).toList 8 = some ([.nil, .lit (.int .i64 0), .lit (.int .i64 0)], [], places) :=
 ⟨[], by kernel_rfl⟩
theorem lifted (os : Os) (started : os.Started) (H : Type) (enc : TypeId × Value → H) (F : Stop.Interp) :
  ReturnsInHanded {} Tryz.checked os 3 .any ((OpenSpec.ofChange Rows.rungApartSpec).preRow enc ag Tryz.f3 Rows.rungApartRow.domain false Rows.rungApartRow.laid) (((OpenSpec.ofChange Rows.rungApartSpec).at F).post enc ag Tryz.f3 false true false false) := by
 obtain ⟨places, aa⟩ := reads os enc
 refine returnsInHanded_of_row (C := Tryz.checked) (s := OpenSpec.ofChange Rows.rungApartSpec) abE started (by kernel_rfl) Tryz.func3
  (witness_row_at (enc := enc) (C := Tryz.checked) false (world os) #[.slice none 0 0, .int .i64 0, .int .i64 0] rfl (by kernel_rfl) (by kernel_rfl) (by kernel_rfl)
   (OpenSpec.preRow_of_cond 8 aa (by kernel_rfl) (fun k af => by cases af) (by kernel_rfl) (ZU os))) ?_
 intro W base args ds gs before wG dJ _ ahp rK iK _ _
 exact Vd H enc W base args ds gs before _ wG dJ rK
theorem inst : Tryz.f3.isInstance ag Rows.rungApartRow.origin Rows.rungApartRow.targs := of_decide_eq_true (by kernel_rfl)
theorem wrap : Tryz.f3.isWrapper ag Rows.rungApartRow.wrapper Rows.rungApartRow.mainSum := by
 unfold Func.isWrapper; first | (rw [if_pos (by decide +kernel)]; kernel_rfl) | (rw [if_neg (by decide +kernel)]; exact ⟨rfl, rfl⟩)
theorem closed : joinedFacts ag 3 Tryz.f3 (OpenSpec.ofChange Rows.rungApartSpec).bare Rows.rungApartRow = true := by kernel_rfl
theorem said : Rows.RungApartSaid :=
 OpenClaim.holds_of_cond 3 Tryz.f3 rfl rfl rfl rfl rfl rfl rfl ⟨rfl, rfl, rfl, rfl, rfl⟩ rfl rfl rfl rfl rfl (by kernel_rfl) Tryz.func3 closed
  inst wrap
  (fun os started H enc _ F => by rw [OpenClaim.pre_eq_preRow]; exact lifted os started H enc F)
end Go.Proofs.YtbcecodakfejaaaGreat.rungApart
