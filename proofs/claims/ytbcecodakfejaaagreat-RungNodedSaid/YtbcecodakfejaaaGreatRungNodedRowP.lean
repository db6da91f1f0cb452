/-
  RungNoded: for all its arguments the call returns true, and its arguments read as before. My own text.
-/
import Derived.Test.YtbcecodakfejaaaGreatRows
import Derived.Test.YtbcecodakfejaaaGreatSNodedK17
set_option maxRecDepth 100000
set_option maxHeartbeats 64000000
set_option linter.unusedVariables false
set_option linter.unusedSimpArgs false
set_option linter.unusedSectionVars false
open Go.Proofs.Tryz renaming prog → ag
namespace Go.Proofs.YtbcecodakfejaaaGreat.rungNoded
open Go.ChangeShapes Go.WideShapes Go.ChangeAt Go.RowKit Go.Joins
theorem Vu (H : Type) (enc : TypeId × Value → H) (W : World) (base : Nat) (args : Array Value) (ds gs : List (DataW H)) (before : List MemPlace) (us : List TypeId)
  (xh : ∀ (j : Nat) t v, Tryz.f5.params[j]? = some t → args[j]? = some v → Value.okWide ag W .any base t v)
  (dS : DataW.Whole enc ag Tryz.f5.params.toList Rows.rungNodedSpec.vars false W args.toList ds gs before)
  (sa : (DataW.weightsEach ag (Tryz.f5.params.toList ++ us) (ds ++ gs)).all (· ≤ reachBytes) = true) :
  Calls ag 5 args W fun e bh => ∃ v, e = .returned v ∧ Rows.rungNodedSpec.post enc ag Tryz.f5 false true false false W args v bh := by
 have yS := dS
 obtain ⟨p, q, Mn, nf, rfl, ail, hl⟩ := dS
 have de : DataW.TrodAll enc ag W 0 (fun _ => true) true Tryz.f5.params.toList args.toList ds p := Mn
 rw [Tryz.params5] at de xh sa
 obtain ⟨v0, aji, d0, ahV, l7, di, oD, rfl, rfl, aD, gN⟩ := trodAll_cons de
 obtain ⟨v1, ajj, d1, Fy, p1, q1, rfl, rfl, rfl, h1, b6⟩ := trodAll_cons gN
 obtain ⟨v2, ajk, d2, VY, p2, q2, rfl, rfl, rfl, h2, cD⟩ := trodAll_cons b6
 obtain ⟨rfl, rfl, rfl⟩ := trodAll_nil cD
 obtain rfl : args = #[v0, v1, v2] := by cases args; simp_all
 obtain ⟨rfl, rfl⟩ := trodVars_none nf
 obtain ⟨oQ, Fj, afg⟩ := ach Tryz.underlying22 (by kernel_rfl) (fun n cs d h => Wf Tryz.underlying53 (by kernel_rfl) rfl rfl rfl (by kernel_rfl) rfl (by kernel_rfl) (by kernel_rfl) Tryz.underlying38 rfl rfl (by kernel_rfl) (by kernel_rfl) (by kernel_rfl) (by kernel_rfl) h) (okWide_slice Tryz.underlying22 (xh 0 22 v0 rfl rfl)) aD
 obtain ⟨rfl, g1⟩ := L9 (d := 6) (t := 3) (by kernel_rfl) h1
 have hj := Pt (D := .int .i64) Tryz.underlying3 (fun _ h => by cases h) (fun _ _ h => by cases h) (xh 1 3 v1 rfl rfl)
 obtain ⟨Dc, rfl, aak, aaR⟩ := Ps (k := .i64) Tryz.underlying3 hj
 have U1 : -9223372036854775808 ≤ Dc ∧ Dc ≤ 9223372036854775807 := ⟨by simpa [IntKind.min, IntKind.max, IntKind.signed, IntKind.bits] using aak, by simpa [IntKind.min, IntKind.max, IntKind.signed, IntKind.bits] using aaR⟩
 obtain ⟨rfl, g2⟩ := L9 (d := 6) (t := 3) (by kernel_rfl) h2
 have gE := Pt (D := .int .i64) Tryz.underlying3 (fun _ h => by cases h) (fun _ _ h => by cases h) (xh 2 3 v2 rfl rfl)
 obtain ⟨Dd, rfl, aal, aaS⟩ := Ps (k := .i64) Tryz.underlying3 gE
 have U2 : -9223372036854775808 ≤ Dd ∧ Dd ≤ 9223372036854775807 := ⟨by simpa [IntKind.min, IntKind.max, IntKind.signed, IntKind.bits] using aal, by simpa [IntKind.min, IntKind.max, IntKind.signed, IntKind.bits] using aaS⟩
 clear Mn
 simp only [nC, List.nil_append] at yS
 have bg : ∀ x ∈ l7, x.block < W.heap.size := fun x aa => by simpa using yS.lt x aa
 refine (ad6 (args := [jA oQ, .w (.one (.c (.int .i64 Dc))), .w (.one (.c (.int .i64 Dd)))]) (abP oQ Dc Dd Fj U1 U2) [v0, _, _] W rfl ?_).mono fun e bh ⟨he, aq⟩ => ?_
 ·intro i x v aa hv
  match i with
  | 0 => simp only [sA, xE, h0] at aa hv; subst aa; subst hv; exact afg
  | 1 => simp only [sA, xE, h0] at aa hv; subst aa; subst hv; exact (D0 rfl rfl)
  | 2 => simp only [sA, xE, h0] at aa hv; subst aa; subst hv; exact (D0 rfl rfl)
  | i + 3 => simp at aa
 ·subst he
  exact ⟨_, rfl, _, _, _, [], _, [], yS, trodAll_cons_mk (shut_bool Tryz.underlying4 _) trodAll_mk0, (trodAll_cons_mk (Below.trod laidOut (by kernel_rfl) (of_decide_eq_true (by kernel_rfl)) aD aq (fun x aa => bg x (by simp [aa]))) (trodAll_cons_mk (g1 bh 0 _ true) (trodAll_cons_mk (g2 bh 0 _ true) trodAll_mk0))), rfl, aq.frame _, fun h => by cases h⟩
noncomputable def world (os : Os) : World := World.holding ag os ⟨#[], #[], []⟩
theorem aar (os : Os) : laidMet ag Rows.rungNodedRow.laid ((world os).forCall (fun _ _ => 0) ⟨#[], #[.slice none 0 0, .int .i64 0, .int .i64 0], []⟩).memory :=
 laidMet_of_run' 8 (by kernel_rfl) (by kernel_rfl)
theorem reads (os : Os) {H : Type} (enc : TypeId × Value → H) : ∃ places, DataW.whole enc ag ((world os).forCall (fun _ _ => 0) ⟨#[], #[.slice none 0 0, .int .i64 0, .int .i64 0], []⟩).memory Tryz.f5.params.toList Rows.rungNodedSpec.vars false (#[.slice none 0 0, .int .i64 0, .int .i64 0] : Array Value).toList 8 = some ([.nil, .lit (.int .i64 0), .lit (.int .i64 0)], [], places) :=
 ⟨[], by kernel_rfl⟩
theorem lifted (os : Os) (started : os.Started) (H : Type) (enc : TypeId × Value → H) (F : Stop.Interp) :
  ReturnsInHanded {} Tryz.checked os 5 .any ((OpenSpec.ofChange Rows.rungNodedSpec).preRow enc ag Tryz.f5 Rows.rungNodedRow.domain false Rows.rungNodedRow.laid) (((OpenSpec.ofChange Rows.rungNodedSpec).at F).post enc ag Tryz.f5 false true false false) := by
 obtain ⟨places, aa⟩ := reads os enc
 refine returnsInHanded_of_row (C := Tryz.checked) (s := OpenSpec.ofChange Rows.rungNodedSpec) acm started (by kernel_rfl) Tryz.func5
  (witness_row_at (enc := enc) (C := Tryz.checked) false (world os) #[.slice none 0 0, .int .i64 0, .int .i64 0] rfl (by kernel_rfl) (by kernel_rfl) (by kernel_rfl)
   (OpenSpec.preRow_of_cond 8 aa (by kernel_rfl) (fun k af => by cases af) (by kernel_rfl) (aar os))) ?_
 intro W base args ds gs before xh dS _ aii sa hV _ _
 exact Vu H enc W base args ds gs before _ xh dS sa
theorem inst : Tryz.f5.isInstance ag Rows.rungNodedRow.origin Rows.rungNodedRow.targs := of_decide_eq_true (by kernel_rfl)
theorem wrap : Tryz.f5.isWrapper ag Rows.rungNodedRow.wrapper Rows.rungNodedRow.mainSum := by
 unfold Func.isWrapper; first | (rw [if_pos (by decide +kernel)]; kernel_rfl) | (rw [if_neg (by decide +kernel)]; exact ⟨rfl, rfl⟩)
theorem closed : joinedFacts ag 5 Tryz.f5 (OpenSpec.ofChange Rows.rungNodedSpec).bare Rows.rungNodedRow = true := by kernel_rfl
theorem said : Rows.RungNodedSaid :=
 OpenClaim.holds_of_cond 5 Tryz.f5 rfl rfl rfl rfl rfl rfl rfl ⟨rfl, rfl, rfl, rfl, rfl⟩ rfl rfl rfl rfl rfl (by kernel_rfl) Tryz.func5 closed
  inst wrap
  (fun os started H enc _ F => by rw [OpenClaim.pre_eq_preRow]; exact lifted os started H enc F)
end Go.Proofs.YtbcecodakfejaaaGreat.rungNoded
