/-
  RungChains: for all its arguments the call returns true, and its arguments read as before. My own text.
-/
import Derived.Test.YtbcecodakfejaaaGreatRows
import Derived.Test.YtbcecodakfejaaaGreatSChainsK16
set_option maxRecDepth 100000
set_option maxHeartbeats 64000000
set_option linter.unusedVariables false
set_option linter.unusedSimpArgs false
set_option linter.unusedSectionVars false
open Go.Proofs.Tryz renaming prog → ag
namespace Go.Proofs.YtbcecodakfejaaaGreat.rungChains
open Go.ChangeShapes Go.WideShapes Go.ChangeAt Go.RowKit Go.Joins
theorem V5 (H : Type) (enc : TypeId × Value → H) (W : World) (base : Nat) (args : Array Value) (ds gs : List (DataW H)) (before : List MemPlace) (us : List TypeId)
  (w0 : ∀ (j : Nat) t v, Tryz.f4.params[j]? = some t → args[j]? = some v → Value.okWide ag W .any base t v)
  (dV : DataW.Whole enc ag Tryz.f4.params.toList Rows.rungChainsSpec.vars false W args.toList ds gs before)
  (r4 : (DataW.weightsEach ag (Tryz.f4.params.toList ++ us) (ds ++ gs)).all (· ≤ reachBytes) = true) :
  Calls ag 4 args W fun e bf => ∃ v, e = .returned v ∧ Rows.rungChainsSpec.post enc ag Tryz.f4 false true false false W args v bf := by
 have yN := dV
 obtain ⟨p, q, MO, mr, rfl, aiG, hh⟩ := dV
 have ec : DataW.TrodAll enc ag W 0 (fun _ => true) true Tryz.f4.params.toList args.toList ds p := MO
 rw [Tryz.params4] at ec w0 r4
 obtain ⟨v0, ajF, d0, aie, lY, c0, oE, rfl, rfl, az, gM⟩ := trodAll_cons ec
 obtain ⟨v1, ajG, d1, FE, p1, q1, rfl, rfl, rfl, h1, cx⟩ := trodAll_cons gM
 obtain ⟨v2, ajH, d2, Wy, p2, q2, rfl, rfl, rfl, h2, dF⟩ := trodAll_cons cx
 obtain ⟨rfl, rfl, rfl⟩ := trodAll_nil dF
 obtain rfl : args = #[v0, v1, v2] := by cases args; simp_all
 obtain ⟨rfl, rfl⟩ := trodVars_none mr
 obtain ⟨qS, Fl, afp⟩ := acC Tryz.underlying22 (by kernel_rfl) (fun n cs d h => WO Tryz.underlying53 (by kernel_rfl) rfl rfl rfl (by kernel_rfl) rfl (by kernel_rfl) (by kernel_rfl) Tryz.underlying38 rfl rfl (by kernel_rfl) (by kernel_rfl) (by kernel_rfl) (by kernel_rfl) h) (okWide_slice Tryz.underlying22 (w0 0 22 v0 rfl rfl)) az
 obtain ⟨rfl, g1⟩ := MB (d := 6) (t := 3) (by kernel_rfl) h1
 have gd := P3 (D := .int .i64) Tryz.underlying3 (fun _ h => by cases h) (fun _ _ h => by cases h) (w0 1 3 v1 rfl rfl)
 obtain ⟨Df, rfl, aaK, abe⟩ := P2 (k := .i64) Tryz.underlying3 gd
 have Vv : -9223372036854775808 ≤ Df ∧ Df ≤ 9223372036854775807 := ⟨by simpa [IntKind.min, IntKind.max, IntKind.signed, IntKind.bits] using aaK, by simpa [IntKind.min, IntKind.max, IntKind.signed, IntKind.bits] using abe⟩
 obtain ⟨rfl, g2⟩ := MB (d := 6) (t := 3) (by kernel_rfl) h2
 have fT := P3 (D := .int .i64) Tryz.underlying3 (fun _ h => by cases h) (fun _ _ h => by cases h) (w0 2 3 v2 rfl rfl)
 obtain ⟨Dg, rfl, aaL, abf⟩ := P2 (k := .i64) Tryz.underlying3 fT
 have Vw : -9223372036854775808 ≤ Dg ∧ Dg ≤ 9223372036854775807 := ⟨by simpa [IntKind.min, IntKind.max, IntKind.signed, IntKind.bits] using aaL, by simpa [IntKind.min, IntKind.max, IntKind.signed, IntKind.bits] using abf⟩
 clear MO
 simp only [p0, List.nil_append] at yN
 have bb : ∀ x ∈ lY, x.block < W.heap.size := fun x aa => by simpa using yN.lt x aa
 refine (aei (args := [jh qS, .w (.one (.c (.int .i64 Df))), .w (.one (.c (.int .i64 Dg)))]) (VT qS Df Dg Fl Vv Vw) [v0, _, _] W rfl ?_).mono fun e bf ⟨he, aq⟩ => ?_
 ·intro i x v aa hv
  match i with
  | 0 => simp only [sk, xp, hY] at aa hv; subst aa; subst hv; exact afp
  | 1 => simp only [sk, xp, hY] at aa hv; subst aa; subst hv; exact (DZ rfl rfl)
  | 2 => simp only [sk, xp, hY] at aa hv; subst aa; subst hv; exact (DZ rfl rfl)
  | i + 3 => simp at aa
 ·subst he
  exact ⟨_, rfl, _, _, _, [], _, [], yN, trodAll_cons_mk (shut_bool Tryz.underlying4 _) trodAll_mk0, (trodAll_cons_mk (Below.trod laidOut (by kernel_rfl) (of_decide_eq_true (by kernel_rfl)) az aq (fun x aa => bb x (by simp [aa]))) (trodAll_cons_mk (g1 bf 0 _ true) (trodAll_cons_mk (g2 bf 0 _ true) trodAll_mk0))), rfl, aq.frame _, fun h => by cases h⟩
noncomputable def world (os : Os) : World := World.holding ag os ⟨#[], #[], []⟩
theorem aaR (os : Os) : laidMet ag Rows.rungChainsRow.laid ((world os).forCall (fun _ _ => 0) ⟨#[], #[.slice none 0 0, .int .i64 0, .int .i64 0], []⟩).memory :=
 laidMet_of_run' 8 (by kernel_rfl) (by kernel_rfl)
theorem reads (os : Os) {H : Type} (enc : TypeId × Value → H) : ∃ places, DataW.whole enc ag ((world os).forCall (fun _ _ => 0) ⟨#[], #[.slice none 0 0, .int .i64 0, .int .i64 0], []⟩).memory Tryz.f4.params.toList Rows.rungChainsSpec.vars false (#[.slice none 0 0, .int .i64 0, .int .i64 0] : Array Value).toList 8 = some ([.nil, .lit (.int .i64 0), .lit (.int .i64 0)], [], places) :=
 ⟨[], by kernel_rfl⟩
theorem lifted (os : Os) (started : os.Started) (H : Type) (enc : TypeId × Value → H) (F : Stop.Interp) :
  ReturnsInHanded {} Tryz.checked os 4 .any ((OpenSpec.ofChange Rows.rungChainsSpec).preRow enc ag Tryz.f4 Rows.rungChainsRow.domain false Rows.rungChainsRow.laid) (((OpenSpec.ofChange Rows.rungChainsSpec).at F).post enc ag Tryz.f4 false true false false) := by
 obtain ⟨places, aa⟩ := reads os enc
 refine returnsInHanded_of_row (C := Tryz.checked) (s := OpenSpec.ofChange Rows.rungChainsSpec) acG started (by kernel_rfl) Tryz.func4
  (witness_row_at (enc := enc) (C := Tryz.checked) false (world os) #[.slice none 0 0, .int .i64 0, .int .i64 0] rfl (by kernel_rfl) (by kernel_rfl) (by kernel_rfl)
   (OpenSpec.preRow_of_cond 8 aa (by kernel_rfl) (fun k af => by cases af) (by kernel_rfl) (aaR os))) ?_
 intro W base args ds gs before w0 dV _ aiB r4 iQ _ _
 exact V5 H enc W base args ds gs before _ w0 dV r4
theorem inst : Tryz.f4.isInstance ag Rows.rungChainsRow.origin Rows.rungChainsRow.targs := of_decide_eq_true (by kernel_rfl)
theorem wrap : Tryz.f4.isWrapper ag Rows.rungChainsRow.wrapper Rows.rungChainsRow.mainSum := by
 unfold Func.isWrapper; first | (rw [if_pos (by decide +kernel)]; kernel_rfl) | (rw [if_neg (by decide +kernel)]; exact ⟨rfl, rfl⟩)
theorem closed : joinedFacts ag 4 Tryz.f4 (OpenSpec.ofChange Rows.rungChainsSpec).bare Rows.rungChainsRow = true := by kernel_rfl
theorem said : Rows.RungChainsSaid :=
 OpenClaim.holds_of_cond 4 Tryz.f4 rfl rfl rfl rfl rfl rfl rfl ⟨rfl, rfl, rfl, rfl, rfl⟩ rfl rfl rfl rfl rfl (by kernel_rfl) Tryz.func4 closed
  inst wrap
  (fun os started H enc _ F => by rw [OpenClaim.pre_eq_preRow]; exact lifted os started H enc F)
end Go.Proofs.YtbcecodakfejaaaGreat.rungChains
