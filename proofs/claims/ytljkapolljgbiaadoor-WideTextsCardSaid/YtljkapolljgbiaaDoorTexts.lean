/-
  cobweblaw01.WideTexts returns true, for all its arguments. My own text.
-/
import Derived.Test.YtljkapolljgbiaaDoorLawB
import Derived.Test.YtljkapolljgbiaaDoorAlive
import Derived.Test.YtljkapolljgbiaaDoorTextV
namespace Go.Proofs.YtljkapolljgbiaaDoor
open Go.RowKit Go.Lib
set_option linter.unusedVariables false
set_option linter.unusedSimpArgs false
theorem r1Text_any (x : Bool) (A : Option Addr) (l c : Nat) (n : Int) (w : World) (h : IsN w x A l c n) (hf : fits n = true) :
    Calls Tryd.prog 5 #[.agg #[.bool x, .slice A l c]] w (RV (.string ⟨(itoa n).toArray⟩) w) := by
  refine ((p_r1Text ((NB.of_fits hf).up (show 10 ≤ 1000 by omega))).call (fun _ => True) w [.agg #[.bool x, .slice A l c]] ⟨rfl, fun i y v hy hv => ?_⟩).mono ?_
  · match i with
    | i + 1 => simp at hy
    | 0 => simp at hy hv; subst hy; subst hv; exact ni_of h fun _ _ _ => trivial
  · rintro e w' ⟨v, rfl, ⟨rfl, _⟩, hb⟩
    exact ⟨rfl, hb⟩
set_option maxHeartbeats 4000000 in
set_option maxRecDepth 100000 in
theorem texts_walk (h1 l1 n : Int) (w : World) (H1 : IsW h1 l1 n) (htab : Tab w) : Calls Tryd.prog 3 #[.agg #[.int .i64 h1, .int .u64 l1]] w (RV (.bool true) w) := by
  have F1 := Lib.hid H1.fits
  have TX := Lib.hid (fun w (t : Tab w) => Text_any h1 l1 n w H1 t)
  have TR := Lib.hid (fun x A l c w (k : IsN w x A l c n) => r1Text_any x A l c n w k F1.out)
  generalize (⟨(itoa n).toArray⟩ : ByteArray) = t at TX TR
  have hE : ∀ w : World, (binOp .eql 9 (.string t) (.string t)).run Tryd.prog w = .ok (.bool true) w := fun w => by
    show (Op.stringOp .eql t t).run Tryd.prog w = _
    simp [Op.stringOp]
  go_enter Tryd.func3, Tryd.ntmps3
  go_upto_region 1 with fail
  have A0 := ((HeldW.start htab).new (t := 24) (u := .int .i64 h1) (v := .int .u64 l1) rfl).drew
  clear htab
  have hSr10 := A0.b1
  refine wp_region_held_drew (S := (fun w' => w'.cell? ⟨w.heap.size, 0, none⟩ = some (.int .i64 h1) ∧ w'.cell? ⟨w.heap.size, 1, none⟩ = some (.int .u64 l1))) (by kernel_rfl) hSr10 (fun _ => ?_)
  refine takeH (i := 0) (t := 3) (v := ?vr1_0) rfl rfl (by kernel_rfl) (by kernel_rfl) (by kernel_rfl) (fun _ _ _ h => h) (Or.inl ⟨by rfl, ?yr1_0⟩) hSr10 ?rr1_0
  case yr1_0 => (intro w hSw; obtain ⟨_, _⟩ := id hSw; go_simp; try (with_reducible rfl))
  simp only [Act.put, List.setIfInBounds_toArray, List.set_cons_zero, List.set_cons_succ]
  refine takeH (i := 2) (t := 5) (v := ?vr1_2) rfl rfl (by kernel_rfl) (by kernel_rfl) (by kernel_rfl) (fun _ _ _ h => h) (Or.inl ⟨by rfl, ?yr1_2⟩) hSr10 ?rr1_2
  case yr1_2 => (intro w hSw; obtain ⟨_, _⟩ := id hSw; go_simp; try (with_reducible rfl))
  simp only [Act.put, List.setIfInBounds_toArray, List.set_cons_zero, List.set_cons_succ]
  refine wpAnyH_ready (rs := [1]) (by kernel_rfl) (by simp) ?_
  refine AllReadyH.cons rfl (fun K hK => ?_) AllReadyH.nil
  go_simp
  refine (TX.out _ A0.tab).mono ?_
  rintro e u1 ⟨rfl, hb⟩
  have D1 := A0.call hb
  clear hb
  have hSr11 := D1.b1
  go_wp2_with fail
  refine hK.out _ _ hSr11 (fun _ => ?_)
  clear hK K hSr10
  refine wpAnyH_ready (rs := [3]) (by kernel_rfl) (by simp) ?_
  refine AllReadyH.cons rfl (fun K hK => ?_) AllReadyH.nil
  go_simp
  refine (num_any _ _ _ _ H1).mono ?_
  rintro e u2 ⟨x2, A2, l2, c2, rfl, k2, hb⟩
  have D2 := D1.call hb
  clear hb
  have hSr12 := D2.b1
  go_wp2_with fail
  refine hK.out _ _ hSr12 (fun _ => ?_)
  clear hK K hSr11
  refine wpAnyH_ready (rs := [4]) (by kernel_rfl) (by simp) ?_
  refine AllReadyH.cons rfl (fun K hK => ?_) AllReadyH.nil
  go_simp
  refine (TR.out _ _ _ _ _ k2).mono ?_
  rintro e u3 ⟨rfl, hb⟩
  have D3 := D2.call hb
  clear hb
  have hSr13 := D3.b1
  go_wp2_with fail
  refine hK.out _ _ hSr13 (fun _ => ?_)
  clear hK K hSr12
  refine takeH (i := 5) (t := 8) (v := ?vr1_5) rfl rfl (by kernel_rfl) (by kernel_rfl) (by kernel_rfl) (fun _ _ _ h => h) (Or.inl ⟨by rfl, ?yr1_5⟩) hSr13 ?rr1_5
  case yr1_5 => (intro w hSw; obtain ⟨_, _⟩ := id hSw; go_simp; try (with_reducible rfl))
  simp only [Act.put, List.setIfInBounds_toArray, List.set_cons_zero, List.set_cons_succ]
  refine takeH (i := 6) (t := 9) (v := ?vr1_6) rfl rfl (by kernel_rfl) (by kernel_rfl) (by kernel_rfl) (fun _ _ _ h => h) (Or.inl ⟨by rfl, ?yr1_6⟩) hSr13 ?rr1_6
  case yr1_6 => (intro w hSw; obtain ⟨_, _⟩ := id hSw; go_simp; try (with_reducible rfl))
  simp only [Act.put, List.setIfInBounds_toArray, List.set_cons_zero, List.set_cons_succ]
  refine wpAnyH_ready (rs := [7]) (by kernel_rfl) (by simp) ?_
  refine AllReadyH.cons rfl (fun K hK => ?_) AllReadyH.nil
  go_simp
  refine (alive_any _ D3.tab).mono ?_
  rintro e u4 ⟨rfl, hb⟩
  have D4 := D3.call hb
  clear hb
  have hSr14 := D4.b1
  go_wp2_with fail
  refine hK.out _ _ hSr14 (fun _ => ?_)
  clear hK K hSr13
  refine takeH (i := 8) (t := 11) (v := ?vr1_8) rfl rfl (by kernel_rfl) (by kernel_rfl) (by kernel_rfl) (fun _ _ _ h => h) (Or.inl ⟨by rfl, ?yr1_8⟩) hSr14 ?rr1_8
  case yr1_8 => (intro w hSw; obtain ⟨_, _⟩ := id hSw; go_simp; try (with_reducible rfl))
  simp only [Act.put, List.setIfInBounds_toArray, List.set_cons_zero, List.set_cons_succ]
  refine takeH (i := 9) (t := 2) (v := ?vr1_9) rfl rfl (by kernel_rfl) (by kernel_rfl) (by kernel_rfl) (fun _ _ _ h => h) (Or.inl ⟨by rfl, ?yr1_9⟩) hSr14 ?rr1_9
  case yr1_9 => (intro w hSw; obtain ⟨_, _⟩ := id hSw; go_simp; try (with_reducible rfl))
  simp only [Act.put, List.setIfInBounds_toArray, List.set_cons_zero, List.set_cons_succ]
  refine wpAnyH_done (by kernel_rfl) ?_ _
  all_goals
    go_wp2_with fail
    go_ret
    exact ⟨rfl, D4.below⟩
end Go.Proofs.YtljkapolljgbiaaDoor
