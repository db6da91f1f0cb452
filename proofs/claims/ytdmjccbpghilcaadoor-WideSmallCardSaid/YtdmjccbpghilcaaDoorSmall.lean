/-
  cobweblaw01.WideSmall returns true, for every Int and every int64. My own text.
-/
import Derived.Test.YtdmjccbpghilcaaDoorLawB
import Derived.Deep.DrawnRows
namespace Go.Proofs.YtdmjccbpghilcaaDoor
open Go.RowKit Go.Lib
set_option linter.unusedVariables false
set_option linter.unusedSimpArgs false
attribute [local go_sem ↓] Go.wp_at_zero Go.wp_at_succ

theorem pow63 : (2 : Int) ^ 63 = 9223372036854775808 := by decide
theorem pow63_any (w : World) : Calls Tryd.prog 25 #[.int .i64 63] w (RN 9223372036854775808 w) := by
  have := rPower_any 63 w (by omega)
  rw [pow63] at this
  exact this
theorem fits_of {n : Int} (h0 : -9223372036854775808 ≤ n) (h1 : n ≤ 9223372036854775808) : fits n = true := by unfold fits; rw [decide_eq_true_eq]; omega
theorem small_true {n : Int} (h0 : -9223372036854775808 ≤ n) (h1 : n < 9223372036854775808) : small n = true := by unfold small; rw [decide_eq_true_eq]; exact ⟨h0, h1⟩
set_option maxHeartbeats 4000000 in
set_option maxRecDepth 100000 in
theorem small_in (h1 l1 n k : Int) (w : World) (H1 : IsW h1 l1 n) (b0 : -9223372036854775808 ≤ k) (b1 : k < 9223372036854775808) (htab : Tab w) (hn : -9223372036854775808 ≤ n ∧ n < 9223372036854775808) :
    Calls Tryd.prog 8 #[.agg #[.int .i64 h1, .int .u64 l1], .int .i64 k] w (RV (.bool true) w) := by
  have F1 := Lib.hid H1.fits
  have F2 := Lib.hid (fits_of b0 (Int.le_of_lt b1))
  have oK := Lib.hid (fun w => Of_any k w b0 b1)
  have rK := Lib.hid (fun w => rOf_any k w b0 b1)
  have sK := small_true b0 b1
  have fs : small n = true := small_true hn.1 hn.2
  have HN := Lib.hid hn
  have rN := Lib.hid (fun w => rOf_any n w hn.1 hn.2)
  have i1 : Hid (icmp n (-9223372036854775808) ≥ 0) := icmp_ge.2 hn.1
  have i2 : Hid (icmp n 9223372036854775808 = -1) := icmp_lt hn.2
  generalize hu : icmp n (-9223372036854775808) = u at i1
  have HU := Lib.hid hu
  have u0 : 0 ≤ u := i1.out
  clear hu
  clear b0 b1 hn
  go_enter Tryd.func8, Tryd.ntmps8
  go_wp2_with fail
  refine (Small_any _ _ _ _ H1).mono ?_
  rintro e w1 ⟨rfl, hb1⟩
  have A0 := ((HeldW.start htab).new (t := 24) (u := .int .i64 h1) (v := .int .u64 l1) rfl).call hb1
  clear hb1 htab
  go_wp2_with fail
  refine (pow63_any _).mono ?_
  rintro e w2 ⟨x2, A2', l2, c2, rfl, k2, hb⟩
  replace A0 := A0.call hb
  clear hb
  go_wp2_with fail
  refine (rNeg_any _ _ _ _ _ _ k2 (lenF k2 (by decide) (by omega))).mono ?_
  rintro e w3 ⟨x3, A3', l3, c3, rfl, k3, hb⟩
  replace A0 := (A0.call hb).num k3
  clear hb k2 k3
  go_wp2_with fail
  refine (pow63_any _).mono ?_
  rintro e w4 ⟨x4, A4', l4, c4, rfl, k4, hb⟩
  replace A0 := (((A0.call hb).num k4).new (t := 27) (u := .bool x3) (v := .slice A3' l3 c3) rfl).new (g := w4.heap.size + 1) (t := 27) (u := .bool x4) (v := .slice A4' l4 c4) (by simp) |>.drew
  clear hb k4
  go_wp2_with fail
  go_region_held3 (fun w' => (w'.cell? ⟨w4.heap.size + 1, 0, none⟩ = some (.bool x4) ∧ w'.cell? ⟨w4.heap.size + 1, 1, none⟩ = some (.slice A4' l4 c4)) ∧ (w'.cell? ⟨w4.heap.size, 0, none⟩ = some (.bool x3) ∧ w'.cell? ⟨w4.heap.size, 1, none⟩ = some (.slice A3' l3 c3)) ∧ (w'.cell? ⟨w.heap.size, 0, none⟩ = some (.int .i64 h1) ∧ w'.cell? ⟨w.heap.size, 1, none⟩ = some (.int .u64 l1))) (first | with_reducible exact ⟨A4.b1, A4.tl.b1, A4.tl.tl.b1⟩ | with_reducible exact ⟨A3.b1, A3.tl.b1, A3.tl.tl.b1⟩ | with_reducible exact ⟨A2.b1, A2.tl.b1, A2.tl.tl.b1⟩ | with_reducible exact ⟨A1.b1, A1.tl.b1, A1.tl.tl.b1⟩ | with_reducible exact ⟨A0.b1, A0.tl.b1, A0.tl.tl.b1⟩)
    (first
      | (go_at_call 12; have _t := A2; ((with_reducible refine (num_any _ _ _ _ H1).mono ?_); rintro e v3 ⟨x7, A7', l7, c7, rfl, k7, hb⟩; have A3 := A2.call hb; clear hb))
      | (go_at_call 12; ((with_reducible refine (num_any _ _ _ _ H1).mono ?_); rintro e v1 ⟨x6, A6', l6, c6, rfl, k6, hb⟩; have A1 := A0.call hb; clear hb))
      | (go_at_call 27; ((with_reducible refine (rCmp_any _ _ _ _ _ _ _ _ _ _ _ k6 A1.ntl.n1 (lenF k6 F1.out (by omega)) (lenF A1.ntl.n1 (by decide) (by omega))).mono ?_); rintro e v2 ⟨rfl, hb⟩; rw [HU.out]; have A2 := A1.call hb; clear hb))
      | (go_at_call 27; ((with_reducible refine (rCmp_any _ _ _ _ _ _ _ _ _ _ _ k7 A3.n1 (lenF k7 F1.out (by omega)) (lenF A3.n1 (by decide) (by omega))).mono ?_); rintro e v4 ⟨rfl, hb⟩; rw [i2.out]; have A4 := A3.call hb; clear hb)))
  all_goals
    go_wp2_with fail
    refine (oK.out _).mono ?_
    rintro e v5 ⟨oa, ob, rfl, ho, hb⟩
    have A5 := A4.call hb
    clear hb
    go_wp2_with fail
    refine (Small_any _ _ _ _ ho).mono ?_
    rintro e v6 ⟨rfl, hb⟩
    replace A5 := (A5.call hb).drew
    clear hb
    go_wp2_with fail
    have hSr10 := A5.tl.tl.b1
    refine wp_region_held_drew (S := (fun w' => w'.cell? ⟨w.heap.size, 0, none⟩ = some (.int .i64 h1) ∧ w'.cell? ⟨w.heap.size, 1, none⟩ = some (.int .u64 l1))) (by kernel_rfl) hSr10 (fun _ => ?_)
    refine wpAnyH_ready (rs := [0]) (by kernel_rfl) (by simp) ?_
    refine AllReadyH.cons rfl (fun K hK => ?_) AllReadyH.nil
    go_simp
    refine (alive_any _ A5.tab).mono ?_
    rintro e u1 ⟨rfl, hb⟩
    have D1 := A5.call hb
    clear hb
    have hSr11 := D1.tl.tl.b1
    go_wp2_with fail
    refine hK.out _ _ hSr11 (fun _ => ?_)
    clear hK K hSr10
    refine takeH (i := 1) (t := 39) (v := ?vr1_1) rfl rfl (by kernel_rfl) (by kernel_rfl) (by kernel_rfl) (fun _ _ _ h => h) (Or.inl ⟨by rfl, ?yr1_1⟩) hSr11 ?rr1_1
    case yr1_1 => (intro w hSw; obtain ⟨_, _⟩ := id hSw; go_simp; try (with_reducible rfl))
    simp only [Act.put, List.setIfInBounds_toArray, List.set_cons_zero, List.set_cons_succ]
    refine takeH (i := 2) (t := 40) (v := ?vr1_2) rfl rfl (by kernel_rfl) (by kernel_rfl) (by kernel_rfl) (fun _ _ _ h => h) (Or.inl ⟨by rfl, ?yr1_2⟩) hSr11 ?rr1_2
    case yr1_2 => (intro w hSw; obtain ⟨_, _⟩ := id hSw; go_simp; try (with_reducible rfl))
    simp only [Act.put, List.setIfInBounds_toArray, List.set_cons_zero, List.set_cons_succ]
    refine takeH (i := 3) (t := 41) (v := ?vr1_3) rfl rfl (by kernel_rfl) (by kernel_rfl) (by kernel_rfl) (fun _ _ _ h => h) (Or.inl ⟨by rfl, ?yr1_3⟩) hSr11 ?rr1_3
    case yr1_3 => (intro w hSw; obtain ⟨_, _⟩ := id hSw; go_simp; try (with_reducible rfl))
    simp only [Act.put, List.setIfInBounds_toArray, List.set_cons_zero, List.set_cons_succ]
    refine takeH (i := 4) (t := 42) (v := ?vr1_4) rfl rfl (by kernel_rfl) (by kernel_rfl) (by kernel_rfl) (fun _ _ _ h => h) (Or.inl ⟨by rfl, ?yr1_4⟩) hSr11 ?rr1_4
    case yr1_4 => (intro w hSw; obtain ⟨_, _⟩ := id hSw; go_simp; try (with_reducible rfl))
    simp only [Act.put, List.setIfInBounds_toArray, List.set_cons_zero, List.set_cons_succ]
    refine takeH (i := 5) (t := 43) (v := ?vr1_5) rfl rfl (by kernel_rfl) (by kernel_rfl) (by kernel_rfl) (fun _ _ _ h => h) (Or.inl ⟨by rfl, ?yr1_5⟩) hSr11 ?rr1_5
    case yr1_5 => (intro w hSw; obtain ⟨_, _⟩ := id hSw; go_simp; try (with_reducible rfl))
    simp only [Act.put, List.setIfInBounds_toArray, List.set_cons_zero, List.set_cons_succ]
    refine takeH (i := 6) (t := 44) (v := ?vr1_6) rfl rfl (by kernel_rfl) (by kernel_rfl) (by kernel_rfl) (fun _ _ _ h => h) (Or.inl ⟨by rfl, ?yr1_6⟩) hSr11 ?rr1_6
    case yr1_6 => (intro w hSw; obtain ⟨_, _⟩ := id hSw; go_simp; try (with_reducible rfl))
    simp only [Act.put, List.setIfInBounds_toArray, List.set_cons_zero, List.set_cons_succ]
    refine takeH (i := 7) (t := 45) (v := ?vr1_7) rfl rfl (by kernel_rfl) (by kernel_rfl) (by kernel_rfl) (fun _ _ _ h => h) (Or.inl ⟨by rfl, ?yr1_7⟩) hSr11 ?rr1_7
    case yr1_7 => (intro w hSw; obtain ⟨_, _⟩ := id hSw; go_simp; try (with_reducible rfl))
    simp only [Act.put, List.setIfInBounds_toArray, List.set_cons_zero, List.set_cons_succ]
    refine takeH (i := 8) (t := 46) (v := ?vr1_8) rfl rfl (by kernel_rfl) (by kernel_rfl) (by kernel_rfl) (fun _ _ _ h => h) (Or.inl ⟨by rfl, ?yr1_8⟩) hSr11 ?rr1_8
    case yr1_8 => (intro w hSw; obtain ⟨_, _⟩ := id hSw; go_simp; try (with_reducible rfl))
    simp only [Act.put, List.setIfInBounds_toArray, List.set_cons_zero, List.set_cons_succ]
    refine takeH (i := 9) (t := 47) (v := ?vr1_9) rfl rfl (by kernel_rfl) (by kernel_rfl) (by kernel_rfl) (fun _ _ _ h => h) (Or.inl ⟨by rfl, ?yr1_9⟩) hSr11 ?rr1_9
    case yr1_9 => (intro w hSw; obtain ⟨_, _⟩ := id hSw; go_simp; try (with_reducible rfl))
    simp only [Act.put, List.setIfInBounds_toArray, List.set_cons_zero, List.set_cons_succ]
    refine takeH (i := 10) (t := 48) (v := undef) rfl rfl (by kernel_rfl) (by kernel_rfl) (by kernel_rfl) (fun _ _ _ h => h) (Or.inr ⟨by rfl, rfl⟩) hSr11 ?_
    simp only [Act.put, List.setIfInBounds_toArray, List.set_cons_zero, List.set_cons_succ]
    refine takeH (i := 11) (t := 49) (v := undef) rfl rfl (by kernel_rfl) (by kernel_rfl) (by kernel_rfl) (fun _ _ _ h => h) (Or.inr ⟨by rfl, rfl⟩) hSr11 ?_
    simp only [Act.put, List.setIfInBounds_toArray, List.set_cons_zero, List.set_cons_succ]
    refine takeH (i := 12) (t := 50) (v := ?vr1_12) rfl rfl (by kernel_rfl) (by kernel_rfl) (by kernel_rfl) (fun _ _ _ h => h) (Or.inl ⟨by rfl, ?yr1_12⟩) hSr11 ?rr1_12
    case yr1_12 => (intro w hSw; obtain ⟨_, _⟩ := id hSw; go_simp; try (with_reducible rfl))
    simp only [Act.put, List.setIfInBounds_toArray, List.set_cons_zero, List.set_cons_succ]
    refine takeH (i := 13) (t := 51) (v := ?vr1_13) rfl rfl (by kernel_rfl) (by kernel_rfl) (by kernel_rfl) (fun _ _ _ h => h) (Or.inl ⟨by rfl, ?yr1_13⟩) hSr11 ?rr1_13
    case yr1_13 => (intro w hSw; obtain ⟨_, _⟩ := id hSw; go_simp; try (with_reducible rfl))
    simp only [Act.put, List.setIfInBounds_toArray, List.set_cons_zero, List.set_cons_succ]
    refine takeH (i := 14) (t := 52) (v := ?vr1_14) rfl rfl (by kernel_rfl) (by kernel_rfl) (by kernel_rfl) (fun _ _ _ h => h) (Or.inl ⟨by rfl, ?yr1_14⟩) hSr11 ?rr1_14
    case yr1_14 => (intro w hSw; obtain ⟨_, _⟩ := id hSw; go_simp; try (with_reducible rfl))
    simp only [Act.put, List.setIfInBounds_toArray, List.set_cons_zero, List.set_cons_succ]
    refine takeH (i := 15) (t := 53) (v := ?vr1_15) rfl rfl (by kernel_rfl) (by kernel_rfl) (by kernel_rfl) (fun _ _ _ h => h) (Or.inl ⟨by rfl, ?yr1_15⟩) hSr11 ?rr1_15
    case yr1_15 => (intro w hSw; obtain ⟨_, _⟩ := id hSw; go_simp; try (with_reducible rfl))
    simp only [Act.put, List.setIfInBounds_toArray, List.set_cons_zero, List.set_cons_succ]
    refine takeH (i := 16) (t := 54) (v := ?vr1_16) rfl rfl (by kernel_rfl) (by kernel_rfl) (by kernel_rfl) (fun _ _ _ h => h) (Or.inl ⟨by rfl, ?yr1_16⟩) hSr11 ?rr1_16
    case yr1_16 => (intro w hSw; obtain ⟨_, _⟩ := id hSw; go_simp; try (with_reducible rfl))
    simp only [Act.put, List.setIfInBounds_toArray, List.set_cons_zero, List.set_cons_succ]
    refine takeH (i := 18) (t := 56) (v := ?vr1_18) rfl rfl (by kernel_rfl) (by kernel_rfl) (by kernel_rfl) (fun _ _ _ h => h) (Or.inl ⟨by rfl, ?yr1_18⟩) hSr11 ?rr1_18
    case yr1_18 => (intro w hSw; obtain ⟨_, _⟩ := id hSw; go_simp; try (with_reducible rfl))
    simp only [Act.put, List.setIfInBounds_toArray, List.set_cons_zero, List.set_cons_succ]
    refine wpAnyH_ready (rs := [17]) (by kernel_rfl) (by simp) ?_
    refine AllReadyH.cons rfl (fun K hK => ?_) AllReadyH.nil
    go_simp
    refine (rN.out _).mono ?_
    rintro e u2 ⟨y2, Y2, m2, d2, rfl, q2, hb⟩
    have D2 := D1.call hb
    clear hb
    have hSr12 := D2.tl.tl.b1
    go_wp2_with fail
    refine hK.out _ _ hSr12 (fun _ => ?_)
    clear hK K hSr11
    refine wpAnyH_ready (rs := [19]) (by kernel_rfl) (by simp) ?_
    refine AllReadyH.cons rfl (fun K hK => ?_) AllReadyH.nil
    go_simp
    refine (num_any _ _ _ _ H1).mono ?_
    rintro e u3 ⟨y3, Y3, m3, d3, rfl, q3, hb⟩
    have D3 := D2.call hb
    replace q2 := q2.call hb
    clear hb
    have hSr13 := D3.tl.tl.b1
    go_wp2_with fail
    refine hK.out _ _ hSr13 (fun _ => ?_)
    clear hK K hSr12
    refine wpAnyH_ready (rs := [20]) (by kernel_rfl) (by simp) ?_
    refine AllReadyH.cons rfl (fun K hK => ?_) AllReadyH.nil
    go_simp
    refine (rCmp_any _ _ _ _ _ _ _ _ _ _ _ q2 q3 (lenF q2 F1.out (by omega)) (lenF q3 F1.out (by omega))).mono ?_
    rintro e u4 ⟨rfl, hb⟩
    rw [icmp_self]
    have D4 := D3.call hb
    clear hb
    have hSr14 := D4.tl.tl.b1
    go_wp2_with fail
    refine hK.out _ _ hSr14 (fun _ => ?_)
    clear hK K hSr13
    refine takeH (i := 21) (t := 59) (v := ?vr1_21) rfl rfl (by kernel_rfl) (by kernel_rfl) (by kernel_rfl) (fun _ _ _ h => h) (Or.inl ⟨by rfl, ?yr1_21⟩) hSr14 ?rr1_21
    case yr1_21 => (intro w hSw; obtain ⟨_, _⟩ := id hSw; go_simp; try (with_reducible rfl))
    simp only [Act.put, List.setIfInBounds_toArray, List.set_cons_zero, List.set_cons_succ]
    refine takeH (i := 22) (t := 60) (v := ?vr1_22) rfl rfl (by kernel_rfl) (by kernel_rfl) (by kernel_rfl) (fun _ _ _ h => h) (Or.inl ⟨by rfl, ?yr1_22⟩) hSr14 ?rr1_22
    case yr1_22 => (intro w hSw; obtain ⟨_, _⟩ := id hSw; go_simp; try (with_reducible rfl))
    simp only [Act.put, List.setIfInBounds_toArray, List.set_cons_zero, List.set_cons_succ]
    refine takeH (i := 23) (t := 61) (v := ?vr1_23) rfl rfl (by kernel_rfl) (by kernel_rfl) (by kernel_rfl) (fun _ _ _ h => h) (Or.inl ⟨by rfl, ?yr1_23⟩) hSr14 ?rr1_23
    case yr1_23 => (intro w hSw; obtain ⟨_, _⟩ := id hSw; go_simp; try (with_reducible rfl))
    simp only [Act.put, List.setIfInBounds_toArray, List.set_cons_zero, List.set_cons_succ]
    refine takeH (i := 24) (t := 62) (v := ?vr1_24) rfl rfl (by kernel_rfl) (by kernel_rfl) (by kernel_rfl) (fun _ _ _ h => h) (Or.inl ⟨by rfl, ?yr1_24⟩) hSr14 ?rr1_24
    case yr1_24 => (intro w hSw; obtain ⟨_, _⟩ := id hSw; go_simp; try (with_reducible rfl))
    simp only [Act.put, List.setIfInBounds_toArray, List.set_cons_zero, List.set_cons_succ]
    refine takeH (i := 25) (t := 63) (v := ?vr1_25) rfl rfl (by kernel_rfl) (by kernel_rfl) (by kernel_rfl) (fun _ _ _ h => h) (Or.inl ⟨by rfl, ?yr1_25⟩) hSr14 ?rr1_25
    case yr1_25 => (intro w hSw; obtain ⟨_, _⟩ := id hSw; go_simp; try (with_reducible rfl))
    simp only [Act.put, List.setIfInBounds_toArray, List.set_cons_zero, List.set_cons_succ]
    refine takeH (i := 26) (t := 64) (v := ?vr1_26) rfl rfl (by kernel_rfl) (by kernel_rfl) (by kernel_rfl) (fun _ _ _ h => h) (Or.inl ⟨by rfl, ?yr1_26⟩) hSr14 ?rr1_26
    case yr1_26 => (intro w hSw; obtain ⟨_, _⟩ := id hSw; go_simp; try (with_reducible rfl))
    simp only [Act.put, List.setIfInBounds_toArray, List.set_cons_zero, List.set_cons_succ]
    refine takeH (i := 27) (t := 65) (v := ?vr1_27) rfl rfl (by kernel_rfl) (by kernel_rfl) (by kernel_rfl) (fun _ _ _ h => h) (Or.inl ⟨by rfl, ?yr1_27⟩) hSr14 ?rr1_27
    case yr1_27 => (intro w hSw; obtain ⟨_, _⟩ := id hSw; go_simp; try (with_reducible rfl))
    simp only [Act.put, List.setIfInBounds_toArray, List.set_cons_zero, List.set_cons_succ]
    refine takeH (i := 28) (t := 66) (v := ?vr1_28) rfl rfl (by kernel_rfl) (by kernel_rfl) (by kernel_rfl) (fun _ _ _ h => h) (Or.inl ⟨by rfl, ?yr1_28⟩) hSr14 ?rr1_28
    case yr1_28 => (intro w hSw; obtain ⟨_, _⟩ := id hSw; go_simp; try (with_reducible rfl))
    simp only [Act.put, List.setIfInBounds_toArray, List.set_cons_zero, List.set_cons_succ]
    refine takeH (i := 29) (t := 67) (v := ?vr1_29) rfl rfl (by kernel_rfl) (by kernel_rfl) (by kernel_rfl) (fun _ _ _ h => h) (Or.inl ⟨by rfl, ?yr1_29⟩) hSr14 ?rr1_29
    case yr1_29 => (intro w hSw; obtain ⟨_, _⟩ := id hSw; go_simp; try (with_reducible rfl))
    simp only [Act.put, List.setIfInBounds_toArray, List.set_cons_zero, List.set_cons_succ]
    refine takeH (i := 30) (t := 68) (v := ?vr1_30) rfl rfl (by kernel_rfl) (by kernel_rfl) (by kernel_rfl) (fun _ _ _ h => h) (Or.inl ⟨by rfl, ?yr1_30⟩) hSr14 ?rr1_30
    case yr1_30 => (intro w hSw; obtain ⟨_, _⟩ := id hSw; go_simp; try (with_reducible rfl))
    simp only [Act.put, List.setIfInBounds_toArray, List.set_cons_zero, List.set_cons_succ]
    refine takeH (i := 31) (t := 69) (v := ?vr1_31) rfl rfl (by kernel_rfl) (by kernel_rfl) (by kernel_rfl) (fun _ _ _ h => h) (Or.inl ⟨by rfl, ?yr1_31⟩) hSr14 ?rr1_31
    case yr1_31 => (intro w hSw; obtain ⟨_, _⟩ := id hSw; go_simp; try (with_reducible rfl))
    simp only [Act.put, List.setIfInBounds_toArray, List.set_cons_zero, List.set_cons_succ]
    refine takeH (i := 32) (t := 70) (v := ?vr1_32) rfl rfl (by kernel_rfl) (by kernel_rfl) (by kernel_rfl) (fun _ _ _ h => h) (Or.inl ⟨by rfl, ?yr1_32⟩) hSr14 ?rr1_32
    case yr1_32 => (intro w hSw; obtain ⟨_, _⟩ := id hSw; go_simp; try (with_reducible rfl))
    simp only [Act.put, List.setIfInBounds_toArray, List.set_cons_zero, List.set_cons_succ]
    refine takeH (i := 33) (t := 71) (v := ?vr1_33) rfl rfl (by kernel_rfl) (by kernel_rfl) (by kernel_rfl) (fun _ _ _ h => h) (Or.inl ⟨by rfl, ?yr1_33⟩) hSr14 ?rr1_33
    case yr1_33 => (intro w hSw; obtain ⟨_, _⟩ := id hSw; go_simp; try (with_reducible rfl))
    simp only [Act.put, List.setIfInBounds_toArray, List.set_cons_zero, List.set_cons_succ]
    refine takeH (i := 34) (t := 72) (v := ?vr1_34) rfl rfl (by kernel_rfl) (by kernel_rfl) (by kernel_rfl) (fun _ _ _ h => h) (Or.inl ⟨by rfl, ?yr1_34⟩) hSr14 ?rr1_34
    case yr1_34 => (intro w hSw; obtain ⟨_, _⟩ := id hSw; go_simp; try (with_reducible rfl))
    simp only [Act.put, List.setIfInBounds_toArray, List.set_cons_zero, List.set_cons_succ]
    refine takeH (i := 37) (t := 75) (v := ?vr1_37) rfl rfl (by kernel_rfl) (by kernel_rfl) (by kernel_rfl) (fun _ _ _ h => h) (Or.inl ⟨by rfl, ?yr1_37⟩) hSr14 ?rr1_37
    case yr1_37 => (intro w hSw; obtain ⟨_, _⟩ := id hSw; go_simp; try (with_reducible rfl))
    simp only [Act.put, List.setIfInBounds_toArray, List.set_cons_zero, List.set_cons_succ]
    refine wpAnyH_ready (rs := [35]) (by kernel_rfl) (by simp) ?_
    refine AllReadyH.cons rfl (fun K hK => ?_) AllReadyH.nil
    go_simp
    refine (oK.out _).mono ?_
    rintro e u5 ⟨pa, pb, rfl, hp, hb⟩
    have D5 := D4.call hb
    clear hb
    have hSr15 := D5.tl.tl.b1
    go_wp2_with fail
    refine hK.out _ _ hSr15 (fun _ => ?_)
    clear hK K hSr14
    refine wpAnyH_ready (rs := [36]) (by kernel_rfl) (by simp) ?_
    refine AllReadyH.cons rfl (fun K hK => ?_) AllReadyH.nil
    go_simp
    refine (num_any _ _ _ _ hp).mono ?_
    rintro e u6 ⟨y6, Y6, m6, d6, rfl, q6, hb⟩
    have D6 := D5.call hb
    clear hb
    have hSr16 := D6.tl.tl.b1
    go_wp2_with fail
    refine hK.out _ _ hSr16 (fun _ => ?_)
    clear hK K hSr15
    refine wpAnyH_ready (rs := [38]) (by kernel_rfl) (by simp) ?_
    refine AllReadyH.cons rfl (fun K hK => ?_) AllReadyH.nil
    go_simp
    refine (rK.out _).mono ?_
    rintro e u7 ⟨y7, Y7, m7, d7, rfl, q7, hb⟩
    have D7 := D6.call hb
    replace q6 := q6.call hb
    clear hb
    have hSr17 := D7.tl.tl.b1
    go_wp2_with fail
    refine hK.out _ _ hSr17 (fun _ => ?_)
    clear hK K hSr16
    refine wpAnyH_ready (rs := [39]) (by kernel_rfl) (by simp) ?_
    refine AllReadyH.cons rfl (fun K hK => ?_) AllReadyH.nil
    go_simp
    refine (rCmp_any _ _ _ _ _ _ _ _ _ _ _ q6 q7 (lenF q6 F2.out (by omega)) (lenF q7 F2.out (by omega))).mono ?_
    rintro e u8 ⟨rfl, hb⟩
    rw [icmp_self]
    have D8 := D7.call hb
    clear hb
    have hSr18 := D8.tl.tl.b1
    go_wp2_with fail
    refine hK.out _ _ hSr18 (fun _ => ?_)
    clear hK K hSr17
    refine takeH (i := 40) (t := 78) (v := ?vr1_40) rfl rfl (by kernel_rfl) (by kernel_rfl) (by kernel_rfl) (fun _ _ _ h => h) (Or.inl ⟨by rfl, ?yr1_40⟩) hSr18 ?rr1_40
    case yr1_40 => (intro w hSw; obtain ⟨_, _⟩ := id hSw; go_simp; try (with_reducible rfl))
    simp only [Act.put, List.setIfInBounds_toArray, List.set_cons_zero, List.set_cons_succ]
    refine takeH (i := 41) (t := 79) (v := ?vr1_41) rfl rfl (by kernel_rfl) (by kernel_rfl) (by kernel_rfl) (fun _ _ _ h => h) (Or.inl ⟨by rfl, ?yr1_41⟩) hSr18 ?rr1_41
    case yr1_41 => (intro w hSw; obtain ⟨_, _⟩ := id hSw; go_simp; try (with_reducible rfl))
    simp only [Act.put, List.setIfInBounds_toArray, List.set_cons_zero, List.set_cons_succ]
    refine takeH (i := 42) (t := 4) (v := ?vr1_42) rfl rfl (by kernel_rfl) (by kernel_rfl) (by kernel_rfl) (fun _ _ _ h => h) (Or.inl ⟨by rfl, ?yr1_42⟩) hSr18 ?rr1_42
    case yr1_42 => (intro w hSw; obtain ⟨_, _⟩ := id hSw; go_simp; try (with_reducible rfl))
    simp only [Act.put, List.setIfInBounds_toArray, List.set_cons_zero, List.set_cons_succ]
    refine wpAnyH_done (by kernel_rfl) ?_ _
    all_goals
      go_wp2_with fail
      go_ret
      exact ⟨rfl, D8.below⟩
set_option maxHeartbeats 4000000 in
set_option maxRecDepth 100000 in
theorem small_low (h1 l1 n k : Int) (w : World) (H1 : IsW h1 l1 n) (b0 : -9223372036854775808 ≤ k) (b1 : k < 9223372036854775808) (htab : Tab w) (hn : n < -9223372036854775808) :
    Calls Tryd.prog 8 #[.agg #[.int .i64 h1, .int .u64 l1], .int .i64 k] w (RV (.bool true) w) := by
  have F1 := Lib.hid H1.fits
  have F2 := Lib.hid (fits_of b0 (Int.le_of_lt b1))
  have oK := Lib.hid (fun w => Of_any k w b0 b1)
  have rK := Lib.hid (fun w => rOf_any k w b0 b1)
  have sK := small_true b0 b1
  have fs : small n = false := by unfold small; rw [decide_eq_false_iff_not]; omega
  have HN := Lib.hid hn
  have i1 : Hid (icmp n (-9223372036854775808) = -1) := icmp_lt hn
  clear b0 b1 hn
  go_enter Tryd.func8, Tryd.ntmps8
  go_wp2_with fail
  refine (Small_any _ _ _ _ H1).mono ?_
  rintro e w1 ⟨rfl, hb1⟩
  have A0 := ((HeldW.start htab).new (t := 24) (u := .int .i64 h1) (v := .int .u64 l1) rfl).call hb1
  clear hb1 htab
  go_wp2_with fail
  refine (pow63_any _).mono ?_
  rintro e w2 ⟨x2, A2', l2, c2, rfl, k2, hb⟩
  replace A0 := A0.call hb
  clear hb
  go_wp2_with fail
  refine (rNeg_any _ _ _ _ _ _ k2 (lenF k2 (by decide) (by omega))).mono ?_
  rintro e w3 ⟨x3, A3', l3, c3, rfl, k3, hb⟩
  replace A0 := (A0.call hb).num k3
  clear hb k2 k3
  go_wp2_with fail
  refine (pow63_any _).mono ?_
  rintro e w4 ⟨x4, A4', l4, c4, rfl, k4, hb⟩
  replace A0 := (((A0.call hb).num k4).new (t := 27) (u := .bool x3) (v := .slice A3' l3 c3) rfl).new (g := w4.heap.size + 1) (t := 27) (u := .bool x4) (v := .slice A4' l4 c4) (by simp) |>.drew
  clear hb k4
  go_wp2_with fail
  have hSr20 := And.intro A0.b1 (And.intro A0.tl.b1 A0.tl.tl.b1)
  refine wp_region_held_drew (S := (fun w' => (w'.cell? ⟨w4.heap.size + 1, 0, none⟩ = some (.bool x4) ∧ w'.cell? ⟨w4.heap.size + 1, 1, none⟩ = some (.slice A4' l4 c4)) ∧ (w'.cell? ⟨w4.heap.size, 0, none⟩ = some (.bool x3) ∧ w'.cell? ⟨w4.heap.size, 1, none⟩ = some (.slice A3' l3 c3)) ∧ (w'.cell? ⟨w.heap.size, 0, none⟩ = some (.int .i64 h1) ∧ w'.cell? ⟨w.heap.size, 1, none⟩ = some (.int .u64 l1)))) (by kernel_rfl) hSr20 (fun _ => ?_)
  refine takeH (i := 0) (t := 20) (v := ?vr2_0) rfl rfl (by kernel_rfl) (by kernel_rfl) (by kernel_rfl) (fun _ _ _ h => h) (Or.inl ⟨by rfl, ?yr2_0⟩) hSr20 ?rr2_0
  case yr2_0 => (intro w hSw; obtain ⟨⟨_, _⟩, ⟨_, _⟩, _, _⟩ := id hSw; go_simp; try (with_reducible rfl))
  simp only [Act.put, List.setIfInBounds_toArray, List.set_cons_zero, List.set_cons_succ]
  refine takeH (i := 2) (t := 22) (v := ?vr2_2) rfl rfl (by kernel_rfl) (by kernel_rfl) (by kernel_rfl) (fun _ _ _ h => h) (Or.inl ⟨by rfl, ?yr2_2⟩) hSr20 ?rr2_2
  case yr2_2 => (intro w hSw; obtain ⟨⟨_, _⟩, ⟨_, _⟩, _, _⟩ := id hSw; go_simp; try (with_reducible rfl))
  simp only [Act.put, List.setIfInBounds_toArray, List.set_cons_zero, List.set_cons_succ]
  refine wpAnyH_ready (rs := [1]) (by kernel_rfl) (by simp) ?_
  refine AllReadyH.cons rfl (fun K hK => ?_) AllReadyH.nil
  go_simp
  refine (num_any _ _ _ _ H1).mono ?_
  rintro e v1 ⟨x6, A6', l6, c6, rfl, k6, hb⟩
  have A1 := A0.call hb
  clear hb
  have hSr21 := And.intro A1.b1 (And.intro A1.tl.b1 A1.tl.tl.b1)
  go_wp2_with fail
  refine hK.out _ _ hSr21 (fun _ => ?_)
  clear hK K hSr20
  refine wpAnyH_ready (rs := [3]) (by kernel_rfl) (by simp) ?_
  refine AllReadyH.cons rfl (fun K hK => ?_) AllReadyH.nil
  go_simp
  refine (rCmp_any _ _ _ _ _ _ _ _ _ _ _ k6 A1.ntl.n1 (lenF k6 F1.out (by omega)) (lenF A1.ntl.n1 (by decide) (by omega))).mono ?_
  rintro e v2 ⟨rfl, hb⟩
  rw [i1.out]
  have A2 := A1.call hb
  clear hb
  have hSr22 := And.intro A2.b1 (And.intro A2.tl.b1 A2.tl.tl.b1)
  go_wp2_with fail
  refine hK.out _ _ hSr22 (fun _ => ?_)
  clear hK K hSr21
  refine takeH (i := 4) (t := 24) (v := ?vr2_4) rfl rfl (by kernel_rfl) (by kernel_rfl) (by kernel_rfl) (fun _ _ _ h => h) (Or.inl ⟨by rfl, ?yr2_4⟩) hSr22 ?rr2_4
  case yr2_4 => (intro w hSw; obtain ⟨⟨_, _⟩, ⟨_, _⟩, _, _⟩ := id hSw; go_simp; try (with_reducible rfl))
  simp only [Act.put, List.setIfInBounds_toArray, List.set_cons_zero, List.set_cons_succ]
  refine takeH (i := 5) (t := 25) (v := ?vr2_5) rfl rfl (by kernel_rfl) (by kernel_rfl) (by kernel_rfl) (fun _ _ _ h => h) (Or.inl ⟨by rfl, ?yr2_5⟩) hSr22 ?rr2_5
  case yr2_5 => (intro w hSw; obtain ⟨⟨_, _⟩, ⟨_, _⟩, _, _⟩ := id hSw; go_simp; try (with_reducible rfl))
  simp only [Act.put, List.setIfInBounds_toArray, List.set_cons_zero, List.set_cons_succ]
  refine takeH (i := 6) (t := 26) (v := undef) rfl rfl (by kernel_rfl) (by kernel_rfl) (by kernel_rfl) (fun _ _ _ h => h) (Or.inr ⟨by rfl, rfl⟩) hSr22 ?_
  simp only [Act.put, List.setIfInBounds_toArray, List.set_cons_zero, List.set_cons_succ]
  refine takeH (i := 7) (t := 27) (v := undef) rfl rfl (by kernel_rfl) (by kernel_rfl) (by kernel_rfl) (fun _ _ _ h => h) (Or.inr ⟨by rfl, rfl⟩) hSr22 ?_
  simp only [Act.put, List.setIfInBounds_toArray, List.set_cons_zero, List.set_cons_succ]
  refine takeH (i := 8) (t := 28) (v := undef) rfl rfl (by kernel_rfl) (by kernel_rfl) (by kernel_rfl) (fun _ _ _ h => h) (Or.inr ⟨by rfl, rfl⟩) hSr22 ?_
  simp only [Act.put, List.setIfInBounds_toArray, List.set_cons_zero, List.set_cons_succ]
  refine takeH (i := 9) (t := 29) (v := undef) rfl rfl (by kernel_rfl) (by kernel_rfl) (by kernel_rfl) (fun _ _ _ h => h) (Or.inr ⟨by rfl, rfl⟩) hSr22 ?_
  simp only [Act.put, List.setIfInBounds_toArray, List.set_cons_zero, List.set_cons_succ]
  refine takeH (i := 10) (t := 30) (v := undef) rfl rfl (by kernel_rfl) (by kernel_rfl) (by kernel_rfl) (fun _ _ _ h => h) (Or.inr ⟨by rfl, rfl⟩) hSr22 ?_
  simp only [Act.put, List.setIfInBounds_toArray, List.set_cons_zero, List.set_cons_succ]
  refine takeH (i := 11) (t := 31) (v := ?vr2_11) rfl rfl (by kernel_rfl) (by kernel_rfl) (by kernel_rfl) (fun _ _ _ h => h) (Or.inl ⟨by rfl, ?yr2_11⟩) hSr22 ?rr2_11
  case yr2_11 => (intro w hSw; obtain ⟨⟨_, _⟩, ⟨_, _⟩, _, _⟩ := id hSw; go_simp; try (with_reducible rfl))
  simp only [Act.put, List.setIfInBounds_toArray, List.set_cons_zero, List.set_cons_succ]
  refine takeH (i := 12) (t := 9) (v := ?vr2_12) rfl rfl (by kernel_rfl) (by kernel_rfl) (by kernel_rfl) (fun _ _ _ h => h) (Or.inl ⟨by rfl, ?yr2_12⟩) hSr22 ?rr2_12
  case yr2_12 => (intro w hSw; obtain ⟨⟨_, _⟩, ⟨_, _⟩, _, _⟩ := id hSw; go_simp; try (with_reducible rfl))
  simp only [Act.put, List.setIfInBounds_toArray, List.set_cons_zero, List.set_cons_succ]
  refine wpAnyH_done (by kernel_rfl) ?_ _
  all_goals
    go_wp2_with fail
    refine (oK.out _).mono ?_
    rintro e v5 ⟨oa, ob, rfl, ho, hb⟩
    have A5 := A2.call hb
    clear hb
    go_wp2_with fail
    refine (Small_any _ _ _ _ ho).mono ?_
    rintro e v6 ⟨rfl, hb⟩
    replace A5 := (A5.call hb).drew
    clear hb
    go_wp2_with fail
    have hSr30 := A5.tl.tl.b1
    refine wp_region_held_drew (S := (fun w' => w'.cell? ⟨w.heap.size, 0, none⟩ = some (.int .i64 h1) ∧ w'.cell? ⟨w.heap.size, 1, none⟩ = some (.int .u64 l1))) (by kernel_rfl) hSr30 (fun _ => ?_)
    refine wpAnyH_ready (rs := [0]) (by kernel_rfl) (by simp) ?_
    refine AllReadyH.cons rfl (fun K hK => ?_) AllReadyH.nil
    go_simp
    refine (alive_any _ A5.tab).mono ?_
    rintro e u1 ⟨rfl, hb⟩
    have D4 := A5.call hb
    clear hb
    have hSr31 := D4.tl.tl.b1
    go_wp2_with fail
    refine hK.out _ _ hSr31 (fun _ => ?_)
    clear hK K hSr30
    refine takeH (i := 1) (t := 39) (v := ?vr3_1) rfl rfl (by kernel_rfl) (by kernel_rfl) (by kernel_rfl) (fun _ _ _ h => h) (Or.inl ⟨by rfl, ?yr3_1⟩) hSr31 ?rr3_1
    case yr3_1 => (intro w hSw; obtain ⟨_, _⟩ := id hSw; go_simp; try (with_reducible rfl))
    simp only [Act.put, List.setIfInBounds_toArray, List.set_cons_zero, List.set_cons_succ]
    refine takeH (i := 2) (t := 40) (v := ?vr3_2) rfl rfl (by kernel_rfl) (by kernel_rfl) (by kernel_rfl) (fun _ _ _ h => h) (Or.inl ⟨by rfl, ?yr3_2⟩) hSr31 ?rr3_2
    case yr3_2 => (intro w hSw; obtain ⟨_, _⟩ := id hSw; go_simp; try (with_reducible rfl))
    simp only [Act.put, List.setIfInBounds_toArray, List.set_cons_zero, List.set_cons_succ]
    refine takeH (i := 3) (t := 41) (v := ?vr3_3) rfl rfl (by kernel_rfl) (by kernel_rfl) (by kernel_rfl) (fun _ _ _ h => h) (Or.inl ⟨by rfl, ?yr3_3⟩) hSr31 ?rr3_3
    case yr3_3 => (intro w hSw; obtain ⟨_, _⟩ := id hSw; go_simp; try (with_reducible rfl))
    simp only [Act.put, List.setIfInBounds_toArray, List.set_cons_zero, List.set_cons_succ]
    refine takeH (i := 4) (t := 42) (v := ?vr3_4) rfl rfl (by kernel_rfl) (by kernel_rfl) (by kernel_rfl) (fun _ _ _ h => h) (Or.inl ⟨by rfl, ?yr3_4⟩) hSr31 ?rr3_4
    case yr3_4 => (intro w hSw; obtain ⟨_, _⟩ := id hSw; go_simp; try (with_reducible rfl))
    simp only [Act.put, List.setIfInBounds_toArray, List.set_cons_zero, List.set_cons_succ]
    refine takeH (i := 5) (t := 43) (v := ?vr3_5) rfl rfl (by kernel_rfl) (by kernel_rfl) (by kernel_rfl) (fun _ _ _ h => h) (Or.inl ⟨by rfl, ?yr3_5⟩) hSr31 ?rr3_5
    case yr3_5 => (intro w hSw; obtain ⟨_, _⟩ := id hSw; go_simp; try (with_reducible rfl))
    simp only [Act.put, List.setIfInBounds_toArray, List.set_cons_zero, List.set_cons_succ]
    refine takeH (i := 6) (t := 44) (v := ?vr3_6) rfl rfl (by kernel_rfl) (by kernel_rfl) (by kernel_rfl) (fun _ _ _ h => h) (Or.inl ⟨by rfl, ?yr3_6⟩) hSr31 ?rr3_6
    case yr3_6 => (intro w hSw; obtain ⟨_, _⟩ := id hSw; go_simp; try (with_reducible rfl))
    simp only [Act.put, List.setIfInBounds_toArray, List.set_cons_zero, List.set_cons_succ]
    refine takeH (i := 7) (t := 45) (v := ?vr3_7) rfl rfl (by kernel_rfl) (by kernel_rfl) (by kernel_rfl) (fun _ _ _ h => h) (Or.inl ⟨by rfl, ?yr3_7⟩) hSr31 ?rr3_7
    case yr3_7 => (intro w hSw; obtain ⟨_, _⟩ := id hSw; go_simp; try (with_reducible rfl))
    simp only [Act.put, List.setIfInBounds_toArray, List.set_cons_zero, List.set_cons_succ]
    refine takeH (i := 8) (t := 46) (v := ?vr3_8) rfl rfl (by kernel_rfl) (by kernel_rfl) (by kernel_rfl) (fun _ _ _ h => h) (Or.inl ⟨by rfl, ?yr3_8⟩) hSr31 ?rr3_8
    case yr3_8 => (intro w hSw; obtain ⟨_, _⟩ := id hSw; go_simp; try (with_reducible rfl))
    simp only [Act.put, List.setIfInBounds_toArray, List.set_cons_zero, List.set_cons_succ]
    refine takeH (i := 9) (t := 47) (v := ?vr3_9) rfl rfl (by kernel_rfl) (by kernel_rfl) (by kernel_rfl) (fun _ _ _ h => h) (Or.inl ⟨by rfl, ?yr3_9⟩) hSr31 ?rr3_9
    case yr3_9 => (intro w hSw; obtain ⟨_, _⟩ := id hSw; go_simp; try (with_reducible rfl))
    simp only [Act.put, List.setIfInBounds_toArray, List.set_cons_zero, List.set_cons_succ]
    refine takeH (i := 10) (t := 48) (v := ?vr3_10) rfl rfl (by kernel_rfl) (by kernel_rfl) (by kernel_rfl) (fun _ _ _ h => h) (Or.inl ⟨by rfl, ?yr3_10⟩) hSr31 ?rr3_10
    case yr3_10 => (intro w hSw; obtain ⟨_, _⟩ := id hSw; go_simp; try (with_reducible rfl))
    simp only [Act.put, List.setIfInBounds_toArray, List.set_cons_zero, List.set_cons_succ]
    refine takeH (i := 11) (t := 49) (v := ?vr3_11) rfl rfl (by kernel_rfl) (by kernel_rfl) (by kernel_rfl) (fun _ _ _ h => h) (Or.inl ⟨by rfl, ?yr3_11⟩) hSr31 ?rr3_11
    case yr3_11 => (intro w hSw; obtain ⟨_, _⟩ := id hSw; go_simp; try (with_reducible rfl))
    simp only [Act.put, List.setIfInBounds_toArray, List.set_cons_zero, List.set_cons_succ]
    refine takeH (i := 12) (t := 50) (v := ?vr3_12) rfl rfl (by kernel_rfl) (by kernel_rfl) (by kernel_rfl) (fun _ _ _ h => h) (Or.inl ⟨by rfl, ?yr3_12⟩) hSr31 ?rr3_12
    case yr3_12 => (intro w hSw; obtain ⟨_, _⟩ := id hSw; go_simp; try (with_reducible rfl))
    simp only [Act.put, List.setIfInBounds_toArray, List.set_cons_zero, List.set_cons_succ]
    refine takeH (i := 13) (t := 51) (v := ?vr3_13) rfl rfl (by kernel_rfl) (by kernel_rfl) (by kernel_rfl) (fun _ _ _ h => h) (Or.inl ⟨by rfl, ?yr3_13⟩) hSr31 ?rr3_13
    case yr3_13 => (intro w hSw; obtain ⟨_, _⟩ := id hSw; go_simp; try (with_reducible rfl))
    simp only [Act.put, List.setIfInBounds_toArray, List.set_cons_zero, List.set_cons_succ]
    refine takeH (i := 14) (t := 52) (v := undef) rfl rfl (by kernel_rfl) (by kernel_rfl) (by kernel_rfl) (fun _ _ _ h => h) (Or.inr ⟨by rfl, rfl⟩) hSr31 ?_
    simp only [Act.put, List.setIfInBounds_toArray, List.set_cons_zero, List.set_cons_succ]
    refine takeH (i := 15) (t := 53) (v := undef) rfl rfl (by kernel_rfl) (by kernel_rfl) (by kernel_rfl) (fun _ _ _ h => h) (Or.inr ⟨by rfl, rfl⟩) hSr31 ?_
    simp only [Act.put, List.setIfInBounds_toArray, List.set_cons_zero, List.set_cons_succ]
    refine takeH (i := 16) (t := 54) (v := undef) rfl rfl (by kernel_rfl) (by kernel_rfl) (by kernel_rfl) (fun _ _ _ h => h) (Or.inr ⟨by rfl, rfl⟩) hSr31 ?_
    simp only [Act.put, List.setIfInBounds_toArray, List.set_cons_zero, List.set_cons_succ]
    refine takeH (i := 17) (t := 55) (v := undef) rfl rfl (by kernel_rfl) (by kernel_rfl) (by kernel_rfl) (fun _ _ _ h => h) (Or.inr ⟨by rfl, rfl⟩) hSr31 ?_
    simp only [Act.put, List.setIfInBounds_toArray, List.set_cons_zero, List.set_cons_succ]
    refine takeH (i := 18) (t := 56) (v := undef) rfl rfl (by kernel_rfl) (by kernel_rfl) (by kernel_rfl) (fun _ _ _ h => h) (Or.inr ⟨by rfl, rfl⟩) hSr31 ?_
    simp only [Act.put, List.setIfInBounds_toArray, List.set_cons_zero, List.set_cons_succ]
    refine takeH (i := 19) (t := 57) (v := undef) rfl rfl (by kernel_rfl) (by kernel_rfl) (by kernel_rfl) (fun _ _ _ h => h) (Or.inr ⟨by rfl, rfl⟩) hSr31 ?_
    simp only [Act.put, List.setIfInBounds_toArray, List.set_cons_zero, List.set_cons_succ]
    refine takeH (i := 20) (t := 58) (v := undef) rfl rfl (by kernel_rfl) (by kernel_rfl) (by kernel_rfl) (fun _ _ _ h => h) (Or.inr ⟨by rfl, rfl⟩) hSr31 ?_
    simp only [Act.put, List.setIfInBounds_toArray, List.set_cons_zero, List.set_cons_succ]
    refine takeH (i := 21) (t := 59) (v := undef) rfl rfl (by kernel_rfl) (by kernel_rfl) (by kernel_rfl) (fun _ _ _ h => h) (Or.inr ⟨by rfl, rfl⟩) hSr31 ?_
    simp only [Act.put, List.setIfInBounds_toArray, List.set_cons_zero, List.set_cons_succ]
    refine takeH (i := 22) (t := 60) (v := undef) rfl rfl (by kernel_rfl) (by kernel_rfl) (by kernel_rfl) (fun _ _ _ h => h) (Or.inr ⟨by rfl, rfl⟩) hSr31 ?_
    simp only [Act.put, List.setIfInBounds_toArray, List.set_cons_zero, List.set_cons_succ]
    refine takeH (i := 23) (t := 61) (v := ?vr3_23) rfl rfl (by kernel_rfl) (by kernel_rfl) (by kernel_rfl) (fun _ _ _ h => h) (Or.inl ⟨by rfl, ?yr3_23⟩) hSr31 ?rr3_23
    case yr3_23 => (intro w hSw; obtain ⟨_, _⟩ := id hSw; go_simp; try (with_reducible rfl))
    simp only [Act.put, List.setIfInBounds_toArray, List.set_cons_zero, List.set_cons_succ]
    refine takeH (i := 24) (t := 62) (v := ?vr3_24) rfl rfl (by kernel_rfl) (by kernel_rfl) (by kernel_rfl) (fun _ _ _ h => h) (Or.inl ⟨by rfl, ?yr3_24⟩) hSr31 ?rr3_24
    case yr3_24 => (intro w hSw; obtain ⟨_, _⟩ := id hSw; go_simp; try (with_reducible rfl))
    simp only [Act.put, List.setIfInBounds_toArray, List.set_cons_zero, List.set_cons_succ]
    refine takeH (i := 25) (t := 63) (v := ?vr3_25) rfl rfl (by kernel_rfl) (by kernel_rfl) (by kernel_rfl) (fun _ _ _ h => h) (Or.inl ⟨by rfl, ?yr3_25⟩) hSr31 ?rr3_25
    case yr3_25 => (intro w hSw; obtain ⟨_, _⟩ := id hSw; go_simp; try (with_reducible rfl))
    simp only [Act.put, List.setIfInBounds_toArray, List.set_cons_zero, List.set_cons_succ]
    refine takeH (i := 26) (t := 64) (v := ?vr3_26) rfl rfl (by kernel_rfl) (by kernel_rfl) (by kernel_rfl) (fun _ _ _ h => h) (Or.inl ⟨by rfl, ?yr3_26⟩) hSr31 ?rr3_26
    case yr3_26 => (intro w hSw; obtain ⟨_, _⟩ := id hSw; go_simp; try (with_reducible rfl))
    simp only [Act.put, List.setIfInBounds_toArray, List.set_cons_zero, List.set_cons_succ]
    refine takeH (i := 27) (t := 65) (v := ?vr3_27) rfl rfl (by kernel_rfl) (by kernel_rfl) (by kernel_rfl) (fun _ _ _ h => h) (Or.inl ⟨by rfl, ?yr3_27⟩) hSr31 ?rr3_27
    case yr3_27 => (intro w hSw; obtain ⟨_, _⟩ := id hSw; go_simp; try (with_reducible rfl))
    simp only [Act.put, List.setIfInBounds_toArray, List.set_cons_zero, List.set_cons_succ]
    refine takeH (i := 28) (t := 66) (v := ?vr3_28) rfl rfl (by kernel_rfl) (by kernel_rfl) (by kernel_rfl) (fun _ _ _ h => h) (Or.inl ⟨by rfl, ?yr3_28⟩) hSr31 ?rr3_28
    case yr3_28 => (intro w hSw; obtain ⟨_, _⟩ := id hSw; go_simp; try (with_reducible rfl))
    simp only [Act.put, List.setIfInBounds_toArray, List.set_cons_zero, List.set_cons_succ]
    refine takeH (i := 29) (t := 67) (v := ?vr3_29) rfl rfl (by kernel_rfl) (by kernel_rfl) (by kernel_rfl) (fun _ _ _ h => h) (Or.inl ⟨by rfl, ?yr3_29⟩) hSr31 ?rr3_29
    case yr3_29 => (intro w hSw; obtain ⟨_, _⟩ := id hSw; go_simp; try (with_reducible rfl))
    simp only [Act.put, List.setIfInBounds_toArray, List.set_cons_zero, List.set_cons_succ]
    refine takeH (i := 30) (t := 68) (v := ?vr3_30) rfl rfl (by kernel_rfl) (by kernel_rfl) (by kernel_rfl) (fun _ _ _ h => h) (Or.inl ⟨by rfl, ?yr3_30⟩) hSr31 ?rr3_30
    case yr3_30 => (intro w hSw; obtain ⟨_, _⟩ := id hSw; go_simp; try (with_reducible rfl))
    simp only [Act.put, List.setIfInBounds_toArray, List.set_cons_zero, List.set_cons_succ]
    refine takeH (i := 31) (t := 69) (v := ?vr3_31) rfl rfl (by kernel_rfl) (by kernel_rfl) (by kernel_rfl) (fun _ _ _ h => h) (Or.inl ⟨by rfl, ?yr3_31⟩) hSr31 ?rr3_31
    case yr3_31 => (intro w hSw; obtain ⟨_, _⟩ := id hSw; go_simp; try (with_reducible rfl))
    simp only [Act.put, List.setIfInBounds_toArray, List.set_cons_zero, List.set_cons_succ]
    refine takeH (i := 32) (t := 70) (v := ?vr3_32) rfl rfl (by kernel_rfl) (by kernel_rfl) (by kernel_rfl) (fun _ _ _ h => h) (Or.inl ⟨by rfl, ?yr3_32⟩) hSr31 ?rr3_32
    case yr3_32 => (intro w hSw; obtain ⟨_, _⟩ := id hSw; go_simp; try (with_reducible rfl))
    simp only [Act.put, List.setIfInBounds_toArray, List.set_cons_zero, List.set_cons_succ]
    refine takeH (i := 33) (t := 71) (v := ?vr3_33) rfl rfl (by kernel_rfl) (by kernel_rfl) (by kernel_rfl) (fun _ _ _ h => h) (Or.inl ⟨by rfl, ?yr3_33⟩) hSr31 ?rr3_33
    case yr3_33 => (intro w hSw; obtain ⟨_, _⟩ := id hSw; go_simp; try (with_reducible rfl))
    simp only [Act.put, List.setIfInBounds_toArray, List.set_cons_zero, List.set_cons_succ]
    refine takeH (i := 34) (t := 72) (v := ?vr3_34) rfl rfl (by kernel_rfl) (by kernel_rfl) (by kernel_rfl) (fun _ _ _ h => h) (Or.inl ⟨by rfl, ?yr3_34⟩) hSr31 ?rr3_34
    case yr3_34 => (intro w hSw; obtain ⟨_, _⟩ := id hSw; go_simp; try (with_reducible rfl))
    simp only [Act.put, List.setIfInBounds_toArray, List.set_cons_zero, List.set_cons_succ]
    refine takeH (i := 37) (t := 75) (v := ?vr3_37) rfl rfl (by kernel_rfl) (by kernel_rfl) (by kernel_rfl) (fun _ _ _ h => h) (Or.inl ⟨by rfl, ?yr3_37⟩) hSr31 ?rr3_37
    case yr3_37 => (intro w hSw; obtain ⟨_, _⟩ := id hSw; go_simp; try (with_reducible rfl))
    simp only [Act.put, List.setIfInBounds_toArray, List.set_cons_zero, List.set_cons_succ]
    refine wpAnyH_ready (rs := [35]) (by kernel_rfl) (by simp) ?_
    refine AllReadyH.cons rfl (fun K hK => ?_) AllReadyH.nil
    go_simp
    refine (oK.out _).mono ?_
    rintro e u5 ⟨pa, pb, rfl, hp, hb⟩
    have D5 := D4.call hb
    clear hb
    have hSr32 := D5.tl.tl.b1
    go_wp2_with fail
    refine hK.out _ _ hSr32 (fun _ => ?_)
    clear hK K hSr31
    refine wpAnyH_ready (rs := [36]) (by kernel_rfl) (by simp) ?_
    refine AllReadyH.cons rfl (fun K hK => ?_) AllReadyH.nil
    go_simp
    refine (num_any _ _ _ _ hp).mono ?_
    rintro e u6 ⟨y6, Y6, m6, d6, rfl, q6, hb⟩
    have D6 := D5.call hb
    clear hb
    have hSr33 := D6.tl.tl.b1
    go_wp2_with fail
    refine hK.out _ _ hSr33 (fun _ => ?_)
    clear hK K hSr32
    refine wpAnyH_ready (rs := [38]) (by kernel_rfl) (by simp) ?_
    refine AllReadyH.cons rfl (fun K hK => ?_) AllReadyH.nil
    go_simp
    refine (rK.out _).mono ?_
    rintro e u7 ⟨y7, Y7, m7, d7, rfl, q7, hb⟩
    have D7 := D6.call hb
    replace q6 := q6.call hb
    clear hb
    have hSr34 := D7.tl.tl.b1
    go_wp2_with fail
    refine hK.out _ _ hSr34 (fun _ => ?_)
    clear hK K hSr33
    refine wpAnyH_ready (rs := [39]) (by kernel_rfl) (by simp) ?_
    refine AllReadyH.cons rfl (fun K hK => ?_) AllReadyH.nil
    go_simp
    refine (rCmp_any _ _ _ _ _ _ _ _ _ _ _ q6 q7 (lenF q6 F2.out (by omega)) (lenF q7 F2.out (by omega))).mono ?_
    rintro e u8 ⟨rfl, hb⟩
    rw [icmp_self]
    have D8 := D7.call hb
    clear hb
    have hSr35 := D8.tl.tl.b1
    go_wp2_with fail
    refine hK.out _ _ hSr35 (fun _ => ?_)
    clear hK K hSr34
    refine takeH (i := 40) (t := 78) (v := ?vr3_40) rfl rfl (by kernel_rfl) (by kernel_rfl) (by kernel_rfl) (fun _ _ _ h => h) (Or.inl ⟨by rfl, ?yr3_40⟩) hSr35 ?rr3_40
    case yr3_40 => (intro w hSw; obtain ⟨_, _⟩ := id hSw; go_simp; try (with_reducible rfl))
    simp only [Act.put, List.setIfInBounds_toArray, List.set_cons_zero, List.set_cons_succ]
    refine takeH (i := 41) (t := 79) (v := ?vr3_41) rfl rfl (by kernel_rfl) (by kernel_rfl) (by kernel_rfl) (fun _ _ _ h => h) (Or.inl ⟨by rfl, ?yr3_41⟩) hSr35 ?rr3_41
    case yr3_41 => (intro w hSw; obtain ⟨_, _⟩ := id hSw; go_simp; try (with_reducible rfl))
    simp only [Act.put, List.setIfInBounds_toArray, List.set_cons_zero, List.set_cons_succ]
    refine takeH (i := 42) (t := 4) (v := ?vr3_42) rfl rfl (by kernel_rfl) (by kernel_rfl) (by kernel_rfl) (fun _ _ _ h => h) (Or.inl ⟨by rfl, ?yr3_42⟩) hSr35 ?rr3_42
    case yr3_42 => (intro w hSw; obtain ⟨_, _⟩ := id hSw; go_simp; try (with_reducible rfl))
    simp only [Act.put, List.setIfInBounds_toArray, List.set_cons_zero, List.set_cons_succ]
    refine wpAnyH_done (by kernel_rfl) ?_ _
    all_goals
      go_wp2_with fail
      go_ret
      exact ⟨rfl, D8.below⟩
set_option maxHeartbeats 4000000 in
set_option maxRecDepth 100000 in
theorem small_high (h1 l1 n k : Int) (w : World) (H1 : IsW h1 l1 n) (b0 : -9223372036854775808 ≤ k) (b1 : k < 9223372036854775808) (htab : Tab w) (hn : 9223372036854775808 ≤ n) :
    Calls Tryd.prog 8 #[.agg #[.int .i64 h1, .int .u64 l1], .int .i64 k] w (RV (.bool true) w) := by
  have F1 := Lib.hid H1.fits
  have F2 := Lib.hid (fits_of b0 (Int.le_of_lt b1))
  have oK := Lib.hid (fun w => Of_any k w b0 b1)
  have rK := Lib.hid (fun w => rOf_any k w b0 b1)
  have sK := small_true b0 b1
  have fs : small n = false := by unfold small; rw [decide_eq_false_iff_not]; omega
  have HN := Lib.hid hn
  have i1 : Hid (icmp n (-9223372036854775808) = 1) := icmp_gt (by omega)
  have i2 : Hid (0 ≤ icmp n 9223372036854775808) := icmp_ge.2 hn
  generalize hu : icmp n 9223372036854775808 = u at i2
  have HU := Lib.hid hu
  have u0 : decide (u < 0) = false := decide_eq_false (by have := i2.out; omega)
  clear hu
  clear b0 b1 hn
  go_enter Tryd.func8, Tryd.ntmps8
  go_wp2_with fail
  refine (Small_any _ _ _ _ H1).mono ?_
  rintro e w1 ⟨rfl, hb1⟩
  have A0 := ((HeldW.start htab).new (t := 24) (u := .int .i64 h1) (v := .int .u64 l1) rfl).call hb1
  clear hb1 htab
  go_wp2_with fail
  refine (pow63_any _).mono ?_
  rintro e w2 ⟨x2, A2', l2, c2, rfl, k2, hb⟩
  replace A0 := A0.call hb
  clear hb
  go_wp2_with fail
  refine (rNeg_any _ _ _ _ _ _ k2 (lenF k2 (by decide) (by omega))).mono ?_
  rintro e w3 ⟨x3, A3', l3, c3, rfl, k3, hb⟩
  replace A0 := (A0.call hb).num k3
  clear hb k2 k3
  go_wp2_with fail
  refine (pow63_any _).mono ?_
  rintro e w4 ⟨x4, A4', l4, c4, rfl, k4, hb⟩
  replace A0 := (((A0.call hb).num k4).new (t := 27) (u := .bool x3) (v := .slice A3' l3 c3) rfl).new (g := w4.heap.size + 1) (t := 27) (u := .bool x4) (v := .slice A4' l4 c4) (by simp) |>.drew
  clear hb k4
  go_wp2_with fail
  go_region_held3 (fun w' => (w'.cell? ⟨w4.heap.size + 1, 0, none⟩ = some (.bool x4) ∧ w'.cell? ⟨w4.heap.size + 1, 1, none⟩ = some (.slice A4' l4 c4)) ∧ (w'.cell? ⟨w4.heap.size, 0, none⟩ = some (.bool x3) ∧ w'.cell? ⟨w4.heap.size, 1, none⟩ = some (.slice A3' l3 c3)) ∧ (w'.cell? ⟨w.heap.size, 0, none⟩ = some (.int .i64 h1) ∧ w'.cell? ⟨w.heap.size, 1, none⟩ = some (.int .u64 l1))) (first | with_reducible exact ⟨A4.b1, A4.tl.b1, A4.tl.tl.b1⟩ | with_reducible exact ⟨A3.b1, A3.tl.b1, A3.tl.tl.b1⟩ | with_reducible exact ⟨A2.b1, A2.tl.b1, A2.tl.tl.b1⟩ | with_reducible exact ⟨A1.b1, A1.tl.b1, A1.tl.tl.b1⟩ | with_reducible exact ⟨A0.b1, A0.tl.b1, A0.tl.tl.b1⟩)
    (first
      | (go_at_call 12; have _t := A2; ((with_reducible refine (num_any _ _ _ _ H1).mono ?_); rintro e v3 ⟨x7, A7', l7, c7, rfl, k7, hb⟩; have A3 := A2.call hb; clear hb))
      | (go_at_call 12; ((with_reducible refine (num_any _ _ _ _ H1).mono ?_); rintro e v1 ⟨x6, A6', l6, c6, rfl, k6, hb⟩; have A1 := A0.call hb; clear hb))
      | (go_at_call 27; ((with_reducible refine (rCmp_any _ _ _ _ _ _ _ _ _ _ _ k6 A1.ntl.n1 (lenF k6 F1.out (by omega)) (lenF A1.ntl.n1 (by decide) (by omega))).mono ?_); rintro e v2 ⟨rfl, hb⟩; rw [i1.out]; have A2 := A1.call hb; clear hb))
      | (go_at_call 27; ((with_reducible refine (rCmp_any _ _ _ _ _ _ _ _ _ _ _ k7 A3.n1 (lenF k7 F1.out (by omega)) (lenF A3.n1 (by decide) (by omega))).mono ?_); rintro e v4 ⟨rfl, hb⟩; rw [HU.out]; have A4 := A3.call hb; clear hb)))
  all_goals
    go_wp2_with fail
    refine (oK.out _).mono ?_
    rintro e v5 ⟨oa, ob, rfl, ho, hb⟩
    have A5 := A4.call hb
    clear hb
    go_wp2_with fail
    refine (Small_any _ _ _ _ ho).mono ?_
    rintro e v6 ⟨rfl, hb⟩
    replace A5 := (A5.call hb).drew
    clear hb
    go_wp2_with fail
    have hSr40 := A5.tl.tl.b1
    refine wp_region_held_drew (S := (fun w' => w'.cell? ⟨w.heap.size, 0, none⟩ = some (.int .i64 h1) ∧ w'.cell? ⟨w.heap.size, 1, none⟩ = some (.int .u64 l1))) (by kernel_rfl) hSr40 (fun _ => ?_)
    refine wpAnyH_ready (rs := [0]) (by kernel_rfl) (by simp) ?_
    refine AllReadyH.cons rfl (fun K hK => ?_) AllReadyH.nil
    go_simp
    refine (alive_any _ A5.tab).mono ?_
    rintro e u1 ⟨rfl, hb⟩
    have D4 := A5.call hb
    clear hb
    have hSr41 := D4.tl.tl.b1
    go_wp2_with fail
    refine hK.out _ _ hSr41 (fun _ => ?_)
    clear hK K hSr40
    refine takeH (i := 1) (t := 39) (v := ?vr4_1) rfl rfl (by kernel_rfl) (by kernel_rfl) (by kernel_rfl) (fun _ _ _ h => h) (Or.inl ⟨by rfl, ?yr4_1⟩) hSr41 ?rr4_1
    case yr4_1 => (intro w hSw; obtain ⟨_, _⟩ := id hSw; go_simp; try (with_reducible rfl))
    simp only [Act.put, List.setIfInBounds_toArray, List.set_cons_zero, List.set_cons_succ]
    refine takeH (i := 2) (t := 40) (v := ?vr4_2) rfl rfl (by kernel_rfl) (by kernel_rfl) (by kernel_rfl) (fun _ _ _ h => h) (Or.inl ⟨by rfl, ?yr4_2⟩) hSr41 ?rr4_2
    case yr4_2 => (intro w hSw; obtain ⟨_, _⟩ := id hSw; go_simp; try (with_reducible rfl))
    simp only [Act.put, List.setIfInBounds_toArray, List.set_cons_zero, List.set_cons_succ]
    refine takeH (i := 3) (t := 41) (v := ?vr4_3) rfl rfl (by kernel_rfl) (by kernel_rfl) (by kernel_rfl) (fun _ _ _ h => h) (Or.inl ⟨by rfl, ?yr4_3⟩) hSr41 ?rr4_3
    case yr4_3 => (intro w hSw; obtain ⟨_, _⟩ := id hSw; go_simp; try (with_reducible rfl))
    simp only [Act.put, List.setIfInBounds_toArray, List.set_cons_zero, List.set_cons_succ]
    refine takeH (i := 4) (t := 42) (v := ?vr4_4) rfl rfl (by kernel_rfl) (by kernel_rfl) (by kernel_rfl) (fun _ _ _ h => h) (Or.inl ⟨by rfl, ?yr4_4⟩) hSr41 ?rr4_4
    case yr4_4 => (intro w hSw; obtain ⟨_, _⟩ := id hSw; go_simp; try (with_reducible rfl))
    simp only [Act.put, List.setIfInBounds_toArray, List.set_cons_zero, List.set_cons_succ]
    refine takeH (i := 5) (t := 43) (v := ?vr4_5) rfl rfl (by kernel_rfl) (by kernel_rfl) (by kernel_rfl) (fun _ _ _ h => h) (Or.inl ⟨by rfl, ?yr4_5⟩) hSr41 ?rr4_5
    case yr4_5 => (intro w hSw; obtain ⟨_, _⟩ := id hSw; go_simp; try (with_reducible rfl))
    simp only [Act.put, List.setIfInBounds_toArray, List.set_cons_zero, List.set_cons_succ]
    refine takeH (i := 6) (t := 44) (v := ?vr4_6) rfl rfl (by kernel_rfl) (by kernel_rfl) (by kernel_rfl) (fun _ _ _ h => h) (Or.inl ⟨by rfl, ?yr4_6⟩) hSr41 ?rr4_6
    case yr4_6 => (intro w hSw; obtain ⟨_, _⟩ := id hSw; go_simp; try (with_reducible rfl))
    simp only [Act.put, List.setIfInBounds_toArray, List.set_cons_zero, List.set_cons_succ]
    refine takeH (i := 7) (t := 45) (v := ?vr4_7) rfl rfl (by kernel_rfl) (by kernel_rfl) (by kernel_rfl) (fun _ _ _ h => h) (Or.inl ⟨by rfl, ?yr4_7⟩) hSr41 ?rr4_7
    case yr4_7 => (intro w hSw; obtain ⟨_, _⟩ := id hSw; go_simp; try (with_reducible rfl))
    simp only [Act.put, List.setIfInBounds_toArray, List.set_cons_zero, List.set_cons_succ]
    refine takeH (i := 8) (t := 46) (v := ?vr4_8) rfl rfl (by kernel_rfl) (by kernel_rfl) (by kernel_rfl) (fun _ _ _ h => h) (Or.inl ⟨by rfl, ?yr4_8⟩) hSr41 ?rr4_8
    case yr4_8 => (intro w hSw; obtain ⟨_, _⟩ := id hSw; go_simp; try (with_reducible rfl))
    simp only [Act.put, List.setIfInBounds_toArray, List.set_cons_zero, List.set_cons_succ]
    refine takeH (i := 9) (t := 47) (v := ?vr4_9) rfl rfl (by kernel_rfl) (by kernel_rfl) (by kernel_rfl) (fun _ _ _ h => h) (Or.inl ⟨by rfl, ?yr4_9⟩) hSr41 ?rr4_9
    case yr4_9 => (intro w hSw; obtain ⟨_, _⟩ := id hSw; go_simp; try (with_reducible rfl))
    simp only [Act.put, List.setIfInBounds_toArray, List.set_cons_zero, List.set_cons_succ]
    refine takeH (i := 10) (t := 48) (v := ?vr4_10) rfl rfl (by kernel_rfl) (by kernel_rfl) (by kernel_rfl) (fun _ _ _ h => h) (Or.inl ⟨by rfl, ?yr4_10⟩) hSr41 ?rr4_10
    case yr4_10 => (intro w hSw; obtain ⟨_, _⟩ := id hSw; go_simp; try (with_reducible rfl))
    simp only [Act.put, List.setIfInBounds_toArray, List.set_cons_zero, List.set_cons_succ]
    refine takeH (i := 11) (t := 49) (v := ?vr4_11) rfl rfl (by kernel_rfl) (by kernel_rfl) (by kernel_rfl) (fun _ _ _ h => h) (Or.inl ⟨by rfl, ?yr4_11⟩) hSr41 ?rr4_11
    case yr4_11 => (intro w hSw; obtain ⟨_, _⟩ := id hSw; go_simp; try (with_reducible rfl))
    simp only [Act.put, List.setIfInBounds_toArray, List.set_cons_zero, List.set_cons_succ]
    refine takeH (i := 12) (t := 50) (v := ?vr4_12) rfl rfl (by kernel_rfl) (by kernel_rfl) (by kernel_rfl) (fun _ _ _ h => h) (Or.inl ⟨by rfl, ?yr4_12⟩) hSr41 ?rr4_12
    case yr4_12 => (intro w hSw; obtain ⟨_, _⟩ := id hSw; go_simp; try (with_reducible rfl))
    simp only [Act.put, List.setIfInBounds_toArray, List.set_cons_zero, List.set_cons_succ]
    refine takeH (i := 13) (t := 51) (v := ?vr4_13) rfl rfl (by kernel_rfl) (by kernel_rfl) (by kernel_rfl) (fun _ _ _ h => h) (Or.inl ⟨by rfl, ?yr4_13⟩) hSr41 ?rr4_13
    case yr4_13 => (intro w hSw; obtain ⟨_, _⟩ := id hSw; go_simp; try (with_reducible rfl))
    simp only [Act.put, List.setIfInBounds_toArray, List.set_cons_zero, List.set_cons_succ]
    refine takeH (i := 14) (t := 52) (v := undef) rfl rfl (by kernel_rfl) (by kernel_rfl) (by kernel_rfl) (fun _ _ _ h => h) (Or.inr ⟨by rfl, rfl⟩) hSr41 ?_
    simp only [Act.put, List.setIfInBounds_toArray, List.set_cons_zero, List.set_cons_succ]
    refine takeH (i := 15) (t := 53) (v := undef) rfl rfl (by kernel_rfl) (by kernel_rfl) (by kernel_rfl) (fun _ _ _ h => h) (Or.inr ⟨by rfl, rfl⟩) hSr41 ?_
    simp only [Act.put, List.setIfInBounds_toArray, List.set_cons_zero, List.set_cons_succ]
    refine takeH (i := 16) (t := 54) (v := undef) rfl rfl (by kernel_rfl) (by kernel_rfl) (by kernel_rfl) (fun _ _ _ h => h) (Or.inr ⟨by rfl, rfl⟩) hSr41 ?_
    simp only [Act.put, List.setIfInBounds_toArray, List.set_cons_zero, List.set_cons_succ]
    refine takeH (i := 17) (t := 55) (v := undef) rfl rfl (by kernel_rfl) (by kernel_rfl) (by kernel_rfl) (fun _ _ _ h => h) (Or.inr ⟨by rfl, rfl⟩) hSr41 ?_
    simp only [Act.put, List.setIfInBounds_toArray, List.set_cons_zero, List.set_cons_succ]
    refine takeH (i := 18) (t := 56) (v := undef) rfl rfl (by kernel_rfl) (by kernel_rfl) (by kernel_rfl) (fun _ _ _ h => h) (Or.inr ⟨by rfl, rfl⟩) hSr41 ?_
    simp only [Act.put, List.setIfInBounds_toArray, List.set_cons_zero, List.set_cons_succ]
    refine takeH (i := 19) (t := 57) (v := undef) rfl rfl (by kernel_rfl) (by kernel_rfl) (by kernel_rfl) (fun _ _ _ h => h) (Or.inr ⟨by rfl, rfl⟩) hSr41 ?_
    simp only [Act.put, List.setIfInBounds_toArray, List.set_cons_zero, List.set_cons_succ]
    refine takeH (i := 20) (t := 58) (v := undef) rfl rfl (by kernel_rfl) (by kernel_rfl) (by kernel_rfl) (fun _ _ _ h => h) (Or.inr ⟨by rfl, rfl⟩) hSr41 ?_
    simp only [Act.put, List.setIfInBounds_toArray, List.set_cons_zero, List.set_cons_succ]
    refine takeH (i := 21) (t := 59) (v := undef) rfl rfl (by kernel_rfl) (by kernel_rfl) (by kernel_rfl) (fun _ _ _ h => h) (Or.inr ⟨by rfl, rfl⟩) hSr41 ?_
    simp only [Act.put, List.setIfInBounds_toArray, List.set_cons_zero, List.set_cons_succ]
    refine takeH (i := 22) (t := 60) (v := undef) rfl rfl (by kernel_rfl) (by kernel_rfl) (by kernel_rfl) (fun _ _ _ h => h) (Or.inr ⟨by rfl, rfl⟩) hSr41 ?_
    simp only [Act.put, List.setIfInBounds_toArray, List.set_cons_zero, List.set_cons_succ]
    refine takeH (i := 23) (t := 61) (v := ?vr4_23) rfl rfl (by kernel_rfl) (by kernel_rfl) (by kernel_rfl) (fun _ _ _ h => h) (Or.inl ⟨by rfl, ?yr4_23⟩) hSr41 ?rr4_23
    case yr4_23 => (intro w hSw; obtain ⟨_, _⟩ := id hSw; go_simp; try (with_reducible rfl))
    simp only [Act.put, List.setIfInBounds_toArray, List.set_cons_zero, List.set_cons_succ]
    refine takeH (i := 24) (t := 62) (v := ?vr4_24) rfl rfl (by kernel_rfl) (by kernel_rfl) (by kernel_rfl) (fun _ _ _ h => h) (Or.inl ⟨by rfl, ?yr4_24⟩) hSr41 ?rr4_24
    case yr4_24 => (intro w hSw; obtain ⟨_, _⟩ := id hSw; go_simp; try (with_reducible rfl))
    simp only [Act.put, List.setIfInBounds_toArray, List.set_cons_zero, List.set_cons_succ]
    refine takeH (i := 25) (t := 63) (v := ?vr4_25) rfl rfl (by kernel_rfl) (by kernel_rfl) (by kernel_rfl) (fun _ _ _ h => h) (Or.inl ⟨by rfl, ?yr4_25⟩) hSr41 ?rr4_25
    case yr4_25 => (intro w hSw; obtain ⟨_, _⟩ := id hSw; go_simp; try (with_reducible rfl))
    simp only [Act.put, List.setIfInBounds_toArray, List.set_cons_zero, List.set_cons_succ]
    refine takeH (i := 26) (t := 64) (v := ?vr4_26) rfl rfl (by kernel_rfl) (by kernel_rfl) (by kernel_rfl) (fun _ _ _ h => h) (Or.inl ⟨by rfl, ?yr4_26⟩) hSr41 ?rr4_26
    case yr4_26 => (intro w hSw; obtain ⟨_, _⟩ := id hSw; go_simp; try (with_reducible rfl))
    simp only [Act.put, List.setIfInBounds_toArray, List.set_cons_zero, List.set_cons_succ]
    refine takeH (i := 27) (t := 65) (v := ?vr4_27) rfl rfl (by kernel_rfl) (by kernel_rfl) (by kernel_rfl) (fun _ _ _ h => h) (Or.inl ⟨by rfl, ?yr4_27⟩) hSr41 ?rr4_27
    case yr4_27 => (intro w hSw; obtain ⟨_, _⟩ := id hSw; go_simp; try (with_reducible rfl))
    simp only [Act.put, List.setIfInBounds_toArray, List.set_cons_zero, List.set_cons_succ]
    refine takeH (i := 28) (t := 66) (v := ?vr4_28) rfl rfl (by kernel_rfl) (by kernel_rfl) (by kernel_rfl) (fun _ _ _ h => h) (Or.inl ⟨by rfl, ?yr4_28⟩) hSr41 ?rr4_28
    case yr4_28 => (intro w hSw; obtain ⟨_, _⟩ := id hSw; go_simp; try (with_reducible rfl))
    simp only [Act.put, List.setIfInBounds_toArray, List.set_cons_zero, List.set_cons_succ]
    refine takeH (i := 29) (t := 67) (v := ?vr4_29) rfl rfl (by kernel_rfl) (by kernel_rfl) (by kernel_rfl) (fun _ _ _ h => h) (Or.inl ⟨by rfl, ?yr4_29⟩) hSr41 ?rr4_29
    case yr4_29 => (intro w hSw; obtain ⟨_, _⟩ := id hSw; go_simp; try (with_reducible rfl))
    simp only [Act.put, List.setIfInBounds_toArray, List.set_cons_zero, List.set_cons_succ]
    refine takeH (i := 30) (t := 68) (v := ?vr4_30) rfl rfl (by kernel_rfl) (by kernel_rfl) (by kernel_rfl) (fun _ _ _ h => h) (Or.inl ⟨by rfl, ?yr4_30⟩) hSr41 ?rr4_30
    case yr4_30 => (intro w hSw; obtain ⟨_, _⟩ := id hSw; go_simp; try (with_reducible rfl))
    simp only [Act.put, List.setIfInBounds_toArray, List.set_cons_zero, List.set_cons_succ]
    refine takeH (i := 31) (t := 69) (v := ?vr4_31) rfl rfl (by kernel_rfl) (by kernel_rfl) (by kernel_rfl) (fun _ _ _ h => h) (Or.inl ⟨by rfl, ?yr4_31⟩) hSr41 ?rr4_31
    case yr4_31 => (intro w hSw; obtain ⟨_, _⟩ := id hSw; go_simp; try (with_reducible rfl))
    simp only [Act.put, List.setIfInBounds_toArray, List.set_cons_zero, List.set_cons_succ]
    refine takeH (i := 32) (t := 70) (v := ?vr4_32) rfl rfl (by kernel_rfl) (by kernel_rfl) (by kernel_rfl) (fun _ _ _ h => h) (Or.inl ⟨by rfl, ?yr4_32⟩) hSr41 ?rr4_32
    case yr4_32 => (intro w hSw; obtain ⟨_, _⟩ := id hSw; go_simp; try (with_reducible rfl))
    simp only [Act.put, List.setIfInBounds_toArray, List.set_cons_zero, List.set_cons_succ]
    refine takeH (i := 33) (t := 71) (v := ?vr4_33) rfl rfl (by kernel_rfl) (by kernel_rfl) (by kernel_rfl) (fun _ _ _ h => h) (Or.inl ⟨by rfl, ?yr4_33⟩) hSr41 ?rr4_33
    case yr4_33 => (intro w hSw; obtain ⟨_, _⟩ := id hSw; go_simp; try (with_reducible rfl))
    simp only [Act.put, List.setIfInBounds_toArray, List.set_cons_zero, List.set_cons_succ]
    refine takeH (i := 34) (t := 72) (v := ?vr4_34) rfl rfl (by kernel_rfl) (by kernel_rfl) (by kernel_rfl) (fun _ _ _ h => h) (Or.inl ⟨by rfl, ?yr4_34⟩) hSr41 ?rr4_34
    case yr4_34 => (intro w hSw; obtain ⟨_, _⟩ := id hSw; go_simp; try (with_reducible rfl))
    simp only [Act.put, List.setIfInBounds_toArray, List.set_cons_zero, List.set_cons_succ]
    refine takeH (i := 37) (t := 75) (v := ?vr4_37) rfl rfl (by kernel_rfl) (by kernel_rfl) (by kernel_rfl) (fun _ _ _ h => h) (Or.inl ⟨by rfl, ?yr4_37⟩) hSr41 ?rr4_37
    case yr4_37 => (intro w hSw; obtain ⟨_, _⟩ := id hSw; go_simp; try (with_reducible rfl))
    simp only [Act.put, List.setIfInBounds_toArray, List.set_cons_zero, List.set_cons_succ]
    refine wpAnyH_ready (rs := [35]) (by kernel_rfl) (by simp) ?_
    refine AllReadyH.cons rfl (fun K hK => ?_) AllReadyH.nil
    go_simp
    refine (oK.out _).mono ?_
    rintro e u5 ⟨pa, pb, rfl, hp, hb⟩
    have D5 := D4.call hb
    clear hb
    have hSr42 := D5.tl.tl.b1
    go_wp2_with fail
    refine hK.out _ _ hSr42 (fun _ => ?_)
    clear hK K hSr41
    refine wpAnyH_ready (rs := [36]) (by kernel_rfl) (by simp) ?_
    refine AllReadyH.cons rfl (fun K hK => ?_) AllReadyH.nil
    go_simp
    refine (num_any _ _ _ _ hp).mono ?_
    rintro e u6 ⟨y6, Y6, m6, d6, rfl, q6, hb⟩
    have D6 := D5.call hb
    clear hb
    have hSr43 := D6.tl.tl.b1
    go_wp2_with fail
    refine hK.out _ _ hSr43 (fun _ => ?_)
    clear hK K hSr42
    refine wpAnyH_ready (rs := [38]) (by kernel_rfl) (by simp) ?_
    refine AllReadyH.cons rfl (fun K hK => ?_) AllReadyH.nil
    go_simp
    refine (rK.out _).mono ?_
    rintro e u7 ⟨y7, Y7, m7, d7, rfl, q7, hb⟩
    have D7 := D6.call hb
    replace q6 := q6.call hb
    clear hb
    have hSr44 := D7.tl.tl.b1
    go_wp2_with fail
    refine hK.out _ _ hSr44 (fun _ => ?_)
    clear hK K hSr43
    refine wpAnyH_ready (rs := [39]) (by kernel_rfl) (by simp) ?_
    refine AllReadyH.cons rfl (fun K hK => ?_) AllReadyH.nil
    go_simp
    refine (rCmp_any _ _ _ _ _ _ _ _ _ _ _ q6 q7 (lenF q6 F2.out (by omega)) (lenF q7 F2.out (by omega))).mono ?_
    rintro e u8 ⟨rfl, hb⟩
    rw [icmp_self]
    have D8 := D7.call hb
    clear hb
    have hSr45 := D8.tl.tl.b1
    go_wp2_with fail
    refine hK.out _ _ hSr45 (fun _ => ?_)
    clear hK K hSr44
    refine takeH (i := 40) (t := 78) (v := ?vr4_40) rfl rfl (by kernel_rfl) (by kernel_rfl) (by kernel_rfl) (fun _ _ _ h => h) (Or.inl ⟨by rfl, ?yr4_40⟩) hSr45 ?rr4_40
    case yr4_40 => (intro w hSw; obtain ⟨_, _⟩ := id hSw; go_simp; try (with_reducible rfl))
    simp only [Act.put, List.setIfInBounds_toArray, List.set_cons_zero, List.set_cons_succ]
    refine takeH (i := 41) (t := 79) (v := ?vr4_41) rfl rfl (by kernel_rfl) (by kernel_rfl) (by kernel_rfl) (fun _ _ _ h => h) (Or.inl ⟨by rfl, ?yr4_41⟩) hSr45 ?rr4_41
    case yr4_41 => (intro w hSw; obtain ⟨_, _⟩ := id hSw; go_simp; try (with_reducible rfl))
    simp only [Act.put, List.setIfInBounds_toArray, List.set_cons_zero, List.set_cons_succ]
    refine takeH (i := 42) (t := 4) (v := ?vr4_42) rfl rfl (by kernel_rfl) (by kernel_rfl) (by kernel_rfl) (fun _ _ _ h => h) (Or.inl ⟨by rfl, ?yr4_42⟩) hSr45 ?rr4_42
    case yr4_42 => (intro w hSw; obtain ⟨_, _⟩ := id hSw; go_simp; try (with_reducible rfl))
    simp only [Act.put, List.setIfInBounds_toArray, List.set_cons_zero, List.set_cons_succ]
    refine wpAnyH_done (by kernel_rfl) ?_ _
    all_goals
      go_wp2_with fail
      go_ret
      exact ⟨rfl, D8.below⟩
theorem small_walk (h1 l1 n k : Int) (w : World) (H1 : IsW h1 l1 n) (b0 : -9223372036854775808 ≤ k) (b1 : k < 9223372036854775808) (htab : Tab w) :
    Calls Tryd.prog 8 #[.agg #[.int .i64 h1, .int .u64 l1], .int .i64 k] w (RV (.bool true) w) := by
  rcases Int.lt_or_le n (-9223372036854775808) with q | q
  · exact small_low h1 l1 n k w H1 b0 b1 htab q
  · rcases Int.lt_or_le n 9223372036854775808 with r | r
    · exact small_in h1 l1 n k w H1 b0 b1 htab ⟨q, r⟩
    · exact small_high h1 l1 n k w H1 b0 b1 htab r
end Go.Proofs.YtdmjccbpghilcaaDoor
