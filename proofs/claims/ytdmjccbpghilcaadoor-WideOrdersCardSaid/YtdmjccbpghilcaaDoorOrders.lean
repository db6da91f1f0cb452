/-
  cobweblaw01.WideOrders returns true, for every two Ints. My own text.
-/
import Derived.Test.YtdmjccbpghilcaaDoorLawB
import Derived.Deep.DrawnRows
namespace Go.Proofs.YtdmjccbpghilcaaDoor
open Go.RowKit Go.Lib
set_option linter.unusedVariables false
attribute [local go_sem ↓] Go.wp_at_zero Go.wp_at_succ

theorem icmp_swap (n m : Int) : icmp m n = -icmp n m := by
  unfold icmp
  repeat' split
  all_goals omega
theorem icmp_zero (n m : Int) : decide (n = m) = (icmp n m == 0) := by
  unfold icmp
  repeat' split
  all_goals simp_all
set_option maxHeartbeats 4000000 in
set_option maxRecDepth 100000 in
theorem orders_walk (h1 l1 n h2 l2 m : Int) (w : World) (H1 : IsW h1 l1 n) (H2 : IsW h2 l2 m) (htab : Tab w) :
    Calls Tryd.prog 6 #[.agg #[.int .i64 h1, .int .u64 l1], .agg #[.int .i64 h2, .int .u64 l2]] w (RV (.bool true) w) := by
  have F1 := Lib.hid H1.fits
  have F2 := Lib.hid H2.fits
  have c1 : Hid (∀ w, Calls Tryd.prog 26 #[.agg #[.int .i64 h2, .int .u64 l2], .agg #[.int .i64 h1, .int .u64 l1]] w (RV (.int .i64 (-icmp n m)) w)) := fun w => by have := Cmp_any _ _ _ _ _ _ w H2 H1; rw [icmp_swap] at this; exact this
  have E1 : eqW h1 l1 h2 l2 = (icmp n m == 0) := by rw [H1.eqW H2]; exact icmp_zero n m
  have r1 := icmp_bd n m
  generalize hx : icmp n m = cx at c1 E1 r1
  have HX := Lib.hid hx
  clear hx
  have s1 : IntKind.i64.wrap (-cx) = -cx := IntWalk.i64_in _ (by omega)
  go_enter Tryd.func6, Tryd.ntmps6
  go_wp2_with fail
  refine (Cmp_any _ _ _ _ _ _ _ H1 H2).mono ?_
  rintro e w1 ⟨rfl, hb1⟩
  rw [HX.out]
  have A0 := (((HeldW.start htab).new (t := 24) (u := .int .i64 h1) (v := .int .u64 l1) rfl).new (t := 24) (g := w.heap.size + 1) (u := .int .i64 h2) (v := .int .u64 l2) (by simp)).call hb1 |>.drew
  clear hb1 htab
  go_wp2_with fail
  go_region_held3 (fun w' => (w'.cell? ⟨w.heap.size + 1, 0, none⟩ = some (.int .i64 h2) ∧ w'.cell? ⟨w.heap.size + 1, 1, none⟩ = some (.int .u64 l2)) ∧ (w'.cell? ⟨w.heap.size, 0, none⟩ = some (.int .i64 h1) ∧ w'.cell? ⟨w.heap.size, 1, none⟩ = some (.int .u64 l1))) (first | with_reducible exact ⟨A9.b1, A9.tl.b1⟩ | with_reducible exact ⟨A8.b1, A8.tl.b1⟩ | with_reducible exact ⟨A7.b1, A7.tl.b1⟩ | with_reducible exact ⟨A6.b1, A6.tl.b1⟩ | with_reducible exact ⟨A5.b1, A5.tl.b1⟩ | with_reducible exact ⟨A4.b1, A4.tl.b1⟩ | with_reducible exact ⟨A3.b1, A3.tl.b1⟩ | with_reducible exact ⟨A2.b1, A2.tl.b1⟩ | with_reducible exact ⟨A1.b1, A1.tl.b1⟩ | with_reducible exact ⟨A0.b1, A0.tl.b1⟩)
    (first
      | (go_at_call 16; ((with_reducible refine (alive_any _ A0.tab).mono ?_); rintro e v1 ⟨rfl, hb⟩; have A1 := A0.call hb; clear hb))
      | (go_at_call 12; have _t := A6; ((with_reducible refine (num_any _ _ _ _ H1).mono ?_); rintro e v7 ⟨x7, A7', l7, c7, rfl, k7, hb⟩; have A7 := A6.call hb; clear hb))
      | (go_at_call 12; have _t := A2; ((with_reducible refine (num_any _ _ _ _ H2).mono ?_); rintro e v3 ⟨x3, A3', l3, c3, rfl, k3, hb⟩; have A3 := A2.call hb; replace k2 := k2.call hb; clear hb))
      | (go_at_call 12; ((with_reducible refine (num_any _ _ _ _ H1).mono ?_); rintro e v2 ⟨x2, A2', l2', c2, rfl, k2, hb⟩; have A2 := A1.call hb; clear hb))
      | (go_at_call 27; ((with_reducible refine (rCmp_any _ _ _ _ _ _ _ _ _ _ _ k2 k3 (lenF k2 F1.out (by omega)) (lenF k3 F2.out (by omega))).mono ?_); rintro e v4 ⟨rfl, hb⟩; rw [HX.out]; have A4 := A3.call hb; clear hb))
      | (go_at_call 26; ((with_reducible refine (c1.out _).mono ?_); rintro e v5 ⟨rfl, hb⟩; have A5 := A4.call hb; clear hb))
      | (go_at_call 28; ((with_reducible refine (Sign_any _ _ _ _ H1).mono ?_); rintro e v6 ⟨rfl, hb⟩; have A6 := A5.call hb; clear hb))
      | (go_at_call 23; ((with_reducible refine (rOf_any 0 _ (by omega) (by omega)).mono ?_); rintro e v8 ⟨x8, A8', l8, c8, rfl, k8, hb⟩; have A8 := A7.call hb; replace k7 := k7.call hb; clear hb))
      | (go_at_call 27; ((with_reducible refine (rCmp_any _ _ _ _ _ _ _ _ _ _ _ k7 k8 (lenF k7 F1.out (by omega)) (lenF k8 (by decide) (by omega))).mono ?_); rintro e v9 ⟨rfl, hb⟩; have A9 := A8.call hb; clear hb)))
  all_goals
    go_wp2_with fail
    go_ret
    exact ⟨rfl, A9.below⟩
end Go.Proofs.YtdmjccbpghilcaaDoor
