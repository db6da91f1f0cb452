/-
  Contracts of the reference package: Cmp, Add. My own text.
-/
import Derived.Test.YtinjgiigmlikpaaRefG
namespace Go.Proofs.Ytinjgiigmlikpaa
open Go.RowKit
set_option linter.unusedVariables false

theorem icmp_neg (a b : Int) : icmp (-a) (-b) = icmp b a := by
  unfold icmp
  repeat' split
  all_goals omega
theorem Std.nonneg {ds : List Int} {n : Int} (h : Std false ds n) : 0 ≤ n := by rw [h.val]; exact dval_nonneg h.dg
theorem Std.below {ds : List Int} {n : Int} (h : Std true ds n) : n < 0 := by have := h.pos (h.sign rfl); rw [h.val]; simp [sg]; omega
set_option maxHeartbeats 1000000 in
theorem rCmp_any (x y : Bool) (A B : Option Addr) (l c l' c' : Nat) (n m : Int) (w : World) (h : IsN w x A l c n) (k : IsN w y B l' c' m) (hl : l ≤ 1000) (hl' : l' ≤ 1000) :
    Calls Try.prog 15 #[.agg #[.bool x, .slice A l c], .agg #[.bool y, .slice B l' c']] w (RV (.int .i64 (icmp n m)) w) := by
  obtain ⟨ds, hD, hS⟩ := h
  obtain ⟨es, hE, hT⟩ := k
  have hd := Lib.hid hS.dg
  have he := Lib.hid hT.dg
  have C1 := Lib.hid (fun w h1 h2 => size_any A B l c l' c' ds es w h1 h2 hd.out he.out hl hl')
  have C2 := Lib.hid (fun w h1 h2 => size_any B A l' c' l c es ds w h1 h2 he.out hd.out hl' hl)
  have D1 := Lib.hid hD
  have D2 := Lib.hid hE
  clear hD hE
  cases x <;> cases y
  · have hv : Hid (icmp (dval ds) (dval es) = icmp n m) := by unfold Hid; rw [hS.val, hT.val]; rfl
    clear hS hT
    go_enter Try.func15, Try.ntmps15
    go_wp2_with (go_at_call 47; refine (C1.out _ ((D1.out.alloc _).alloc _) ((D2.out.alloc _).alloc _)).mono ?_; rintro e w1 ⟨rfl, rfl⟩)
    go_ret
    exact ⟨ret_int hv.out, by (repeat (first | (with_reducible exact Below.refl _ _) | with_reducible assumption | (with_reducible refine below_alloc ?_ _) | (focus ((with_reducible refine below_set ?_ _ _ _ ?_); rotate_left; omega)) | (with_reducible refine Below.drew ?_)))⟩
  · have hv : Hid (icmp n m = 1) := icmp_gt (by have := hS.nonneg; have := hT.below; omega)
    clear hS hT
    go_enter Try.func15, Try.ntmps15
    go_wp2
    go_ret
    exact ⟨ret_int hv.out.symm, by (repeat (first | (with_reducible exact Below.refl _ _) | with_reducible assumption | (with_reducible refine below_alloc ?_ _) | (focus ((with_reducible refine below_set ?_ _ _ _ ?_); rotate_left; omega)) | (with_reducible refine Below.drew ?_)))⟩
  · have hv : Hid (icmp n m = -1) := icmp_lt (by have := hS.below; have := hT.nonneg; omega)
    clear hS hT
    go_enter Try.func15, Try.ntmps15
    go_wp2
    go_ret
    exact ⟨ret_int hv.out.symm, by (repeat (first | (with_reducible exact Below.refl _ _) | with_reducible assumption | (with_reducible refine below_alloc ?_ _) | (focus ((with_reducible refine below_set ?_ _ _ _ ?_); rotate_left; omega)) | (with_reducible refine Below.drew ?_)))⟩
  · have hv : Hid (icmp (dval es) (dval ds) = icmp n m) := by unfold Hid; rw [hS.val, hT.val]; simp only [sg_true]; rw [icmp_neg]
    clear hS hT
    go_enter Try.func15, Try.ntmps15
    go_wp2_with (go_at_call 47; refine (C2.out _ ((D2.out.alloc _).alloc _) ((D1.out.alloc _).alloc _)).mono ?_; rintro e w1 ⟨rfl, rfl⟩)
    go_ret
    exact ⟨ret_int hv.out, by (repeat (first | (with_reducible exact Below.refl _ _) | with_reducible assumption | (with_reducible refine below_alloc ?_ _) | (focus ((with_reducible refine below_set ?_ _ _ _ ?_); rotate_left; omega)) | (with_reducible refine Below.drew ?_)))⟩
end Go.Proofs.Ytinjgiigmlikpaa
