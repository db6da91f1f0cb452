/-
  cobweblaw01.WideMuls returns true, for every two Ints and every two int64. My own text.
-/
import Derived.Test.YtdmjccbpghilcaaDoorLawB
import Derived.Deep.DrawnRows
namespace Go.Proofs.YtdmjccbpghilcaaDoor
open Go.RowKit Go.Lib
set_option linter.unusedVariables false
attribute [local go_sem ↓] Go.wp_at_zero Go.wp_at_succ

theorem ten20 : (10000 : Int) ^ 20 = 10000 ^ 10 * 10000 ^ 10 := by decide
theorem IsN.lenM {w : World} {neg : Bool} {A : Option Addr} {l c : Nat} {n m : Int} (h : IsN w neg A l c (n * m)) (h1 : fits n = true) (h2 : fits m = true) : l ≤ 20 := by
  refine h.len ?_
  unfold fits at h1 h2
  rw [decide_eq_true_eq] at h1 h2
  rw [Int.natAbs_mul, ten20, ten10]
  have k1 : (n.natAbs : Int) < 10000000000000000000000000000000000000000 := by omega
  have k2 : (m.natAbs : Int) < 10000000000000000000000000000000000000000 := by omega
  have k3 : (0 : Int) ≤ n.natAbs := by omega
  have k4 : (0 : Int) ≤ m.natAbs := by omega
  rw [Int.natCast_mul]
  exact Int.mul_lt_mul' (Int.le_of_lt k1) k2 k4 (by omega)
theorem fits64 {n : Int} (h0 : -9223372036854775808 ≤ n) (h1 : n < 9223372036854775808) : fits n = true := by unfold fits; rw [decide_eq_true_eq]; omega
set_option maxHeartbeats 4000000 in
set_option maxRecDepth 100000 in
theorem muls_walk (h1 l1 n h2 l2 m a b : Int) (w : World) (H1 : IsW h1 l1 n) (H2 : IsW h2 l2 m) (a0 : -9223372036854775808 ≤ a) (a1 : a < 9223372036854775808) (b0 : -9223372036854775808 ≤ b) (b1 : b < 9223372036854775808) (htab : Tab w) :
    Calls Tryd.prog 4 #[.agg #[.int .i64 h1, .int .u64 l1], .agg #[.int .i64 h2, .int .u64 l2], .agg #[.int .i64 a, .int .i64 b]] w (RV (.bool true) w) := by
  have F1 := Lib.hid H1.fits
  have F2 := Lib.hid H2.fits
  have F3 := Lib.hid (fits64 a0 a1)
  have F4 := Lib.hid (fits64 b0 b1)
  have oA := Lib.hid (fun w => rOf_any a w a0 a1)
  have oB := Lib.hid (fun w => rOf_any b w b0 b1)
  have tM := Lib.hid (fun w => Times_any a b w a0 (by omega) b0 (by omega))
  clear a0 a1 b0 b1
  go_enter Tryd.func4, Tryd.ntmps4
  go_wp2_with fail
  refine (Mul_any _ _ _ _ _ _ _ H1 H2).mono ?_
  rintro e w3 ⟨sa, sb, rfl, hs, hb⟩
  have A0 := ((((HeldW.start htab).new (t := 24) (u := .int .i64 h1) (v := .int .u64 l1) rfl).new (t := 24) (g := w.heap.size + 1) (u := .int .i64 h2) (v := .int .u64 l2) (by simp)).new (t := 37) (g := w.heap.size + 1 + 1) (u := .int .i64 a) (v := .int .i64 b) (by simp)).call hb
  clear htab
  have B0 := (A0.new (t := 24) (u := .int .i64 sa) (v := .int .u64 sb) rfl).drew
  clear hb A0
  go_wp2_with fail
  go_region_held3 (fun w' => (w'.cell? ⟨w3.heap.size, 0, none⟩ = some (.int .i64 sa) ∧ w'.cell? ⟨w3.heap.size, 1, none⟩ = some (.int .u64 sb)) ∧ (w'.cell? ⟨w.heap.size + 1 + 1, 0, none⟩ = some (.int .i64 a) ∧ w'.cell? ⟨w.heap.size + 1 + 1, 1, none⟩ = some (.int .i64 b)) ∧ (w'.cell? ⟨w.heap.size + 1, 0, none⟩ = some (.int .i64 h2) ∧ w'.cell? ⟨w.heap.size + 1, 1, none⟩ = some (.int .u64 l2)) ∧ (w'.cell? ⟨w.heap.size, 0, none⟩ = some (.int .i64 h1) ∧ w'.cell? ⟨w.heap.size, 1, none⟩ = some (.int .u64 l1))) (first | with_reducible exact ⟨C10.b1, C10.tl.b1, C10.tl.tl.b1, C10.tl.tl.tl.b1⟩ | with_reducible exact ⟨C9.b1, C9.tl.b1, C9.tl.tl.b1, C9.tl.tl.tl.b1⟩ | with_reducible exact ⟨C8.b1, C8.tl.b1, C8.tl.tl.b1, C8.tl.tl.tl.b1⟩ | with_reducible exact ⟨C7.b1, C7.tl.b1, C7.tl.tl.b1, C7.tl.tl.tl.b1⟩ | with_reducible exact ⟨C6.b1, C6.tl.b1, C6.tl.tl.b1, C6.tl.tl.tl.b1⟩ | with_reducible exact ⟨C5.b1, C5.tl.b1, C5.tl.tl.b1, C5.tl.tl.tl.b1⟩ | with_reducible exact ⟨C4.b1, C4.tl.b1, C4.tl.tl.b1, C4.tl.tl.tl.b1⟩ | with_reducible exact ⟨C3.b1, C3.tl.b1, C3.tl.tl.b1, C3.tl.tl.tl.b1⟩ | with_reducible exact ⟨C2.b1, C2.tl.b1, C2.tl.tl.b1, C2.tl.tl.tl.b1⟩ | with_reducible exact ⟨C1.b1, C1.tl.b1, C1.tl.tl.b1, C1.tl.tl.tl.b1⟩ | with_reducible exact ⟨B0.b1, B0.tl.b1, B0.tl.tl.b1, B0.tl.tl.tl.b1⟩)
    (first
      | (go_at_call 16; ((with_reducible refine (alive_any _ B0.tab).mono ?_); rintro e v1 ⟨rfl, hb⟩; have C1 := B0.call hb; clear hb))
      | (go_at_call 12; ((with_reducible refine (num_any _ _ _ _ H1).mono ?_); rintro e v2 ⟨x2, A2, y2, c2, rfl, k2, hb⟩; have C2 := C1.call hb; clear hb))
      | (go_at_call 12; ((with_reducible refine (num_any _ _ _ _ H2).mono ?_); rintro e v3 ⟨x3, A3, y3, c3, rfl, k3, hb⟩; have C3 := C2.call hb; replace k2 := k2.call hb; clear hb))
      | (go_at_call 21; ((with_reducible refine (rMul_any _ _ _ _ _ _ _ _ _ _ _ k2 k3 (lenF k2 F1.out (by omega)) (lenF k3 F2.out (by omega))).mono ?_); rintro e v4 ⟨x4, A4, y4, c4, rfl, k4, hb⟩; have C4 := C3.call hb; clear hb))
      | (go_at_call 17; ((with_reducible refine (same_any _ _ _ _ _ _ _ _ hs k4 (Nat.le_trans (k4.lenM F1.out F2.out) (by omega))).mono ?_); rintro e v5 ⟨rfl, hb⟩; have C5 := C4.call hb; clear hb))
      | (go_at_call 22; ((with_reducible refine (tM.out _).mono ?_); rintro e v6 ⟨pa, pb, rfl, hp, hb⟩; have C6 := C5.call hb; clear hb))
      | (go_at_call 23; ((with_reducible refine (oA.out _).mono ?_); have _t := C6; rintro e v7 ⟨x7, A7, y7, c7, rfl, k7, hb⟩; have C7 := C6.call hb; clear hb C6))
      | (go_at_call 23; ((with_reducible refine (oB.out _).mono ?_); rintro e v8 ⟨x8, A8, y8, c8, rfl, k8, hb⟩; have C8 := C7.call hb; replace k7 := k7.call hb; clear hb))
      | (go_at_call 21; ((with_reducible refine (rMul_any _ _ _ _ _ _ _ _ _ _ _ k7 k8 (lenF k7 F3.out (by omega)) (lenF k8 F4.out (by omega))).mono ?_); rintro e v9 ⟨x9, A9, y9, c9, rfl, k9, hb⟩; have C9 := C8.call hb; clear hb))
      | (go_at_call 17; ((with_reducible refine (same_yes _ _ _ _ _ _ _ _ hp k9 (Nat.le_trans (k9.lenM F3.out F4.out) (by omega))).mono ?_); rintro e v10 ⟨rfl, hb⟩; have C10 := C9.call hb; clear hb)))
  all_goals
    go_wp2_with fail
    go_ret
    exact ⟨rfl, C10.below⟩
end Go.Proofs.YtdmjccbpghilcaaDoor
