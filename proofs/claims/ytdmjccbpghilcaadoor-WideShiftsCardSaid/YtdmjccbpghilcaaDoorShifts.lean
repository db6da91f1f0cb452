/-
  cobweblaw01.WideShifts returns true, for every Int and every k. My own text.
-/
import Derived.Test.YtdmjccbpghilcaaDoorLawB
import Derived.Deep.DrawnRows
namespace Go.Proofs.YtdmjccbpghilcaaDoor
open Go.RowKit Go.Lib
set_option linter.unusedVariables false
set_option linter.unusedSimpArgs false
attribute [local go_sem ↓] Go.wp_at_zero Go.wp_at_succ

theorem ten350 (k : Nat) : (10000 : Int) ^ (10 + (k + 1)) = 10000 ^ 10 * 10000 ^ (k + 1) := Int.pow_add _ _ _
theorem IsN.lenP {w : World} {neg : Bool} {A : Option Addr} {l c : Nat} {n : Int} {k : Nat} (h : IsN w neg A l c (n * 2 ^ k)) (h1 : fits n = true) (hk : k ≤ 300) : l ≤ 400 := by
  refine Nat.le_trans (h.len (k := 10 + (k + 1)) ?_) (by omega)
  unfold fits at h1
  rw [decide_eq_true_eq] at h1
  have k1 : (n.natAbs : Int) < 10000000000000000000000000000000000000000 := by omega
  have k2 := pow2_abs k
  rw [Int.natAbs_mul, ten350, ten10, Int.natCast_mul]
  exact Int.mul_lt_mul' (Int.le_of_lt k1) k2 (by omega) (by omega)
set_option maxHeartbeats 4000000 in
set_option maxRecDepth 100000 in
theorem shifts_in (h1 l1 n : Int) (k : Nat) (w : World) (H1 : IsW h1 l1 n) (hk : k ≤ 300) (htab : Tab w) :
    Calls Tryd.prog 5 #[.agg #[.int .i64 h1, .int .u64 l1], .int .i64 k] w (RV (.bool true) w) := by
  have F1 := Lib.hid H1.fits
  have C0 : Hid (∀ w, Calls Tryd.prog 24 #[.agg #[.int .i64 h1, .int .u64 l1], .int .i64 k] w (RWF (n * 2 ^ k) w)) := fun w => by have := Shl_any h1 l1 n k w H1 (by omega) (by omega); rw [Int.toNat_natCast] at this; exact this
  have C1 := Lib.hid (fun w => rPower_any k w (by omega))
  have F2 := Lib.hid (fun w neg A l c (h : IsN w neg A l c (2 ^ k)) => Nat.le_trans (h.len (pow2_abs k)) (show k + 1 ≤ 400 by omega))
  have F3 := Lib.hid (fun w neg A l c (h : IsN w neg A l c (n * 2 ^ k)) => h.lenP F1.out hk)
  generalize (2 : Int) ^ k = E at *
  go_enter Tryd.func5, Tryd.ntmps5
  go_wp2_with fail
  refine (C0.out _).mono ?_
  rintro e w3 ⟨sa, sb, rfl, hs, hb⟩
  have A0 := ((HeldW.start htab).new (t := 24) (u := .int .i64 h1) (v := .int .u64 l1) rfl).call hb
  clear htab
  have B0 := (A0.new (t := 24) (u := .int .i64 sa) (v := .int .u64 sb) rfl).drew
  clear hb A0
  go_wp2_with fail
  go_region_held3 (fun w' => (w'.cell? ⟨w3.heap.size, 0, none⟩ = some (.int .i64 sa) ∧ w'.cell? ⟨w3.heap.size, 1, none⟩ = some (.int .u64 sb)) ∧ (w'.cell? ⟨w.heap.size, 0, none⟩ = some (.int .i64 h1) ∧ w'.cell? ⟨w.heap.size, 1, none⟩ = some (.int .u64 l1))) (first | with_reducible exact ⟨C5'.b1, C5'.tl.b1⟩ | with_reducible exact ⟨C4'.b1, C4'.tl.b1⟩ | with_reducible exact ⟨C3'.b1, C3'.tl.b1⟩ | with_reducible exact ⟨C2'.b1, C2'.tl.b1⟩ | with_reducible exact ⟨C1'.b1, C1'.tl.b1⟩ | with_reducible exact ⟨B0.b1, B0.tl.b1⟩)
    (first
      | (go_at_call 16; ((with_reducible refine (alive_any _ B0.tab).mono ?_); rintro e v1 ⟨rfl, hb⟩; have C1' := B0.call hb; clear hb))
      | (go_at_call 12; ((with_reducible refine (num_any _ _ _ _ H1).mono ?_); rintro e v2 ⟨x2, A2, y2, c2, rfl, k2, hb⟩; have C2' := C1'.call hb; clear hb))
      | (go_at_call 25; ((with_reducible refine (C1.out _).mono ?_); rintro e v3 ⟨x3, A3, y3, c3, rfl, k3, hb⟩; have C3' := C2'.call hb; replace k2 := k2.call hb; clear hb))
      | (go_at_call 21; ((with_reducible refine (rMul_any _ _ _ _ _ _ _ _ _ _ _ k2 k3 (lenF k2 F1.out (by omega)) (F2.out _ _ _ _ _ k3)).mono ?_); rintro e v4 ⟨x4, A4, y4, c4, rfl, k4, hb⟩; have C4' := C3'.call hb; clear hb))
      | (go_at_call 17; ((with_reducible refine (same_any _ _ _ _ _ _ _ _ hs k4 (F3.out _ _ _ _ _ k4)).mono ?_); rintro e v5 ⟨rfl, hb⟩; have C5' := C4'.call hb; clear hb)))
  all_goals
    go_wp2_with fail
    go_ret
    exact ⟨rfl, C5'.below⟩
set_option maxHeartbeats 4000000 in
set_option maxRecDepth 100000 in
theorem shifts_below (h1 l1 n k : Int) (w : World) (H1 : IsW h1 l1 n) (hk : k < 0) (htab : Tab w) :
    Calls Tryd.prog 5 #[.agg #[.int .i64 h1, .int .u64 l1], .int .i64 k] w (RV (.bool true) w) := by
  have C0 := Lib.hid (fun w => Shl_neg h1 l1 n k w H1 hk)
  have e0 : eqW 0 0 0 0 = true := rfl
  go_enter Tryd.func5, Tryd.ntmps5
  go_wp2_with fail
  refine (C0.out _).mono ?_
  rintro e w3 ⟨rfl, hb⟩
  have A0 := ((HeldW.start htab).new (t := 24) (u := .int .i64 h1) (v := .int .u64 l1) rfl).call hb
  clear htab hb
  have B0 := (A0.new (t := 24) (u := .int .i64 0) (v := .int .u64 0) rfl)
  obtain ⟨ce00, ce01⟩ := (A0).b1; have cel0 := (A0).x1.lt; have cen0 := Nat.ne_of_lt cel0; have ceg0 := Nat.ne_of_gt cel0
  clear A0
  go_wp2_with fail
  refine (alive_any _ B0.tab).mono ?_
  rintro e v1 ⟨rfl, hb⟩
  replace B0 := B0.call hb
  clear hb
  clear ce00 ce01 cen0 ceg0 cel0
  obtain ⟨ce00, ce01⟩ := (B0).b1; have cel0 := (B0).x1.lt; have cen0 := Nat.ne_of_lt cel0; have ceg0 := Nat.ne_of_gt cel0; obtain ⟨ce10, ce11⟩ := (B0.tl).b1; have cel1 := (B0.tl).x1.lt; have cen1 := Nat.ne_of_lt cel1; have ceg1 := Nat.ne_of_gt cel1
  go_wp2_with fail
  go_ret
  exact ⟨rfl, B0.below⟩
set_option maxHeartbeats 4000000 in
set_option maxRecDepth 100000 in
theorem shifts_above (h1 l1 n k : Int) (w : World) (H1 : IsW h1 l1 n) (hk : 300 < k) (hk2 : k < 9223372036854775808) (htab : Tab w) :
    Calls Tryd.prog 5 #[.agg #[.int .i64 h1, .int .u64 l1], .int .i64 k] w (RV (.bool true) w) := by
  have C0 := Lib.hid (fun w => Shl_any h1 l1 n k w H1 (by omega) hk2)
  have hk0 : decide (k < 0) = false := decide_eq_false (by omega)
  have e0 : eqW 0 0 0 0 = true := rfl
  have e1 : eqW h1 l1 0 0 = decide (n = 0) := H1.eqW isW0
  have hf : fits (n * 2 ^ k.toNat) = decide (n = 0) := by
    by_cases e : n = 0
    · rw [e, Int.zero_mul]; rfl
    · rw [decide_eq_false e]
      refine fits_no ?_
      have h1 : (2 : Int) ^ 127 ≤ 2 ^ k.toNat := by
        obtain ⟨d, hd⟩ := Nat.exists_eq_add_of_le (show 127 ≤ k.toNat by omega)
        rw [hd, Int.pow_add]
        have := (pow2_bd d).1
        have h2 : (2 : Int) ^ 127 * 1 ≤ 2 ^ 127 * 2 ^ d := Int.mul_le_mul_of_nonneg_left (by omega) (by decide)
        omega
      rw [pow127] at h1
      rcases Int.lt_or_lt_of_ne e with q | q
      · left
        have h3 : n * 2 ^ k.toNat ≤ -1 * 2 ^ k.toNat := Int.mul_le_mul_of_nonneg_right (by omega) (by omega)
        have hstr : 170141183460469231731687303715884105728 < (2 : Int) ^ k.toNat := by
          obtain ⟨d, hd⟩ := Nat.exists_eq_add_of_le (show 128 ≤ k.toNat by omega)
          rw [hd, Int.pow_add]
          have := (pow2_bd d).1
          have h2 : (2 : Int) ^ 128 * 1 ≤ 2 ^ 128 * 2 ^ d := Int.mul_le_mul_of_nonneg_left (by omega) (by decide)
          have h4 : (2 : Int) ^ 128 = 340282366920938463463374607431768211456 := by decide
          omega
        omega
      · right
        have h3 : 1 * 2 ^ k.toNat ≤ n * 2 ^ k.toNat := Int.mul_le_mul_of_nonneg_right (by omega) (by omega)
        omega
  generalize n * 2 ^ k.toNat = Z at *
  have HF := Lib.hid hf
  clear hf
  by_cases e : n = 0
  · rw [decide_eq_true e] at e1 HF
    replace C0 : Hid (∀ w, Calls Tryd.prog 24 #[.agg #[.int .i64 h1, .int .u64 l1], .int .i64 k] w (RV (.tuple #[.agg #[.int .i64 0, .int .u64 0], .bool true]) w)) := fun w => by
      obtain ⟨rfl, rfl⟩ := (H1.conv e).inj isW0
      exact Shl_zero k w (by omega)
    clear e HF
    go_enter Tryd.func5, Tryd.ntmps5
    go_wp2_with fail
    refine (C0.out _).mono ?_
    rintro e w3 ⟨rfl, hb⟩
    have A0 := ((HeldW.start htab).new (t := 24) (u := .int .i64 h1) (v := .int .u64 l1) rfl).call hb
    clear htab hb
    have B0 := (A0.new (t := 24) (u := .int .i64 0) (v := .int .u64 0) rfl)
    obtain ⟨ce00, ce01⟩ := (A0).b1; have cel0 := (A0).x1.lt; have cen0 := Nat.ne_of_lt cel0; have ceg0 := Nat.ne_of_gt cel0
    clear A0
    go_wp2_with fail
    refine (alive_any _ B0.tab).mono ?_
    rintro e v1 ⟨rfl, hb⟩
    replace B0 := B0.call hb
    clear hb
    clear ce00 ce01 cen0 ceg0 cel0
    obtain ⟨ce00, ce01⟩ := (B0).b1; have cel0 := (B0).x1.lt; have cen0 := Nat.ne_of_lt cel0; have ceg0 := Nat.ne_of_gt cel0; obtain ⟨ce10, ce11⟩ := (B0.tl).b1; have cel1 := (B0.tl).x1.lt; have cen1 := Nat.ne_of_lt cel1; have ceg1 := Nat.ne_of_gt cel1
    go_wp2_with fail
    go_ret
    exact ⟨rfl, B0.below⟩
  · rw [decide_eq_false e] at e1 HF
    replace C0 : Hid (∀ w, Calls Tryd.prog 24 #[.agg #[.int .i64 h1, .int .u64 l1], .int .i64 k] w (RV (.tuple #[.agg #[.int .i64 0, .int .u64 0], .bool false]) w)) := fun w => (C0.out w).mono fun e w' ⟨H, L, he, hi, hb⟩ => by
      rw [HF.out] at he hi
      obtain ⟨rfl, rfl⟩ := IsW.inj (n := 0) hi isW0
      exact ⟨he, hb⟩
    clear e HF
    go_enter Tryd.func5, Tryd.ntmps5
    go_wp2_with fail
    refine (C0.out _).mono ?_
    rintro e w3 ⟨rfl, hb⟩
    have A0 := ((HeldW.start htab).new (t := 24) (u := .int .i64 h1) (v := .int .u64 l1) rfl).call hb
    clear htab hb
    have B0 := (A0.new (t := 24) (u := .int .i64 0) (v := .int .u64 0) rfl)
    obtain ⟨ce00, ce01⟩ := (A0).b1; have cel0 := (A0).x1.lt; have cen0 := Nat.ne_of_lt cel0; have ceg0 := Nat.ne_of_gt cel0
    clear A0
    go_wp2_with fail
    refine (alive_any _ B0.tab).mono ?_
    rintro e v1 ⟨rfl, hb⟩
    replace B0 := B0.call hb
    clear hb
    clear ce00 ce01 cen0 ceg0 cel0
    obtain ⟨ce00, ce01⟩ := (B0).b1; have cel0 := (B0).x1.lt; have cen0 := Nat.ne_of_lt cel0; have ceg0 := Nat.ne_of_gt cel0; obtain ⟨ce10, ce11⟩ := (B0.tl).b1; have cel1 := (B0.tl).x1.lt; have cen1 := Nat.ne_of_lt cel1; have ceg1 := Nat.ne_of_gt cel1
    go_wp2_with fail
    go_ret
    exact ⟨rfl, B0.below⟩
theorem shifts_walk (h1 l1 n k : Int) (w : World) (H1 : IsW h1 l1 n) (b0 : -9223372036854775808 ≤ k) (b1 : k < 9223372036854775808) (htab : Tab w) :
    Calls Tryd.prog 5 #[.agg #[.int .i64 h1, .int .u64 l1], .int .i64 k] w (RV (.bool true) w) := by
  rcases Int.lt_or_le k 0 with q | q
  · exact shifts_below h1 l1 n k w H1 q htab
  · rcases Int.lt_or_le 300 k with r | r
    · exact shifts_above h1 l1 n k w H1 r b1 htab
    · obtain ⟨j, rfl⟩ := Int.eq_ofNat_of_zero_le q
      exact shifts_in h1 l1 n j w H1 (by omega) htab
end Go.Proofs.YtdmjccbpghilcaaDoor
