/-
  Contracts of the reference package: Of. My own text.
-/
import Derived.Test.YtinjgiigmlikpaaRefJ
namespace Go.Proofs.Ytinjgiigmlikpaa
open Go.RowKit
set_option linter.unusedVariables false

theorem of_st (w : World) (x : Bool) (n : Nat) : OfR w ((w.alloc (.cells #[.bool false, .slice none 0 0] 31)).alloc (.cells #[.bool x, .slice none 0 0] 31)) x n (.slice none 0 0) 0 [] n :=
  ⟨(Box.new rfl).alloc _, Box.new (by simp), World.ownsRow_nil _ _ _ _, rfl, IsD.nil, rfl, fun _ => nm_nil, by (repeat (first | (with_reducible exact Below.refl _ _) | with_reducible assumption | (with_reducible refine below_alloc ?_ _) | (focus ((with_reducible refine below_set ?_ _ _ _ ?_); rotate_left; omega)) | (with_reducible refine Below.drew ?_)))⟩
set_option maxHeartbeats 1000000 in
set_option maxRecDepth 100000 in
theorem of_pos (n : Nat) (w : World) (h : n < 9223372036854775808) : Calls Try.prog 16 #[.int .i64 n] w (RNF n w) := by
  obtain ⟨i0, hi0, hz0, hz1, hz2⟩ := info_parts info_int
  have I0 := Lib.hid hi0
  have I1 := Lib.hid hz0
  have I2 := Lib.hid hz1
  have I3 := Lib.hid hz2
  clear hi0 hz0 hz1 hz2
  have ST := Lib.hid (of_st w false n)
  have hd : decide ((n : Int) < 0) = false := decide_eq_false (by omega)
  go_enter Try.func16, Try.ntmps16
  go_wp2
  go_loopw [0] (fun i wr => ∃ (z k : Nat) (v : Value) (os : List Int), i = .int .i64 z ∧ z ≤ n ∧ OfR w wr false n v k os z) (fun i _ => (intOf i).toNat)
  case atStart => exact ⟨n, 0, _, [], rfl, Nat.le_refl _, ST.out⟩
  case round =>
    obtain ⟨z, k, v, os, rfl, hzn, hr⟩ := hrel
    obtain ⟨⟨c1, c2⟩, f1, f2⟩ := id hr.b1
    obtain ⟨⟨c3, c4⟩, f3, f4⟩ := id hr.b0
    have HO := Lib.hid hr.own
    have HR := Lib.hid hr
    have hsz := hr.b1.lt
    by_cases hz : z = 0
    · obtain ⟨A, c, rfl, hN, hF⟩ := of_end hr hz (n := n) rfl (fun h => by cases h)
      have HB := Lib.hid hr.below
      have HB0 := Lib.hid hr.b0
      subst hz
      clear hr
      go_wp2
      refine bodyPost_ret (v := .agg #[.bool false, .slice A k c]) (by simp only [results, Try.results16]; go_simp) rfl ⟨_, _, _, _, rfl, ?_, ?_, fun a e => Nat.le_trans (by omega) (hF a e)⟩
      · exact hN.put (HasBB.of HB0.out)
      · exact below_set (below_set HB.out _ _ _ (by omega)) _ _ _ (by omega)
    · have hz0 : 0 < z := by omega
      have hk5 := hr.short (by omega) hz0
      have hne : ((z : Int) != 0) = true := by simpa using hz
      have N := Lib.hid (fun (w1 : World) (v' : Value) (o : Obj) hown hg => of_round (w1 := w1) (v' := v') (o := o) HR.out hz0 hown hg)
      clear hr hz
      go_wp2_with (at_builtin; refine wpList_append_own _ rfl _ _ 29 rfl (w.heap.size + 2) 3 i0 (.int .i64 0) 1 8 Try.underlying29 I0.out I1.out I2.out I3.out rfl (by decide) _ _ _ rfl (HO.out.alloc _) ⟨wr.heap.size, 0, none⟩ 1 1 [.int .i64 ((z % 10000 : Nat) : Int)] rfl rfl (cell_one_new _ _ _) (by simp [Value.oneCell']) (by simp only [maxLen]; omega) (by omega) (by simp; omega) ?_; intro v' w1 hown' hgrow hiff; clear hiff; have R := N.out w1 v' _ hown' hgrow; clear hown' hgrow c1 c2 f1 f2 c3 c4 f3 f4; obtain ⟨⟨⟨c1, c2⟩, f1, f2⟩, R⟩ := R; obtain ⟨A', c', rfl, hDD⟩ := Dg.own R.own; clear hDD; replace R := Lib.hid R)
      refine ⟨⟨z / 10000, k + 1, _, _, by go_num, by omega, R.out⟩, ?_⟩
      simp [intOf]; omega
theorem neg_tmod (y : Nat) : (-(y : Int)).tmod 10000 = -((y : Int) % 10000) := by rw [Int.neg_tmod, Int.tmod_eq_emod_of_nonneg (by omega)]
theorem neg_tdiv (y : Nat) : (-(y : Int)).tdiv 10000 = -((y : Int) / 10000) := by rw [Int.neg_tdiv, Int.tdiv_eq_ediv_of_nonneg (by omega)]
set_option maxHeartbeats 1000000 in
set_option maxRecDepth 100000 in
theorem of_neg (n : Nat) (w : World) (h : n ≤ 9223372036854775808) (h0 : 0 < n) : Calls Try.prog 16 #[.int .i64 (-(n : Int))] w (RNF (-(n : Int)) w) := by
  obtain ⟨i0, hi0, hz0, hz1, hz2⟩ := info_parts info_int
  have I0 := Lib.hid hi0
  have I1 := Lib.hid hz0
  have I2 := Lib.hid hz1
  have I3 := Lib.hid hz2
  clear hi0 hz0 hz1 hz2
  have ST := Lib.hid (of_st w true n)
  have hd : decide (-(n : Int) < 0) = true := decide_eq_true (by omega)
  go_enter Try.func16, Try.ntmps16
  go_wp2
  go_loopw [0] (fun i wr => ∃ (z k : Nat) (v : Value) (os : List Int), i = .int .i64 (-(z : Int)) ∧ z ≤ n ∧ OfR w wr true n v k os z) (fun i _ => (-intOf i).toNat)
  case atStart => exact ⟨n, 0, _, [], rfl, Nat.le_refl _, ST.out⟩
  case round =>
    obtain ⟨z, k, v, os, rfl, hzn, hr⟩ := hrel
    obtain ⟨⟨c1, c2⟩, f1, f2⟩ := id hr.b1
    obtain ⟨⟨c3, c4⟩, f3, f4⟩ := id hr.b0
    have HO := Lib.hid hr.own
    have HR := Lib.hid hr
    have hsz := hr.b1.lt
    by_cases hz : z = 0
    · obtain ⟨A, c, rfl, hN, hF⟩ := of_end hr hz (n := -(n : Int)) rfl (fun _ => h0)
      have HB := Lib.hid hr.below
      have HB0 := Lib.hid hr.b0
      subst hz
      clear hr
      rw [show (-(((0 : Nat)) : Int)) = 0 from rfl]
      go_wp2
      refine bodyPost_ret (v := .agg #[.bool true, .slice A k c]) (by simp only [results, Try.results16]; go_simp) rfl ⟨_, _, _, _, rfl, ?_, ?_, fun a e => Nat.le_trans (by omega) (hF a e)⟩
      · exact hN.put (HasBB.of HB0.out)
      · exact below_set (below_set HB.out _ _ _ (by omega)) _ _ _ (by omega)
    · have hz0 : 0 < z := by omega
      have hk5 := hr.short (by omega) hz0
      have hne : (-(z : Int) != 0) = true := by simpa using hz
      have N := Lib.hid (fun (w1 : World) (v' : Value) (o : Obj) hown hg => of_round (w1 := w1) (v' := v') (o := o) HR.out hz0 hown hg)
      have t1 := neg_tmod z
      have t2 := neg_tdiv z
      clear hr hz
      by_cases hm : (z : Int) % 10000 = 0
      · have hmn : z % 10000 = 0 := by omega
        replace N : Hid (∀ (w1 : World) (v' : Value) (o : Obj), w1.ownsRow (w.heap.size + 2) 3 1 v' (k + 1) (os.map (Value.int .i64) ++ [.int .i64 0]) → (wr.alloc o).grownBy w1 v.ownBlock → Box w1 (w.heap.size + 1) (.bool true) v ∧ OfR w (w1.setCell ⟨w.heap.size + 1, 1, none⟩ v') true n v' (k + 1) (os ++ [0]) (z / 10000)) := by
          intro w1 v' o h1 h2
          have := N.out w1 v' o
          rw [hmn] at this
          exact this h1 h2
        rw [hm] at t1
        rw [show (-(0 : Int)) = 0 from rfl] at t1
        clear hm hmn
        go_wp2_with (at_builtin; refine wpList_append_own _ rfl _ _ 29 rfl (w.heap.size + 2) 3 i0 (.int .i64 0) 1 8 Try.underlying29 I0.out I1.out I2.out I3.out rfl (by decide) _ _ _ rfl (HO.out.alloc _) ⟨wr.heap.size, 0, none⟩ 1 1 [.int .i64 0] rfl rfl (cell_one_new _ _ _) (by simp [Value.oneCell']) (by simp only [maxLen]; omega) (by omega) (by simp; omega) ?_; intro v' w1 hown' hgrow hiff; clear hiff; have R := N.out w1 v' _ hown' hgrow; clear hown' hgrow c1 c2 f1 f2 c3 c4 f3 f4; obtain ⟨⟨⟨c1, c2⟩, f1, f2⟩, R⟩ := R; obtain ⟨A', c', rfl, hDD⟩ := Dg.own R.own; clear hDD; replace R := Lib.hid R)
        refine ⟨⟨z / 10000, k + 1, _, _, by go_num, by omega, R.out⟩, ?_⟩
        simp [intOf]; omega
      · have hm' : (0 : Int) < (z : Int) % 10000 := by omega
        clear hm
        go_wp2_with (at_builtin; refine wpList_append_own _ rfl _ _ 29 rfl (w.heap.size + 2) 3 i0 (.int .i64 0) 1 8 Try.underlying29 I0.out I1.out I2.out I3.out rfl (by decide) _ _ _ rfl (HO.out.alloc _) ⟨wr.heap.size, 0, none⟩ 1 1 [.int .i64 ((z % 10000 : Nat) : Int)] rfl rfl (cell_one_new _ _ _) (by simp [Value.oneCell']) (by simp only [maxLen]; omega) (by omega) (by simp; omega) ?_; intro v' w1 hown' hgrow hiff; clear hiff; have R := N.out w1 v' _ hown' hgrow; clear hown' hgrow c1 c2 f1 f2 c3 c4 f3 f4; obtain ⟨⟨⟨c1, c2⟩, f1, f2⟩, R⟩ := R; obtain ⟨A', c', rfl, hDD⟩ := Dg.own R.own; clear hDD; replace R := Lib.hid R)
        refine ⟨⟨z / 10000, k + 1, _, _, by go_num, by omega, R.out⟩, ?_⟩
        simp [intOf]; omega
theorem rOf_new (n : Int) (w : World) (h0 : -9223372036854775808 ≤ n) (h1 : n < 9223372036854775808) : Calls Try.prog 16 #[.int .i64 n] w (RNF n w) := by
  rcases Int.lt_or_le n 0 with q | q
  · obtain ⟨m, rfl⟩ : ∃ m : Nat, n = -(m : Int) := ⟨n.natAbs, by omega⟩
    exact of_neg m w (by omega) (by omega)
  · obtain ⟨m, rfl⟩ := Int.eq_ofNat_of_zero_le q
    exact of_pos m w (by omega)
theorem rOf_any (n : Int) (w : World) (h0 : -9223372036854775808 ≤ n) (h1 : n < 9223372036854775808) : Calls Try.prog 16 #[.int .i64 n] w (RN n w) := (rOf_new n w h0 h1).mono fun _ _ h => h.rn
end Go.Proofs.Ytinjgiigmlikpaa
