/-
  Contracts of package wide: negatives, comparisons, small numbers. My own text.
-/
import Derived.Test.YtinjgiigmlikpaaWideA
import Derived.Deep.RegionHeld3
namespace Go.Proofs.Ytinjgiigmlikpaa
open Go.RowKit
set_option linter.unusedVariables false

theorem ret_int {k : IntKind} {a b : Int} (h : a = b) : Ending.returned (.int k a) = .returned (.int k b) := by rw [h]
theorem ret_bool {a b : Bool} (h : a = b) : Ending.returned (.bool a) = .returned (.bool b) := by rw [h]
theorem isWmin : IsW (-9223372036854775808) 0 (-170141183460469231731687303715884105728) := by unfold IsW; omega
theorem neg_fits {n : Int} (H : fits n = true) : fits (0 - n) = !decide (n = -170141183460469231731687303715884105728) := by
  unfold fits at *
  rw [decide_eq_true_eq] at H
  rw [Bool.eq_iff_iff]
  simp only [decide_eq_true_eq, Bool.not_eq_true', decide_eq_false_iff_not]
  omega
set_option maxHeartbeats 400000 in
set_option maxRecDepth 100000 in
theorem Neg_any (h1 l1 n : Int) (w : World) (H1 : IsW h1 l1 n) :
    Calls Try.prog 45 #[.agg #[.int .i64 h1, .int .u64 l1]] w (RWF (-n) w) := by
  have Hn := Lib.hid (neg_fits H1.fits)
  have he := H1.eqW isWmin
  rw [← Int.zero_sub]
  by_cases e : n = -170141183460469231731687303715884105728
  · have hd : eqW h1 l1 (-9223372036854775808) 0 = true := by rw [he]; exact decide_eq_true e
    have Hf : Hid (fits (0 - n) = false) := by have := Hn.out; rw [decide_eq_true e] at this; exact this
    clear he Hn e
    go_enter Try.func45, Try.ntmps45
    go_wp2
    refine bodyPost_ret (v := .tuple #[.agg #[.int .i64 0, .int .u64 0], .bool false]) (by simp only [results, Try.results45]; go_simp) rfl (rwf_no Hf.out ?_)
    (repeat (first | (with_reducible exact Below.refl _ _) | with_reducible assumption | (with_reducible refine below_alloc ?_ _) | (focus ((with_reducible refine below_set ?_ _ _ _ ?_); rotate_left; omega)) | (with_reducible refine Below.drew ?_)))
  · have hd : eqW h1 l1 (-9223372036854775808) 0 = false := by rw [he]; exact decide_eq_false e
    have Hf : Hid (fits (0 - n) = true) := by have := Hn.out; rw [decide_eq_false e] at this; exact this
    clear he Hn e
    go_enter Try.func45, Try.ntmps45
    go_wp2_with (go_at_call 66; refine (minus_any _ _ _ _ _ _ _ isW0 H1).mono ?_; rintro e w1 ⟨Hs, Ls, rfl, hs, hb⟩; have c_hb_0_0 := Below.cell hb (p := ⟨w.heap.size, 0, none⟩) (by first | (simp; done) | (simp; omega)); have f_hb_0_0 := Below.frozen hb (p := ⟨w.heap.size, 0, none⟩) (by first | (simp; done) | (simp; omega)); have c_hb_0_1 := Below.cell hb (p := ⟨w.heap.size, 1, none⟩) (by first | (simp; done) | (simp; omega)); have f_hb_0_1 := Below.frozen hb (p := ⟨w.heap.size, 1, none⟩) (by first | (simp; done) | (simp; omega)); have c_hb_1_0 := Below.cell hb (p := ⟨w.heap.size + 1, 0, none⟩) (by first | (simp; done) | (simp; omega)); have f_hb_1_0 := Below.frozen hb (p := ⟨w.heap.size + 1, 0, none⟩) (by first | (simp; done) | (simp; omega)); have c_hb_1_1 := Below.cell hb (p := ⟨w.heap.size + 1, 1, none⟩) (by first | (simp; done) | (simp; omega)); have f_hb_1_1 := Below.frozen hb (p := ⟨w.heap.size + 1, 1, none⟩) (by first | (simp; done) | (simp; omega)); have hz_hb := Below.size hb; (try simp at hz_hb); have ne_hb_0 : ¬ w1.heap.size = w.heap.size := (by omega); have ne_hb_1 : ¬ w1.heap.size = w.heap.size + 1 := (by omega))
    rw [wr_fits Hf.out] at hs
    refine bodyPost_ret (v := .tuple #[.agg #[.int .i64 Hs, .int .u64 Ls], .bool true]) (by simp only [results, Try.results45]; go_simp) rfl (rwf_yes Hf.out hs ?_)
    (repeat (first | (with_reducible exact Below.refl _ _) | with_reducible assumption | (with_reducible refine below_alloc ?_ _) | (focus ((with_reducible refine below_set ?_ _ _ _ ?_); rotate_left; omega)) | (with_reducible refine Below.drew ?_) | (with_reducible refine below_call ?_ hb)))
set_option maxHeartbeats 400000 in
theorem Cmp_any (h1 l1 h2 l2 n m : Int) (w : World) (H1 : IsW h1 l1 n) (H2 : IsW h2 l2 m) :
    Calls Try.prog 29 #[.agg #[.int .i64 h1, .int .u64 l1], .agg #[.int .i64 h2, .int .u64 l2]] w (RV (.int .i64 (icmp n m)) w) := by
  go_enter Try.func29, Try.ntmps29
  go_wp2
  all_goals
    go_ret
    refine ⟨ret_int ?_, by (repeat (first | (with_reducible exact Below.refl _ _) | with_reducible assumption | (with_reducible refine below_alloc ?_ _) | (focus ((with_reducible refine below_set ?_ _ _ _ ?_); rotate_left; omega)) | (with_reducible refine Below.drew ?_)))⟩
    simp only [H1.eqW H2, decide_eq_true_eq, decide_eq_false_iff_not] at *
    obtain ⟨b1, b2, e1⟩ := H1
    obtain ⟨b3, b4, e2⟩ := H2
    unfold icmp
    repeat' split
    all_goals omega
set_option maxHeartbeats 400000 in
theorem Sign_any (h1 l1 n : Int) (w : World) (H1 : IsW h1 l1 n) :
    Calls Try.prog 24 #[.agg #[.int .i64 h1, .int .u64 l1]] w (RV (.int .i64 (icmp n 0)) w) := by
  go_enter Try.func24, Try.ntmps24
  go_wp2_with (go_at_call 29; refine (Cmp_any _ _ _ _ _ _ _ H1 isW0).mono ?_; rintro e w1 ⟨rfl, hb⟩)
  go_ret
  exact ⟨rfl, by (repeat (first | (with_reducible exact Below.refl _ _) | with_reducible assumption | (with_reducible refine below_alloc ?_ _) | (focus ((with_reducible refine below_set ?_ _ _ _ ?_); rotate_left; omega)) | (with_reducible refine Below.drew ?_) | (with_reducible refine below_call ?_ hb)))⟩
theorem of_val (n : Int) (h0 : -9223372036854775808 ≤ n) (h1 : n < 9223372036854775808) : IsW (n / 9223372036854775808) (IntKind.u64.wrap n) n := by
  unfold IsW
  rw [IntKind.wrap_u64]
  omega
set_option maxHeartbeats 400000 in
theorem Of_any (n : Int) (w : World) (h0 : -9223372036854775808 ≤ n) (h1 : n < 9223372036854775808) :
    Calls Try.prog 22 #[.int .i64 n] w (RW n w) := by
  have hv := of_val n h0 h1
  go_enter Try.func22, Try.ntmps22
  go_wp2
  refine bodyPost_ret (v := .agg #[.int .i64 (n / 9223372036854775808), .int .u64 (IntKind.u64.wrap n)]) (by simp only [results, Try.results22]; go_simp) rfl ⟨_, _, rfl, hv, ?_⟩
  (repeat (first | (with_reducible exact Below.refl _ _) | with_reducible assumption | (with_reducible refine below_alloc ?_ _) | (focus ((with_reducible refine below_set ?_ _ _ _ ?_); rotate_left; omega)) | (with_reducible refine Below.drew ?_)))
/-- Is n an int64? -/
def small (n : Int) : Bool := decide (-9223372036854775808 ≤ n ∧ n < 9223372036854775808)
theorem small_range (l : Int) : -9223372036854775808 ≤ wrap64 l ∧ wrap64 l < 9223372036854775808 := by unfold wrap64; omega
theorem small_yes {h l n a b : Int} (H : IsW h l n) (K : IsW a b (wrap64 l)) (e : eqW a b h l = true) : small n = true ∧ wrap64 l = n := by
  rw [K.eqW H, decide_eq_true_eq] at e
  have ee := e; clear e
  obtain ⟨b1, b2, rfl⟩ := H
  obtain ⟨b3, b4, e⟩ := K
  unfold wrap64 at *
  unfold small
  rw [decide_eq_true_eq]
  omega
theorem small_no {h l n a b : Int} (H : IsW h l n) (K : IsW a b (wrap64 l)) (e : eqW a b h l = false) : small n = false := by
  rw [K.eqW H, decide_eq_false_iff_not] at e
  have ee := e; clear e
  obtain ⟨b1, b2, rfl⟩ := H
  obtain ⟨b3, b4, e⟩ := K
  unfold wrap64 at *
  unfold small
  rw [decide_eq_false_iff_not]
  omega
def RSm (n : Int) (w : World) (e : Ending) (w' : World) : Prop := e = .returned (.tuple #[.int .i64 (if small n then n else 0), .bool (small n)]) ∧ Below w.heap.size w w'
theorem rsm_yes {n m : Int} {w w' : World} (h : small n = true) (e : m = n) (b : Below w.heap.size w w') : RSm n w (.returned (.tuple #[.int .i64 m, .bool true])) w' := ⟨by rw [h, e]; rfl, b⟩
theorem rsm_no {n : Int} {w w' : World} (h : small n = false) (b : Below w.heap.size w w') : RSm n w (.returned (.tuple #[.int .i64 0, .bool false])) w' := ⟨by rw [h]; rfl, b⟩
set_option maxHeartbeats 400000 in
theorem Small_any (h1 l1 n : Int) (w : World) (H1 : IsW h1 l1 n) :
    Calls Try.prog 76 #[.agg #[.int .i64 h1, .int .u64 l1]] w (RSm n w) := by
  go_enter Try.func76, Try.ntmps76
  go_wp2_with fail
  go_region_held3 (fun w' => w'.cell? ⟨w.heap.size, 0, none⟩ = some (.int .i64 h1) ∧ w'.cell? ⟨w.heap.size, 1, none⟩ = some (.int .u64 l1)) (go_keep)
    (first | (go_at_call 22; refine (Of_any _ _ (small_range l1).1 (small_range l1).2).mono ?_; rintro e w1 ⟨Hs, Ls, rfl, hs, hb⟩; have c_hb_0_0 := Below.cell hb (p := ⟨w.heap.size, 0, none⟩) (by first | (simp; done) | (simp; omega)); have f_hb_0_0 := Below.frozen hb (p := ⟨w.heap.size, 0, none⟩) (by first | (simp; done) | (simp; omega)); have c_hb_0_1 := Below.cell hb (p := ⟨w.heap.size, 1, none⟩) (by first | (simp; done) | (simp; omega)); have f_hb_0_1 := Below.frozen hb (p := ⟨w.heap.size, 1, none⟩) (by first | (simp; done) | (simp; omega)); have hz_hb := Below.size hb; (try simp at hz_hb); have ne_hb_0 : ¬ w1.heap.size = w.heap.size := (by omega)))
  go_wp2
  · go_ret2
    exact rsm_no (small_no H1 hs (by simpa using ‹(!eqW Hs Ls h1 l1) = true›)) (by (repeat (first | (with_reducible exact Below.refl _ _) | with_reducible assumption | (with_reducible refine below_alloc ?_ _) | (focus ((with_reducible refine below_set ?_ _ _ _ ?_); rotate_left; omega)) | (with_reducible refine Below.drew ?_) | (with_reducible refine below_call ?_ hb))))
  · go_ret2
    have hy := small_yes H1 hs (by simpa using ‹(!eqW Hs Ls h1 l1) = false›)
    exact rsm_yes hy.1 hy.2 (by (repeat (first | (with_reducible exact Below.refl _ _) | with_reducible assumption | (with_reducible refine below_alloc ?_ _) | (focus ((with_reducible refine below_set ?_ _ _ _ ?_); rotate_left; omega)) | (with_reducible refine Below.drew ?_) | (with_reducible refine below_call ?_ hb))))
end Go.Proofs.Ytinjgiigmlikpaa
