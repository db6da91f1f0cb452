/-
  Contracts of package wide: sizes, that is, numbers of 128 bits without a sign. My own text.
-/
import Derived.Test.YtinjgiigmlikpaaWideB
import Derived.Test.YtinjgiigmlikpaaShelf
namespace Go.Proofs.Ytinjgiigmlikpaa
open Go.RowKit
set_option linter.unusedVariables false

theorem IsS.conv {H L n m : Int} (h : IsS H L n) (e : n = m) : IsS H L m := e ▸ h
theorem size_pos {h l n : Int} (H : IsW h l n) (k : 0 ≤ h) : IsS (IntKind.u64.wrap h) l n.natAbs := by
  obtain ⟨b1, b2, rfl⟩ := H
  unfold IsS
  rw [IntKind.wrap_u64]
  omega
theorem size_neg {h l n a b : Int} (H : IsW h l n) (K : IsW a b (wr (0 - n))) (k : h < 0) : IsS (IntKind.u64.wrap a) b n.natAbs := by
  obtain ⟨b1, b2, rfl⟩ := H
  obtain ⟨b3, b4, e⟩ := K
  unfold wr at e
  unfold IsS
  rw [IntKind.wrap_u64]
  omega
set_option maxHeartbeats 400000 in
theorem sizeOf_any (h1 l1 n : Int) (w : World) (H1 : IsW h1 l1 n) :
    Calls Try.prog 55 #[.agg #[.int .i64 h1, .int .u64 l1]] w (RS n.natAbs w) := by
  go_enter Try.func55, Try.ntmps55
  go_wp2_with (go_at_call 66; refine (minus_any _ _ _ _ _ _ _ isW0 H1).mono ?_; rintro e w1 ⟨Hs, Ls, rfl, hs, hb⟩; have c_hb_0_0 := Below.cell hb (p := ⟨w.heap.size, 0, none⟩) (by first | (simp; done) | (simp; omega)); have f_hb_0_0 := Below.frozen hb (p := ⟨w.heap.size, 0, none⟩) (by first | (simp; done) | (simp; omega)); have c_hb_0_1 := Below.cell hb (p := ⟨w.heap.size, 1, none⟩) (by first | (simp; done) | (simp; omega)); have f_hb_0_1 := Below.frozen hb (p := ⟨w.heap.size, 1, none⟩) (by first | (simp; done) | (simp; omega)); have c_hb_1_0 := Below.cell hb (p := ⟨w.heap.size + 1, 0, none⟩) (by first | (simp; done) | (simp; omega)); have f_hb_1_0 := Below.frozen hb (p := ⟨w.heap.size + 1, 0, none⟩) (by first | (simp; done) | (simp; omega)); have c_hb_1_1 := Below.cell hb (p := ⟨w.heap.size + 1, 1, none⟩) (by first | (simp; done) | (simp; omega)); have f_hb_1_1 := Below.frozen hb (p := ⟨w.heap.size + 1, 1, none⟩) (by first | (simp; done) | (simp; omega)); have hz_hb := Below.size hb; (try simp at hz_hb); have ne_hb_0 : ¬ w1.heap.size = w.heap.size := (by omega); have ne_hb_1 : ¬ w1.heap.size = w.heap.size + 1 := (by omega))
  · refine bodyPost_ret (v := .agg #[.int .u64 (IntKind.u64.wrap Hs), .int .u64 Ls]) (by simp only [results, Try.results55]; go_simp) rfl ⟨_, _, rfl, size_neg H1 hs ‹_›, ?_⟩
    (repeat (first | (with_reducible exact Below.refl _ _) | with_reducible assumption | (with_reducible refine below_alloc ?_ _) | (focus ((with_reducible refine below_set ?_ _ _ _ ?_); rotate_left; omega)) | (with_reducible refine Below.drew ?_) | (with_reducible refine below_call ?_ hb)))
  · refine bodyPost_ret (v := .agg #[.int .u64 (IntKind.u64.wrap h1), .int .u64 l1]) (by simp only [results, Try.results55]; go_simp) rfl ⟨_, _, rfl, size_pos H1 ‹_›, ?_⟩
    (repeat (first | (with_reducible exact Below.refl _ _) | with_reducible assumption | (with_reducible refine below_alloc ?_ _) | (focus ((with_reducible refine below_set ?_ _ _ _ ?_); rotate_left; omega)) | (with_reducible refine Below.drew ?_)))
theorem signed_in {h l n : Int} (H : IsS h l n) : IsW (wrap64 h) l (wr n) := by
  obtain ⟨b1, b2, rfl⟩ := H
  unfold IsW wr wrap64
  omega
theorem sgn_yes {h l n : Int} (H : IsS h l n) (k : eqW h l 0 0 = true ∨ 0 ≤ wrap64 h) : fits n = true ∧ IsW (wrap64 h) l n := by
  rw [H.eqW isS0, decide_eq_true_eq] at k
  obtain ⟨b1, b2, rfl⟩ := H
  unfold fits IsW wrap64 at *
  rw [decide_eq_true_eq]
  omega
theorem sgn_no {h l n : Int} (H : IsS h l n) (j : eqW h l 0 0 = false) (k : wrap64 h < 0) : fits n = false := by
  rw [H.eqW isS0, decide_eq_false_iff_not] at j
  obtain ⟨b1, b2, rfl⟩ := H
  unfold fits wrap64 at *
  rw [decide_eq_false_iff_not]
  omega
theorem sgm_yes {h l n a b : Int} (H : IsS h l n) (K : IsW a b (wr (0 - wr n))) (k : eqW h l 0 0 = true ∨ a < 0) : fits (-n) = true ∧ IsW a b (-n) := by
  rw [H.eqW isS0, decide_eq_true_eq] at k
  obtain ⟨b1, b2, rfl⟩ := H
  obtain ⟨b3, b4, e⟩ := K
  unfold wr at e
  unfold fits IsW
  rw [decide_eq_true_eq]
  omega
theorem sgm_no {h l n a b : Int} (H : IsS h l n) (K : IsW a b (wr (0 - wr n))) (j : eqW h l 0 0 = false) (k : 0 ≤ a) : fits (-n) = false := by
  rw [H.eqW isS0, decide_eq_false_iff_not] at j
  obtain ⟨b1, b2, rfl⟩ := H
  obtain ⟨b3, b4, e⟩ := K
  unfold wr at e
  unfold fits
  rw [decide_eq_false_iff_not]
  omega
set_option maxHeartbeats 400000 in
theorem signed_pos (h1 l1 n : Int) (w : World) (H1 : IsS h1 l1 n) :
    Calls Try.prog 57 #[.agg #[.int .u64 h1, .int .u64 l1], .bool false] w (RWF n w) := by
  go_enter Try.func57, Try.ntmps57
  go_wp2
  · refine bodyPost_ret (v := .tuple #[.agg #[.int .i64 0, .int .u64 0], .bool false]) (by simp only [results, Try.results57]; go_simp) rfl (rwf_no (sgn_no H1 ‹_› ‹_›) ?_)
    (repeat (first | (with_reducible exact Below.refl _ _) | with_reducible assumption | (with_reducible refine below_alloc ?_ _) | (focus ((with_reducible refine below_set ?_ _ _ _ ?_); rotate_left; omega)) | (with_reducible refine Below.drew ?_)))
  · have hy := sgn_yes H1 (.inr ‹_›)
    refine bodyPost_ret (v := .tuple #[.agg #[.int .i64 (wrap64 h1), .int .u64 l1], .bool true]) (by simp only [results, Try.results57]; go_simp) rfl (rwf_yes hy.1 hy.2 ?_)
    (repeat (first | (with_reducible exact Below.refl _ _) | with_reducible assumption | (with_reducible refine below_alloc ?_ _) | (focus ((with_reducible refine below_set ?_ _ _ _ ?_); rotate_left; omega)) | (with_reducible refine Below.drew ?_)))
  · have hy := sgn_yes H1 (.inl ‹_›)
    refine bodyPost_ret (v := .tuple #[.agg #[.int .i64 (wrap64 h1), .int .u64 l1], .bool true]) (by simp only [results, Try.results57]; go_simp) rfl (rwf_yes hy.1 hy.2 ?_)
    (repeat (first | (with_reducible exact Below.refl _ _) | with_reducible assumption | (with_reducible refine below_alloc ?_ _) | (focus ((with_reducible refine below_set ?_ _ _ _ ?_); rotate_left; omega)) | (with_reducible refine Below.drew ?_)))
set_option maxHeartbeats 400000 in
theorem signed_neg (h1 l1 n : Int) (w : World) (H1 : IsS h1 l1 n) :
    Calls Try.prog 57 #[.agg #[.int .u64 h1, .int .u64 l1], .bool true] w (RWF (-n) w) := by
  go_enter Try.func57, Try.ntmps57
  go_wp2_with (go_at_call 66; refine (minus_any _ _ _ _ _ _ _ isW0 (signed_in H1)).mono ?_; rintro e w1 ⟨Hs, Ls, rfl, hs, hb⟩; have c_hb_0_0 := Below.cell hb (p := ⟨w.heap.size, 0, none⟩) (by first | (simp; done) | (simp; omega)); have f_hb_0_0 := Below.frozen hb (p := ⟨w.heap.size, 0, none⟩) (by first | (simp; done) | (simp; omega)); have c_hb_0_1 := Below.cell hb (p := ⟨w.heap.size, 1, none⟩) (by first | (simp; done) | (simp; omega)); have f_hb_0_1 := Below.frozen hb (p := ⟨w.heap.size, 1, none⟩) (by first | (simp; done) | (simp; omega)); have c_hb_1_0 := Below.cell hb (p := ⟨w.heap.size + 1, 0, none⟩) (by first | (simp; done) | (simp; omega)); have f_hb_1_0 := Below.frozen hb (p := ⟨w.heap.size + 1, 0, none⟩) (by first | (simp; done) | (simp; omega)); have c_hb_1_1 := Below.cell hb (p := ⟨w.heap.size + 1, 1, none⟩) (by first | (simp; done) | (simp; omega)); have f_hb_1_1 := Below.frozen hb (p := ⟨w.heap.size + 1, 1, none⟩) (by first | (simp; done) | (simp; omega)); have hz_hb := Below.size hb; (try simp at hz_hb); have ne_hb_0 : ¬ w1.heap.size = w.heap.size := (by omega); have ne_hb_1 : ¬ w1.heap.size = w.heap.size + 1 := (by omega))
  · refine bodyPost_ret (v := .tuple #[.agg #[.int .i64 0, .int .u64 0], .bool false]) (by simp only [results, Try.results57]; go_simp) rfl (rwf_no (sgm_no H1 hs ‹_› (by have h := ‹(!decide (Hs < 0)) = true›; simpa using h)) ?_)
    (repeat (first | (with_reducible exact Below.refl _ _) | with_reducible assumption | (with_reducible refine below_alloc ?_ _) | (focus ((with_reducible refine below_set ?_ _ _ _ ?_); rotate_left; omega)) | (with_reducible refine Below.drew ?_) | (with_reducible refine below_call ?_ hb)))
  · have hy := sgm_yes H1 hs (.inr (by have h := ‹(!decide (Hs < 0)) = false›; simpa using h))
    refine bodyPost_ret (v := .tuple #[.agg #[.int .i64 Hs, .int .u64 Ls], .bool true]) (by simp only [results, Try.results57]; go_simp) rfl (rwf_yes hy.1 hy.2 ?_)
    (repeat (first | (with_reducible exact Below.refl _ _) | with_reducible assumption | (with_reducible refine below_alloc ?_ _) | (focus ((with_reducible refine below_set ?_ _ _ _ ?_); rotate_left; omega)) | (with_reducible refine Below.drew ?_) | (with_reducible refine below_call ?_ hb)))
  · have hy := sgm_yes H1 hs (.inl ‹_›)
    refine bodyPost_ret (v := .tuple #[.agg #[.int .i64 Hs, .int .u64 Ls], .bool true]) (by simp only [results, Try.results57]; go_simp) rfl (rwf_yes hy.1 hy.2 ?_)
    (repeat (first | (with_reducible exact Below.refl _ _) | with_reducible assumption | (with_reducible refine below_alloc ?_ _) | (focus ((with_reducible refine below_set ?_ _ _ _ ?_); rotate_left; omega)) | (with_reducible refine Below.drew ?_) | (with_reducible refine below_call ?_ hb)))
theorem signed_any (h1 l1 n : Int) (b : Bool) (w : World) (H1 : IsS h1 l1 n) :
    Calls Try.prog 57 #[.agg #[.int .u64 h1, .int .u64 l1], .bool b] w (RWF (if b then -n else n) w) := by
  cases b
  · exact signed_pos h1 l1 n w H1
  · exact signed_neg h1 l1 n w H1
set_option maxHeartbeats 400000 in
theorem lessSize_any (h1 l1 n h2 l2 m : Int) (w : World) (H1 : IsS h1 l1 n) (H2 : IsS h2 l2 m) :
    Calls Try.prog 86 #[.agg #[.int .u64 h1, .int .u64 l1], .agg #[.int .u64 h2, .int .u64 l2]] w (RV (.bool (decide (n < m))) w) := by
  go_enter Try.func86, Try.ntmps86
  go_wp2
  all_goals
    go_ret
    refine ⟨ret_bool ?_, by (repeat (first | (with_reducible exact Below.refl _ _) | with_reducible assumption | (with_reducible refine below_alloc ?_ _) | (focus ((with_reducible refine below_set ?_ _ _ _ ?_); rotate_left; omega)) | (with_reducible refine Below.drew ?_)))⟩
    obtain ⟨b1, b2, e1⟩ := H1
    obtain ⟨b3, b4, e2⟩ := H2
    rw [Bool.eq_iff_iff]
    simp only [decide_eq_true_eq, true_iff, Bool.false_eq_true, false_iff]
    omega
theorem subS_val (h1 l1 h2 l2 : Int) (b1 : 0 ≤ h1 ∧ h1 < 18446744073709551616) (b2 : 0 ≤ l1 ∧ l1 < 18446744073709551616)
   (b3 : 0 ≤ h2 ∧ h2 < 18446744073709551616) (b4 : 0 ≤ l2 ∧ l2 < 18446744073709551616) (hle : h2 * 18446744073709551616 + l2 ≤ h1 * 18446744073709551616 + l1) :
   IsS ((h1 - h2 - -((l1 - l2 - 0) / 18446744073709551616)) % 18446744073709551616) ((l1 - l2 - 0) % 18446744073709551616) ((h1 * 18446744073709551616 + l1) - (h2 * 18446744073709551616 + l2)) := by
  unfold IsS
  omega
set_option maxHeartbeats 400000 in
theorem subSizes_any (h1 l1 n h2 l2 m : Int) (w : World) (H1 : IsS h1 l1 n) (H2 : IsS h2 l2 m) (hle : m ≤ n) :
    Calls Try.prog 85 #[.agg #[.int .u64 h1, .int .u64 l1], .agg #[.int .u64 h2, .int .u64 l2]] w (RS (n - m) w) := by
  obtain ⟨b1, b2, rfl⟩ := H1
  obtain ⟨b3, b4, rfl⟩ := H2
  have hv := subS_val h1 l1 h2 l2 b1 b2 b3 b4 hle
  have e1 := fun w => sub64_call l1 l2 0 b2.1 b2.2 b4.1 b4.2 (by omega) (by omega) w
  have e2 := fun w => sub64_call h1 h2 (-((l1 - l2 - 0) / 18446744073709551616)) b1.1 b1.2 b3.1 b3.2 (by omega) (by omega) w
  generalize -((l1 - l2 - 0) / 18446744073709551616) = c at *
  generalize (l1 - l2 - 0) % 18446744073709551616 = s at *
  generalize (h1 - h2 - c) % 18446744073709551616 = s' at *
  generalize -((h1 - h2 - c) / 18446744073709551616) = c' at *
  generalize (h1 * 18446744073709551616 + l1) - (h2 * 18446744073709551616 + l2) = nm at *
  clear b1 b2 b3 b4 hle
  go_enter Try.func85, Try.ntmps85
  go_wp2
  refine bodyPost_ret (v := .agg #[.int .u64 s', .int .u64 s]) (by simp only [results, Try.results85]; go_simp) rfl ⟨_, _, rfl, hv, ?_⟩
  (repeat (first | (with_reducible exact Below.refl _ _) | with_reducible assumption | (with_reducible refine below_alloc ?_ _) | (focus ((with_reducible refine below_set ?_ _ _ _ ?_); rotate_left; omega)) | (with_reducible refine Below.drew ?_)))
end Go.Proofs.Ytinjgiigmlikpaa
