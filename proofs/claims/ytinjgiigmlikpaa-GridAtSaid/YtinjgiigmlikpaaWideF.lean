/-
  Contracts of package wide: products of small numbers, shifts. My own text.
-/
import Derived.Test.YtinjgiigmlikpaaWideE
namespace Go.Proofs.Ytinjgiigmlikpaa
open Go.RowKit
set_option linter.unusedVariables false

theorem times_fits {n m : Int} (h0 : -9223372036854775808 ≤ n) (h1 : n < 9223372036854775808) (k0 : -9223372036854775808 ≤ m) (k1 : m < 9223372036854775808) : fits (n * m) = true := by
  have a : n.natAbs ≤ 9223372036854775808 := by omega
  have b : m.natAbs ≤ 9223372036854775808 := by omega
  have c := Nat.mul_le_mul a b
  rw [← Int.natAbs_mul] at c
  unfold fits
  rw [decide_eq_true_eq]
  omega
theorem abs_pow (n : Int) (k : Nat) : ((n * 2 ^ k).natAbs : Int) = (n.natAbs : Int) * 2 ^ k := by
  rw [Int.natAbs_mul, Int.natAbs_pow, Int.natCast_mul]
  simp
theorem shl_over {n k : Int} {len : Nat} (h : IsLen n.natAbs len) (h0 : n ≠ 0) (hk : 0 ≤ k) (ho : 128 - (len : Int) < k) : fits (n * 2 ^ k.toNat) = false := by
  have h1 := len_over h (by omega) (show 128 < k.toNat + len by omega)
  have h2 := abs_pow n k.toNat
  rw [show (n.natAbs : Int) * 2 ^ k.toNat = ((n.natAbs * 2 ^ k.toNat : Nat) : Int) by simp] at h2
  unfold fits
  rw [decide_eq_false_iff_not]
  omega
theorem shl_under {n k : Int} {len : Nat} (h : IsLen n.natAbs len) (h0 : n ≠ 0) (hk : 0 ≤ k) (ho : k ≤ 128 - (len : Int)) : k < 128 ∧ (n.natAbs : Int) * 2 ^ k.toNat < 340282366920938463463374607431768211456 := by
  have h1 := len_under h (show k.toNat + len ≤ 128 by omega)
  rw [show (n.natAbs : Int) * 2 ^ k.toNat = ((n.natAbs * 2 ^ k.toNat : Nat) : Int) by simp]
  refine ⟨?_, by omega⟩
  rcases h with h | h <;> omega
theorem sign_pow {h1 l1 n : Int} (k : Nat) (H1 : IsW h1 l1 n) : (if decide (h1 < 0) = true then -((n.natAbs : Int) * 2 ^ k) else (n.natAbs : Int) * 2 ^ k) = n * 2 ^ k := by
  have k1 := H1.neg
  rcases Int.lt_or_le n 0 with a | a
  · obtain ⟨x, rfl⟩ : ∃ x : Nat, n = -(x : Int) := ⟨n.natAbs, by omega⟩
    rw [if_pos (decide_eq_true (k1.2 a)), Int.natAbs_neg, Int.natAbs_natCast, Int.neg_mul]
  · obtain ⟨x, rfl⟩ : ∃ x : Nat, n = (x : Int) := ⟨n.natAbs, by omega⟩
    rw [if_neg (by simp; omega), Int.natAbs_natCast]
theorem signed_pow {h1 l1 n ph pl P : Int} {k : Nat} (w : World) (H1 : IsW h1 l1 n) (e : Hid (P = (n.natAbs : Int) * 2 ^ k)) (hp : IsS ph pl P) :
    Calls Try.prog 57 #[.agg #[.int .u64 ph, .int .u64 pl], .bool (decide (h1 < 0))] w (RWF (n * 2 ^ k) w) := by
  rw [← sign_pow k H1, ← e.out]
  exact signed_any ph pl P _ w hp
set_option maxHeartbeats 1000000 in
theorem Shl_neg (h1 l1 n k : Int) (w : World) (H1 : IsW h1 l1 n) (hk : k < 0) :
    Calls Try.prog 27 #[.agg #[.int .i64 h1, .int .u64 l1], .int .i64 k] w (RV (.tuple #[.agg #[.int .i64 0, .int .u64 0], .bool false]) w) := by
  go_enter Try.func27, Try.ntmps27
  go_wp2
  refine bodyPost_ret (v := .tuple #[.agg #[.int .i64 0, .int .u64 0], .bool false]) (by simp only [results, Try.results27]; go_simp) rfl ⟨rfl, ?_⟩
  (repeat (first | (with_reducible exact Below.refl _ _) | with_reducible assumption | (with_reducible refine below_alloc ?_ _) | (focus ((with_reducible refine below_set ?_ _ _ _ ?_); rotate_left; omega)) | (with_reducible refine Below.drew ?_)))
set_option maxHeartbeats 1000000 in
theorem Shl_zero (k : Int) (w : World) (hk : 0 ≤ k) :
    Calls Try.prog 27 #[.agg #[.int .i64 0, .int .u64 0], .int .i64 k] w (RV (.tuple #[.agg #[.int .i64 0, .int .u64 0], .bool true]) w) := by
  have he : eqW 0 0 0 0 = true := rfl
  go_enter Try.func27, Try.ntmps27
  go_wp2
  refine bodyPost_ret (v := .tuple #[.agg #[.int .i64 0, .int .u64 0], .bool true]) (by simp only [results, Try.results27]; go_simp) rfl ⟨rfl, ?_⟩
  (repeat (first | (with_reducible exact Below.refl _ _) | with_reducible assumption | (with_reducible refine below_alloc ?_ _) | (focus ((with_reducible refine below_set ?_ _ _ _ ?_); rotate_left; omega)) | (with_reducible refine Below.drew ?_)))
set_option maxHeartbeats 1000000 in
theorem Shl_pos (h1 l1 n k : Int) (w : World) (H1 : IsW h1 l1 n) (hn : n ≠ 0) (hk : 0 ≤ k) (hk2 : k < 9223372036854775808) :
    Calls Try.prog 27 #[.agg #[.int .i64 h1, .int .u64 l1], .int .i64 k] w (RWF (n * 2 ^ k.toNat) w) := by
  have he : eqW h1 l1 0 0 = false := by rw [H1.eqW isW0]; exact decide_eq_false hn
  go_enter Try.func27, Try.ntmps27
  go_wp2_with (go_at_call 55; refine (sizeOf_any h1 l1 n _ H1).mono ?_; rintro e w1 ⟨sh, sl, rfl, hs, hb1⟩; have B_w1_0 : Box w1 (w.heap.size) (.int .i64 h1) (.int .u64 l1) := (by (repeat (first | with_reducible assumption | (focus ((with_reducible refine Box.new ?_); simp; done)) | (with_reducible refine Box.alloc ?_ _) | (with_reducible refine Box.drew ?_) | (with_reducible refine Box.put ?_) | (focus ((with_reducible refine Box.set ?_ _ ?_); rotate_left; omega)) | (focus ((with_reducible apply HasBox.of); with_reducible assumption)) | (focus ((with_reducible refine HasBox.new ?_); simp; done)) | (with_reducible refine HasBox.set ?_ _ _) | (with_reducible refine HasBox.drew ?_) | (with_reducible refine HasBox.alloc ?_ _) | (with_reducible refine Box.call ?_ hb1) | (with_reducible refine HasBox.call ?_ hb1)))); obtain ⟨⟨c_w1_0, d_w1_0⟩, f_w1_0, g_w1_0⟩ := id B_w1_0; have B_w1_1 : Box w1 (w.heap.size + 1) (.int .i64 0) (.int .u64 0) := (by (repeat (first | with_reducible assumption | (focus ((with_reducible refine Box.new ?_); simp; done)) | (with_reducible refine Box.alloc ?_ _) | (with_reducible refine Box.drew ?_) | (with_reducible refine Box.put ?_) | (focus ((with_reducible refine Box.set ?_ _ ?_); rotate_left; omega)) | (focus ((with_reducible apply HasBox.of); with_reducible assumption)) | (focus ((with_reducible refine HasBox.new ?_); simp; done)) | (with_reducible refine HasBox.set ?_ _ _) | (with_reducible refine HasBox.drew ?_) | (with_reducible refine HasBox.alloc ?_ _) | (with_reducible refine Box.call ?_ hb1) | (with_reducible refine HasBox.call ?_ hb1)))); obtain ⟨⟨c_w1_1, d_w1_1⟩, f_w1_1, g_w1_1⟩ := id B_w1_1; have hz_hb1 := Below.size hb1; (try simp at hz_hb1); have ne_hb1_0 : ¬ w1.heap.size = w.heap.size := (by omega); have ne_hb1_1 : ¬ w1.heap.size = w.heap.size + 1 := (by omega); have en_hb1_0 : ¬ w.heap.size = w1.heap.size := (by omega); have en_hb1_1 : ¬ w.heap.size + 1 = w1.heap.size := (by omega); have lt_hb1_0 : w.heap.size < w1.heap.size := (by omega); have lt_hb1_1 : w.heap.size + 1 < w1.heap.size := (by omega))
  refine (lenSize_any _ _ _ _ hs).mono ?_
  rintro e w2 ⟨len, rfl, hl, hb2⟩
  have B_w2_0 : Box w2 (w.heap.size) (.int .i64 h1) (.int .u64 l1) := (by (repeat (first | with_reducible assumption | (focus ((with_reducible refine Box.new ?_); simp; done)) | (with_reducible refine Box.alloc ?_ _) | (with_reducible refine Box.drew ?_) | (with_reducible refine Box.put ?_) | (focus ((with_reducible refine Box.set ?_ _ ?_); rotate_left; omega)) | (focus ((with_reducible apply HasBox.of); with_reducible assumption)) | (focus ((with_reducible refine HasBox.new ?_); simp; done)) | (with_reducible refine HasBox.set ?_ _ _) | (with_reducible refine HasBox.drew ?_) | (with_reducible refine HasBox.alloc ?_ _) | (with_reducible refine Box.call ?_ hb2) | (with_reducible refine HasBox.call ?_ hb2) | (with_reducible refine Box.call ?_ hb1) | (with_reducible refine HasBox.call ?_ hb1)))); obtain ⟨⟨c_w2_0, d_w2_0⟩, f_w2_0, g_w2_0⟩ := id B_w2_0; have B_w2_1 : Box w2 (w.heap.size + 1) (.int .i64 0) (.int .u64 0) := (by (repeat (first | with_reducible assumption | (focus ((with_reducible refine Box.new ?_); simp; done)) | (with_reducible refine Box.alloc ?_ _) | (with_reducible refine Box.drew ?_) | (with_reducible refine Box.put ?_) | (focus ((with_reducible refine Box.set ?_ _ ?_); rotate_left; omega)) | (focus ((with_reducible apply HasBox.of); with_reducible assumption)) | (focus ((with_reducible refine HasBox.new ?_); simp; done)) | (with_reducible refine HasBox.set ?_ _ _) | (with_reducible refine HasBox.drew ?_) | (with_reducible refine HasBox.alloc ?_ _) | (with_reducible refine Box.call ?_ hb2) | (with_reducible refine HasBox.call ?_ hb2) | (with_reducible refine Box.call ?_ hb1) | (with_reducible refine HasBox.call ?_ hb1)))); obtain ⟨⟨c_w2_1, d_w2_1⟩, f_w2_1, g_w2_1⟩ := id B_w2_1; have B_w2_2 : Box w2 (w1.heap.size) (.int .u64 sh) (.int .u64 sl) := (by (repeat (first | with_reducible assumption | (focus ((with_reducible refine Box.new ?_); simp; done)) | (with_reducible refine Box.alloc ?_ _) | (with_reducible refine Box.drew ?_) | (with_reducible refine Box.put ?_) | (focus ((with_reducible refine Box.set ?_ _ ?_); rotate_left; omega)) | (focus ((with_reducible apply HasBox.of); with_reducible assumption)) | (focus ((with_reducible refine HasBox.new ?_); simp; done)) | (with_reducible refine HasBox.set ?_ _ _) | (with_reducible refine HasBox.drew ?_) | (with_reducible refine HasBox.alloc ?_ _) | (with_reducible refine Box.call ?_ hb2) | (with_reducible refine HasBox.call ?_ hb2) | (with_reducible refine Box.call ?_ hb1) | (with_reducible refine HasBox.call ?_ hb1)))); obtain ⟨⟨c_w2_2, d_w2_2⟩, f_w2_2, g_w2_2⟩ := id B_w2_2; have hz_hb2 := Below.size hb2; (try simp at hz_hb2); have ne_hb2_0 : ¬ w2.heap.size = w.heap.size := (by omega); have ne_hb2_1 : ¬ w2.heap.size = w.heap.size + 1 := (by omega); have en_hb2_0 : ¬ w.heap.size = w2.heap.size := (by omega); have en_hb2_1 : ¬ w.heap.size + 1 = w2.heap.size := (by omega); have lt_hb2_0 : w.heap.size < w2.heap.size := (by omega); have lt_hb2_1 : w.heap.size + 1 < w2.heap.size := (by omega)
  rw [Int.toNat_natCast] at hl
  have hl2 := len_le hl
  by_cases ho : 128 - (len : Int) < k
  · have HO := Lib.hid (shl_over hl hn hk ho)
    go_wp2
    refine bodyPost_ret (v := .tuple #[.agg #[.int .i64 0, .int .u64 0], .bool false]) (by simp only [results, Try.results27]; go_simp) rfl (rwf_no HO.out ?_)
    (repeat (first | (with_reducible exact Below.refl _ _) | with_reducible assumption | (with_reducible refine below_alloc ?_ _) | (focus ((with_reducible refine below_set ?_ _ _ _ ?_); rotate_left; omega)) | (with_reducible refine Below.drew ?_) | (with_reducible refine below_call ?_ hb2) | (with_reducible refine below_call ?_ hb1)))
  · obtain ⟨hk3, hu⟩ := shl_under hl hn hk (by omega)
    have ho' : k ≤ 128 - (len : Int) := by omega
    have HU := Lib.hid hu
    clear hu ho hn
    have hsh : Hid (∀ w, Calls Try.prog 58 #[.agg #[.int .u64 sh, .int .u64 sl], .int .u64 k] w (RS ((n.natAbs : Int) * 2 ^ k.toNat) w)) := fun w => shlSize_any _ _ _ _ w hs hk hk3 HU.out
    generalize hN : n * 2 ^ k.toNat = N at *
    have HN := Lib.hid hN
    generalize hP : (n.natAbs : Int) * 2 ^ k.toNat = P at *
    have HP := Lib.hid hP.symm
    clear hN hP
    have hsg : Hid (∀ (ph pl : Int) w, IsS ph pl P → Calls Try.prog 57 #[.agg #[.int .u64 ph, .int .u64 pl], .bool (decide (h1 < 0))] w (RWF N w)) := fun ph pl w hp => by
      rw [← HN.out]
      exact signed_pow w H1 HP hp
    have lw1 : w1.heap.size < w2.heap.size := by omega
    have hwk : IntKind.u64.wrap k = k := by rw [IntKind.wrap_u64]; omega
    go_wp2_with fail
    go_region_held3 (fun w' => (w'.cell? ⟨w.heap.size, 0, none⟩ = some (.int .i64 h1) ∧ w'.cell? ⟨w.heap.size, 1, none⟩ = some (.int .u64 l1)) ∧ (w'.cell? ⟨w1.heap.size, 0, none⟩ = some (.int .u64 sh) ∧ w'.cell? ⟨w1.heap.size, 1, none⟩ = some (.int .u64 sl))) (go_keep)
      (first
        | (go_at_call 58; ((with_reducible refine (hsh.out _).mono ?_); rintro e w3 ⟨th, tl, rfl, ht, hb3⟩; have B_w3_0 : Box w3 (w.heap.size) (.int .i64 h1) (.int .u64 l1) := (by (repeat (first | with_reducible assumption | (focus ((with_reducible refine Box.new ?_); simp; done)) | (with_reducible refine Box.alloc ?_ _) | (with_reducible refine Box.drew ?_) | (with_reducible refine Box.put ?_) | (focus ((with_reducible refine Box.set ?_ _ ?_); rotate_left; omega)) | (focus ((with_reducible apply HasBox.of); with_reducible assumption)) | (focus ((with_reducible refine HasBox.new ?_); simp; done)) | (with_reducible refine HasBox.set ?_ _ _) | (with_reducible refine HasBox.drew ?_) | (with_reducible refine HasBox.alloc ?_ _) | (with_reducible refine Box.call ?_ hb3) | (with_reducible refine HasBox.call ?_ hb3) | (with_reducible refine Box.call ?_ hb2) | (with_reducible refine HasBox.call ?_ hb2) | (with_reducible refine Box.call ?_ hb1) | (with_reducible refine HasBox.call ?_ hb1)))); obtain ⟨⟨c_w3_0, d_w3_0⟩, f_w3_0, g_w3_0⟩ := id B_w3_0; have B_w3_1 : Box w3 (w.heap.size + 1) (.int .i64 0) (.int .u64 0) := (by (repeat (first | with_reducible assumption | (focus ((with_reducible refine Box.new ?_); simp; done)) | (with_reducible refine Box.alloc ?_ _) | (with_reducible refine Box.drew ?_) | (with_reducible refine Box.put ?_) | (focus ((with_reducible refine Box.set ?_ _ ?_); rotate_left; omega)) | (focus ((with_reducible apply HasBox.of); with_reducible assumption)) | (focus ((with_reducible refine HasBox.new ?_); simp; done)) | (with_reducible refine HasBox.set ?_ _ _) | (with_reducible refine HasBox.drew ?_) | (with_reducible refine HasBox.alloc ?_ _) | (with_reducible refine Box.call ?_ hb3) | (with_reducible refine HasBox.call ?_ hb3) | (with_reducible refine Box.call ?_ hb2) | (with_reducible refine HasBox.call ?_ hb2) | (with_reducible refine Box.call ?_ hb1) | (with_reducible refine HasBox.call ?_ hb1)))); obtain ⟨⟨c_w3_1, d_w3_1⟩, f_w3_1, g_w3_1⟩ := id B_w3_1; have B_w3_2 : Box w3 (w1.heap.size) (.int .u64 sh) (.int .u64 sl) := (by (repeat (first | with_reducible assumption | (focus ((with_reducible refine Box.new ?_); simp; done)) | (with_reducible refine Box.alloc ?_ _) | (with_reducible refine Box.drew ?_) | (with_reducible refine Box.put ?_) | (focus ((with_reducible refine Box.set ?_ _ ?_); rotate_left; omega)) | (focus ((with_reducible apply HasBox.of); with_reducible assumption)) | (focus ((with_reducible refine HasBox.new ?_); simp; done)) | (with_reducible refine HasBox.set ?_ _ _) | (with_reducible refine HasBox.drew ?_) | (with_reducible refine HasBox.alloc ?_ _) | (with_reducible refine Box.call ?_ hb3) | (with_reducible refine HasBox.call ?_ hb3) | (with_reducible refine Box.call ?_ hb2) | (with_reducible refine HasBox.call ?_ hb2) | (with_reducible refine Box.call ?_ hb1) | (with_reducible refine HasBox.call ?_ hb1)))); obtain ⟨⟨c_w3_2, d_w3_2⟩, f_w3_2, g_w3_2⟩ := id B_w3_2; have hz_hb3 := Below.size hb3; (try simp at hz_hb3); have ne_hb3_0 : ¬ w3.heap.size = w.heap.size := (by omega); have ne_hb3_1 : ¬ w3.heap.size = w.heap.size + 1 := (by omega); have en_hb3_0 : ¬ w.heap.size = w3.heap.size := (by omega); have en_hb3_1 : ¬ w.heap.size + 1 = w3.heap.size := (by omega); have lt_hb3_0 : w.heap.size < w3.heap.size := (by omega); have lt_hb3_1 : w.heap.size + 1 < w3.heap.size := (by omega)))
        | (go_at_call 57; ((with_reducible refine (hsg.out _ _ _ ht).mono ?_); rintro e w4 ⟨rh, rl, rfl, hr, hb4⟩; have B_w4_0 : Box w4 (w.heap.size) (.int .i64 h1) (.int .u64 l1) := (by (repeat (first | with_reducible assumption | (focus ((with_reducible refine Box.new ?_); simp; done)) | (with_reducible refine Box.alloc ?_ _) | (with_reducible refine Box.drew ?_) | (with_reducible refine Box.put ?_) | (focus ((with_reducible refine Box.set ?_ _ ?_); rotate_left; omega)) | (focus ((with_reducible apply HasBox.of); with_reducible assumption)) | (focus ((with_reducible refine HasBox.new ?_); simp; done)) | (with_reducible refine HasBox.set ?_ _ _) | (with_reducible refine HasBox.drew ?_) | (with_reducible refine HasBox.alloc ?_ _) | (with_reducible refine Box.call ?_ hb4) | (with_reducible refine HasBox.call ?_ hb4) | (with_reducible refine Box.call ?_ hb3) | (with_reducible refine HasBox.call ?_ hb3) | (with_reducible refine Box.call ?_ hb2) | (with_reducible refine HasBox.call ?_ hb2) | (with_reducible refine Box.call ?_ hb1) | (with_reducible refine HasBox.call ?_ hb1)))); obtain ⟨⟨c_w4_0, d_w4_0⟩, f_w4_0, g_w4_0⟩ := id B_w4_0; have B_w4_1 : Box w4 (w.heap.size + 1) (.int .i64 0) (.int .u64 0) := (by (repeat (first | with_reducible assumption | (focus ((with_reducible refine Box.new ?_); simp; done)) | (with_reducible refine Box.alloc ?_ _) | (with_reducible refine Box.drew ?_) | (with_reducible refine Box.put ?_) | (focus ((with_reducible refine Box.set ?_ _ ?_); rotate_left; omega)) | (focus ((with_reducible apply HasBox.of); with_reducible assumption)) | (focus ((with_reducible refine HasBox.new ?_); simp; done)) | (with_reducible refine HasBox.set ?_ _ _) | (with_reducible refine HasBox.drew ?_) | (with_reducible refine HasBox.alloc ?_ _) | (with_reducible refine Box.call ?_ hb4) | (with_reducible refine HasBox.call ?_ hb4) | (with_reducible refine Box.call ?_ hb3) | (with_reducible refine HasBox.call ?_ hb3) | (with_reducible refine Box.call ?_ hb2) | (with_reducible refine HasBox.call ?_ hb2) | (with_reducible refine Box.call ?_ hb1) | (with_reducible refine HasBox.call ?_ hb1)))); obtain ⟨⟨c_w4_1, d_w4_1⟩, f_w4_1, g_w4_1⟩ := id B_w4_1; have B_w4_2 : Box w4 (w1.heap.size) (.int .u64 sh) (.int .u64 sl) := (by (repeat (first | with_reducible assumption | (focus ((with_reducible refine Box.new ?_); simp; done)) | (with_reducible refine Box.alloc ?_ _) | (with_reducible refine Box.drew ?_) | (with_reducible refine Box.put ?_) | (focus ((with_reducible refine Box.set ?_ _ ?_); rotate_left; omega)) | (focus ((with_reducible apply HasBox.of); with_reducible assumption)) | (focus ((with_reducible refine HasBox.new ?_); simp; done)) | (with_reducible refine HasBox.set ?_ _ _) | (with_reducible refine HasBox.drew ?_) | (with_reducible refine HasBox.alloc ?_ _) | (with_reducible refine Box.call ?_ hb4) | (with_reducible refine HasBox.call ?_ hb4) | (with_reducible refine Box.call ?_ hb3) | (with_reducible refine HasBox.call ?_ hb3) | (with_reducible refine Box.call ?_ hb2) | (with_reducible refine HasBox.call ?_ hb2) | (with_reducible refine Box.call ?_ hb1) | (with_reducible refine HasBox.call ?_ hb1)))); obtain ⟨⟨c_w4_2, d_w4_2⟩, f_w4_2, g_w4_2⟩ := id B_w4_2; have hz_hb4 := Below.size hb4; (try simp at hz_hb4); have ne_hb4_0 : ¬ w4.heap.size = w.heap.size := (by omega); have ne_hb4_1 : ¬ w4.heap.size = w.heap.size + 1 := (by omega); have en_hb4_0 : ¬ w.heap.size = w4.heap.size := (by omega); have en_hb4_1 : ¬ w.heap.size + 1 = w4.heap.size := (by omega); have lt_hb4_0 : w.heap.size < w4.heap.size := (by omega); have lt_hb4_1 : w.heap.size + 1 < w4.heap.size := (by omega))))
    all_goals
      go_wp2
      refine bodyPost_ret (v := .tuple #[.agg #[.int .i64 rh, .int .u64 rl], .bool (fits N)]) (by simp only [results, Try.results27]; go_simp) rfl ⟨rh, rl, rfl, hr, ?_⟩
      (repeat (first | (with_reducible exact Below.refl _ _) | with_reducible assumption | (with_reducible refine below_alloc ?_ _) | (focus ((with_reducible refine below_set ?_ _ _ _ ?_); rotate_left; omega)) | (with_reducible refine Below.drew ?_) | (with_reducible refine below_call ?_ hb4) | (with_reducible refine below_call ?_ hb3) | (with_reducible refine below_call ?_ hb2) | (with_reducible refine below_call ?_ hb1)))
end Go.Proofs.Ytinjgiigmlikpaa
