/-
  Contracts of package wide: quotients. My own text.
-/
import Derived.Test.YtinjgiigmlikpaaDivA
import Derived.Test.YtinjgiigmlikpaaDivN
namespace Go.Proofs.Ytinjgiigmlikpaa
open Go.RowKit
set_option linter.unusedVariables false

theorem fieldS0 (x y : Int) (w : World) : (Instr.field 91 (.agg #[.int .u64 x, .int .u64 y]) 0).run Try.prog w = .ok (.int .u64 x) w := by kernel_rfl
attribute [local go_sem] fieldS0
def RGuess (q : Int) (w : World) (e : Ending) (w' : World) : Prop := ∃ g : Int, e = .returned (.int .u64 g) ∧ (0 ≤ g ∧ g ≤ q ∧ q ≤ g + 1 ∧ g < 18446744073709551616) ∧ Below w.heap.size w w'
set_option maxHeartbeats 2000000 in
set_option maxRecDepth 100000 in
theorem guess_any (h1 l1 n h2 l2 m : Int) (w : World) (H1 : IsS h1 l1 n) (H2 : IsS h2 l2 m) (hn : n ≤ 170141183460469231731687303715884105728) (hm : h2 ≠ 0) :
    Calls Try.prog 83 #[.agg #[.int .u64 h1, .int .u64 l1], .agg #[.int .u64 h2, .int .u64 l2]] w (RGuess (n / m) w) := by
  obtain ⟨b1, b2, e1⟩ := id H1
  obtain ⟨b3, b4, e2⟩ := id H2
  go_enter Try.func83, Try.ntmps83
  go_wp2_with fail
  refine (lz_any h2 _ (by omega) (by omega)).mono ?_
  rintro e w1 ⟨s, rfl, hs, rfl⟩
  have hs0 := hs.s0; have hs1 := hs.s1
  have hws : IntKind.u64.wrap s = s := by rw [IntKind.wrap_u64]; omega
  go_wp2_with fail
  obtain ⟨sh1, sh2⟩ := lz_shift hs b3.1 b4.1 b4.2
  rw [← e2] at sh1 sh2
  refine (shlSize_any _ _ m s _ H2 hs0 (by omega) sh1).mono ?_
  rintro e w1 ⟨T, low, rfl, hT, hb1⟩
  have B_w1_0 : Box w1 (w.heap.size) (.int .u64 h1) (.int .u64 l1) := (by (repeat (first | with_reducible assumption | (focus ((with_reducible refine Box.new ?_); simp; done)) | (with_reducible refine Box.alloc ?_ _) | (with_reducible refine Box.drew ?_) | (with_reducible refine Box.put ?_) | (focus ((with_reducible refine Box.set ?_ _ ?_); rotate_left; omega)) | (focus ((with_reducible apply HasBox.of); with_reducible assumption)) | (focus ((with_reducible refine HasBox.new ?_); simp; done)) | (with_reducible refine HasBox.set ?_ _ _) | (with_reducible refine HasBox.drew ?_) | (with_reducible refine HasBox.alloc ?_ _) | (with_reducible refine Box.call ?_ hb1) | (with_reducible refine HasBox.call ?_ hb1)))); obtain ⟨⟨c_w1_0, d_w1_0⟩, f_w1_0, g_w1_0⟩ := id B_w1_0; have B_w1_1 : Box w1 (w.heap.size + 1) (.int .u64 h2) (.int .u64 l2) := (by (repeat (first | with_reducible assumption | (focus ((with_reducible refine Box.new ?_); simp; done)) | (with_reducible refine Box.alloc ?_ _) | (with_reducible refine Box.drew ?_) | (with_reducible refine Box.put ?_) | (focus ((with_reducible refine Box.set ?_ _ ?_); rotate_left; omega)) | (focus ((with_reducible apply HasBox.of); with_reducible assumption)) | (focus ((with_reducible refine HasBox.new ?_); simp; done)) | (with_reducible refine HasBox.set ?_ _ _) | (with_reducible refine HasBox.drew ?_) | (with_reducible refine HasBox.alloc ?_ _) | (with_reducible refine Box.call ?_ hb1) | (with_reducible refine HasBox.call ?_ hb1)))); obtain ⟨⟨c_w1_1, d_w1_1⟩, f_w1_1, g_w1_1⟩ := id B_w1_1; have hz_hb1 := Below.size hb1; (try simp at hz_hb1); have ne_hb1_0 : ¬ w1.heap.size = w.heap.size := (by omega); have ne_hb1_1 : ¬ w1.heap.size = w.heap.size + 1 := (by omega); have en_hb1_0 : ¬ w.heap.size = w1.heap.size := (by omega); have en_hb1_1 : ¬ w.heap.size + 1 = w1.heap.size := (by omega); have lt_hb1_0 : w.heap.size < w1.heap.size := (by omega); have lt_hb1_1 : w.heap.size + 1 < w1.heap.size := (by omega)
  obtain ⟨bT, bl, eT⟩ := hT
  have hT0 : 9223372036854775808 ≤ T := by omega
  obtain ⟨L, hL, hL2, hL3⟩ := half_val h1 l1 b1 b2
  have hg := guess_ok n m s T low (by omega) hn hs0 hs1 eT bl.1 bl.2 hT0
  have hh : h1 / 2 < T := by omega
  have hdiv : Hid (∀ w, Calls Try.prog 82 #[.int .u64 (h1 / 2), .int .u64 L, .int .u64 T] w (RDiv (n / 2 / T) ((h1 / 2 * 18446744073709551616 + L) % T) w)) := fun w => by
    rw [e1, ← hL3]
    exact div64_any (h1 / 2) L T w (by omega) hh hL2 bT.2
  have hq0 : 0 ≤ n / 2 / T := Int.ediv_nonneg (by omega) (by omega)
  have hm0 : 0 ≤ n / m := Int.ediv_nonneg (by omega) (by omega)
  generalize n / 2 / T = Q at *
  generalize n / m = q at *
  clear sh1 sh2 hL3 e1 e2 eT hn hm H1 H2
  obtain ⟨hg1, hg2, hg3⟩ := hg
  go_wp2_with fail
  refine (hdiv.out _).mono ?_
  rintro e w2 ⟨rfl, hb2⟩
  go_wp2_with fail
  · have hne : (Q / 2 ^ (63 - s).toNat != 0) = true := by assumption
    go_ret
    refine ⟨_, rfl, ?_, by (repeat (first | (with_reducible exact Below.refl _ _) | with_reducible assumption | (with_reducible refine below_alloc ?_ _) | (focus ((with_reducible refine below_set ?_ _ _ _ ?_); rotate_left; omega)) | (with_reducible refine Below.drew ?_) | (with_reducible refine below_call ?_ hb2) | (with_reducible refine below_call ?_ hb1)))⟩
    generalize Q / 2 ^ (63 - s).toNat = G at *
    rw [bne_iff_ne] at hne
    first | (rw [IntKind.wrap_u64]; omega) | omega
  · have hne : (Q / 2 ^ (63 - s).toNat != 0) = false := by assumption
    go_ret
    refine ⟨_, rfl, ?_, by (repeat (first | (with_reducible exact Below.refl _ _) | with_reducible assumption | (with_reducible refine below_alloc ?_ _) | (focus ((with_reducible refine below_set ?_ _ _ _ ?_); rotate_left; omega)) | (with_reducible refine Below.drew ?_) | (with_reducible refine below_call ?_ hb2) | (with_reducible refine below_call ?_ hb1)))⟩
    generalize Q / 2 ^ (63 - s).toNat = G at *
    rw [bne_eq_false_iff_eq] at hne
    omega
def RSS (q r : Int) (w : World) (e : Ending) (w' : World) : Prop := ∃ a b c d : Int, e = .returned (.tuple #[.agg #[.int .u64 a, .int .u64 b], .agg #[.int .u64 c, .int .u64 d]]) ∧ IsS a b q ∧ IsS c d r ∧ Below w.heap.size w w'
theorem div_lo {h1 l1 n m : Int} (H1 : IsS h1 l1 n) (m0 : 0 < m) (m1 : m < 18446744073709551616) :
    IsS (h1 / m) ((h1 % m * 18446744073709551616 + l1) / m) (n / m) ∧ IsS 0 ((h1 % m * 18446744073709551616 + l1) % m) (n % m) := by
  obtain ⟨b1, b2, rfl⟩ := H1
  have r0 := Int.emod_nonneg h1 (show m ≠ 0 by omega)
  have r1 := Int.emod_lt_of_pos h1 m0
  have e : h1 * 18446744073709551616 + l1 = (h1 % m * 18446744073709551616 + l1) + m * (h1 / m * 18446744073709551616) := by
    have := Int.mul_ediv_add_emod h1 m
    rw [← Int.mul_assoc]
    generalize m * (h1 / m) = k at *
    omega
  have q0 : 0 ≤ h1 / m := Int.ediv_nonneg b1.1 (by omega)
  have q1 : h1 / m ≤ h1 := Int.ediv_le_self _ b1.1
  have s0 := Int.emod_nonneg (h1 % m * 18446744073709551616 + l1) (show m ≠ 0 by omega)
  have s1 := Int.emod_lt_of_pos (h1 % m * 18446744073709551616 + l1) m0
  have t0 : 0 ≤ (h1 % m * 18446744073709551616 + l1) / m := Int.ediv_nonneg (by omega) (by omega)
  have t1 : (h1 % m * 18446744073709551616 + l1) / m < 18446744073709551616 := Int.ediv_lt_of_lt_mul m0 (by omega)
  constructor
  · refine ⟨by omega, by omega, ?_⟩
    rw [e, Int.add_mul_ediv_left _ _ (by omega)]
    omega
  · refine ⟨by omega, by omega, ?_⟩
    rw [e, Int.add_mul_emod_self_left]
    omega
set_option maxHeartbeats 2000000 in
set_option maxRecDepth 100000 in
theorem divSizes_lo (h1 l1 n l2 : Int) (w : World) (H1 : IsS h1 l1 n) (H2 : IsS 0 l2 l2) (m0 : 0 < l2) :
    Calls Try.prog 80 #[.agg #[.int .u64 h1, .int .u64 l1], .agg #[.int .u64 0, .int .u64 l2]] w (RSS (n / l2) (n % l2) w) := by
  have m1 : l2 < 18446744073709551616 := H2.2.1.2
  have hd := div_lo H1 m0 m1
  have HD := Lib.hid hd
  have b1 := H1.1; have b2 := H1.2.1
  have r0 := Int.emod_nonneg h1 (show l2 ≠ 0 by omega)
  have r1 := Int.emod_lt_of_pos h1 m0
  clear hd
  go_enter Try.func80, Try.ntmps80
  go_wp2_with fail
  refine (div64_any 0 h1 l2 _ (by omega) m0 b1 m1).mono ?_
  rintro e w1 ⟨rfl, hb1⟩
  rw [Int.zero_mul, Int.zero_add]
  have B_w1_0 : Box w1 (w.heap.size) (.int .u64 h1) (.int .u64 l1) := (by (repeat (first | with_reducible assumption | (focus ((with_reducible refine Box.new ?_); simp; done)) | (with_reducible refine Box.alloc ?_ _) | (with_reducible refine Box.drew ?_) | (with_reducible refine Box.put ?_) | (focus ((with_reducible refine Box.set ?_ _ ?_); rotate_left; omega)) | (focus ((with_reducible apply HasBox.of); with_reducible assumption)) | (focus ((with_reducible refine HasBox.new ?_); simp; done)) | (with_reducible refine HasBox.set ?_ _ _) | (with_reducible refine HasBox.drew ?_) | (with_reducible refine HasBox.alloc ?_ _) | (with_reducible refine Box.call ?_ hb1) | (with_reducible refine HasBox.call ?_ hb1)))); obtain ⟨⟨c_w1_0, d_w1_0⟩, f_w1_0, g_w1_0⟩ := id B_w1_0; have B_w1_1 : Box w1 (w.heap.size + 1) (.int .u64 0) (.int .u64 l2) := (by (repeat (first | with_reducible assumption | (focus ((with_reducible refine Box.new ?_); simp; done)) | (with_reducible refine Box.alloc ?_ _) | (with_reducible refine Box.drew ?_) | (with_reducible refine Box.put ?_) | (focus ((with_reducible refine Box.set ?_ _ ?_); rotate_left; omega)) | (focus ((with_reducible apply HasBox.of); with_reducible assumption)) | (focus ((with_reducible refine HasBox.new ?_); simp; done)) | (with_reducible refine HasBox.set ?_ _ _) | (with_reducible refine HasBox.drew ?_) | (with_reducible refine HasBox.alloc ?_ _) | (with_reducible refine Box.call ?_ hb1) | (with_reducible refine HasBox.call ?_ hb1)))); obtain ⟨⟨c_w1_1, d_w1_1⟩, f_w1_1, g_w1_1⟩ := id B_w1_1; have B_w1_2 : Box w1 (w.heap.size + 1 + 1) (.int .u64 0) (.int .u64 0) := (by (repeat (first | with_reducible assumption | (focus ((with_reducible refine Box.new ?_); simp; done)) | (with_reducible refine Box.alloc ?_ _) | (with_reducible refine Box.drew ?_) | (with_reducible refine Box.put ?_) | (focus ((with_reducible refine Box.set ?_ _ ?_); rotate_left; omega)) | (focus ((with_reducible apply HasBox.of); with_reducible assumption)) | (focus ((with_reducible refine HasBox.new ?_); simp; done)) | (with_reducible refine HasBox.set ?_ _ _) | (with_reducible refine HasBox.drew ?_) | (with_reducible refine HasBox.alloc ?_ _) | (with_reducible refine Box.call ?_ hb1) | (with_reducible refine HasBox.call ?_ hb1)))); obtain ⟨⟨c_w1_2, d_w1_2⟩, f_w1_2, g_w1_2⟩ := id B_w1_2; have B_w1_3 : Box w1 (w.heap.size + 1 + 1 + 1) (.int .u64 0) (.int .u64 0) := (by (repeat (first | with_reducible assumption | (focus ((with_reducible refine Box.new ?_); simp; done)) | (with_reducible refine Box.alloc ?_ _) | (with_reducible refine Box.drew ?_) | (with_reducible refine Box.put ?_) | (focus ((with_reducible refine Box.set ?_ _ ?_); rotate_left; omega)) | (focus ((with_reducible apply HasBox.of); with_reducible assumption)) | (focus ((with_reducible refine HasBox.new ?_); simp; done)) | (with_reducible refine HasBox.set ?_ _ _) | (with_reducible refine HasBox.drew ?_) | (with_reducible refine HasBox.alloc ?_ _) | (with_reducible refine Box.call ?_ hb1) | (with_reducible refine HasBox.call ?_ hb1)))); obtain ⟨⟨c_w1_3, d_w1_3⟩, f_w1_3, g_w1_3⟩ := id B_w1_3; have hz_hb1 := Below.size hb1; (try simp at hz_hb1); have ne_hb1_0 : ¬ w1.heap.size = w.heap.size := (by omega); have ne_hb1_1 : ¬ w1.heap.size = w.heap.size + 1 := (by omega); have ne_hb1_2 : ¬ w1.heap.size = w.heap.size + 1 + 1 := (by omega); have ne_hb1_3 : ¬ w1.heap.size = w.heap.size + 1 + 1 + 1 := (by omega); have en_hb1_0 : ¬ w.heap.size = w1.heap.size := (by omega); have en_hb1_1 : ¬ w.heap.size + 1 = w1.heap.size := (by omega); have en_hb1_2 : ¬ w.heap.size + 1 + 1 = w1.heap.size := (by omega); have en_hb1_3 : ¬ w.heap.size + 1 + 1 + 1 = w1.heap.size := (by omega); have lt_hb1_0 : w.heap.size < w1.heap.size := (by omega); have lt_hb1_1 : w.heap.size + 1 < w1.heap.size := (by omega); have lt_hb1_2 : w.heap.size + 1 + 1 < w1.heap.size := (by omega); have lt_hb1_3 : w.heap.size + 1 + 1 + 1 < w1.heap.size := (by omega)
  generalize h1 % l2 = R at *
  generalize h1 / l2 = Q at *
  go_wp2_with fail
  refine (div64_any R l1 l2 _ r0 r1 b2 m1).mono ?_
  rintro e w2 ⟨rfl, hb2⟩
  have B_w2_0 : Box w2 (w.heap.size) (.int .u64 h1) (.int .u64 l1) := (by (repeat (first | with_reducible assumption | (focus ((with_reducible refine Box.new ?_); simp; done)) | (with_reducible refine Box.alloc ?_ _) | (with_reducible refine Box.drew ?_) | (with_reducible refine Box.put ?_) | (focus ((with_reducible refine Box.set ?_ _ ?_); rotate_left; omega)) | (focus ((with_reducible apply HasBox.of); with_reducible assumption)) | (focus ((with_reducible refine HasBox.new ?_); simp; done)) | (with_reducible refine HasBox.set ?_ _ _) | (with_reducible refine HasBox.drew ?_) | (with_reducible refine HasBox.alloc ?_ _) | (with_reducible refine Box.call ?_ hb2) | (with_reducible refine HasBox.call ?_ hb2) | (with_reducible refine Box.call ?_ hb1) | (with_reducible refine HasBox.call ?_ hb1)))); obtain ⟨⟨c_w2_0, d_w2_0⟩, f_w2_0, g_w2_0⟩ := id B_w2_0; have B_w2_1 : Box w2 (w.heap.size + 1) (.int .u64 0) (.int .u64 l2) := (by (repeat (first | with_reducible assumption | (focus ((with_reducible refine Box.new ?_); simp; done)) | (with_reducible refine Box.alloc ?_ _) | (with_reducible refine Box.drew ?_) | (with_reducible refine Box.put ?_) | (focus ((with_reducible refine Box.set ?_ _ ?_); rotate_left; omega)) | (focus ((with_reducible apply HasBox.of); with_reducible assumption)) | (focus ((with_reducible refine HasBox.new ?_); simp; done)) | (with_reducible refine HasBox.set ?_ _ _) | (with_reducible refine HasBox.drew ?_) | (with_reducible refine HasBox.alloc ?_ _) | (with_reducible refine Box.call ?_ hb2) | (with_reducible refine HasBox.call ?_ hb2) | (with_reducible refine Box.call ?_ hb1) | (with_reducible refine HasBox.call ?_ hb1)))); obtain ⟨⟨c_w2_1, d_w2_1⟩, f_w2_1, g_w2_1⟩ := id B_w2_1; have B_w2_2 : Box w2 (w.heap.size + 1 + 1) (.int .u64 0) (.int .u64 0) := (by (repeat (first | with_reducible assumption | (focus ((with_reducible refine Box.new ?_); simp; done)) | (with_reducible refine Box.alloc ?_ _) | (with_reducible refine Box.drew ?_) | (with_reducible refine Box.put ?_) | (focus ((with_reducible refine Box.set ?_ _ ?_); rotate_left; omega)) | (focus ((with_reducible apply HasBox.of); with_reducible assumption)) | (focus ((with_reducible refine HasBox.new ?_); simp; done)) | (with_reducible refine HasBox.set ?_ _ _) | (with_reducible refine HasBox.drew ?_) | (with_reducible refine HasBox.alloc ?_ _) | (with_reducible refine Box.call ?_ hb2) | (with_reducible refine HasBox.call ?_ hb2) | (with_reducible refine Box.call ?_ hb1) | (with_reducible refine HasBox.call ?_ hb1)))); obtain ⟨⟨c_w2_2, d_w2_2⟩, f_w2_2, g_w2_2⟩ := id B_w2_2; have B_w2_3 : Box w2 (w.heap.size + 1 + 1 + 1) (.int .u64 0) (.int .u64 0) := (by (repeat (first | with_reducible assumption | (focus ((with_reducible refine Box.new ?_); simp; done)) | (with_reducible refine Box.alloc ?_ _) | (with_reducible refine Box.drew ?_) | (with_reducible refine Box.put ?_) | (focus ((with_reducible refine Box.set ?_ _ ?_); rotate_left; omega)) | (focus ((with_reducible apply HasBox.of); with_reducible assumption)) | (focus ((with_reducible refine HasBox.new ?_); simp; done)) | (with_reducible refine HasBox.set ?_ _ _) | (with_reducible refine HasBox.drew ?_) | (with_reducible refine HasBox.alloc ?_ _) | (with_reducible refine Box.call ?_ hb2) | (with_reducible refine HasBox.call ?_ hb2) | (with_reducible refine Box.call ?_ hb1) | (with_reducible refine HasBox.call ?_ hb1)))); obtain ⟨⟨c_w2_3, d_w2_3⟩, f_w2_3, g_w2_3⟩ := id B_w2_3; have hz_hb2 := Below.size hb2; (try simp at hz_hb2); have ne_hb2_0 : ¬ w2.heap.size = w.heap.size := (by omega); have ne_hb2_1 : ¬ w2.heap.size = w.heap.size + 1 := (by omega); have ne_hb2_2 : ¬ w2.heap.size = w.heap.size + 1 + 1 := (by omega); have ne_hb2_3 : ¬ w2.heap.size = w.heap.size + 1 + 1 + 1 := (by omega); have en_hb2_0 : ¬ w.heap.size = w2.heap.size := (by omega); have en_hb2_1 : ¬ w.heap.size + 1 = w2.heap.size := (by omega); have en_hb2_2 : ¬ w.heap.size + 1 + 1 = w2.heap.size := (by omega); have en_hb2_3 : ¬ w.heap.size + 1 + 1 + 1 = w2.heap.size := (by omega); have lt_hb2_0 : w.heap.size < w2.heap.size := (by omega); have lt_hb2_1 : w.heap.size + 1 < w2.heap.size := (by omega); have lt_hb2_2 : w.heap.size + 1 + 1 < w2.heap.size := (by omega); have lt_hb2_3 : w.heap.size + 1 + 1 + 1 < w2.heap.size := (by omega)
  generalize (R * 18446744073709551616 + l1) / l2 = Q2 at *
  generalize (R * 18446744073709551616 + l1) % l2 = R2 at *
  go_wp2_with fail
  refine bodyPost_ret (v := .tuple #[.agg #[.int .u64 Q, .int .u64 Q2], .agg #[.int .u64 0, .int .u64 R2]]) (by simp only [results, Try.results80]; go_simp) rfl ⟨_, _, _, _, rfl, HD.out.1, HD.out.2, ?_⟩
  (repeat (first | (with_reducible exact Below.refl _ _) | with_reducible assumption | (with_reducible refine below_alloc ?_ _) | (focus ((with_reducible refine below_set ?_ _ _ _ ?_); rotate_left; omega)) | (with_reducible refine Below.drew ?_) | (with_reducible refine below_call ?_ hb2) | (with_reducible refine below_call ?_ hb1)))
end Go.Proofs.Ytinjgiigmlikpaa
