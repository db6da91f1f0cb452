/-
  Contracts of package frac: Cmp. My own text.
-/
import Derived.Test.YtinjgiigmlikpaaFracE
import Derived.Deep.LoopGhost
import Derived.Deep.DeepCutAuto
namespace Go.Proofs.Ytinjgiigmlikpaa
open Go.RowKit
set_option linter.unusedVariables false
attribute [local go_sem ↓] Go.wp_at_zero Go.wp_at_succ

theorem icmp_sub (a b c d : Int) (h : a - b = c - d) : icmp a b = icmp c d := by
  unfold icmp
  repeat' split
  all_goals omega
theorem cmp_whole {N0 N1 D0 D1 q0 q1 r0 r1 : Int} (h0 : D0 * q0 + r0 = N0) (h1 : D1 * q1 + r1 = N1) (p0 : 0 < D0) (p1 : 0 < D1) (a0 : 0 ≤ r0) (a1 : r0 < D0) (b0 : 0 ≤ r1) (b1 : r1 < D1) (hq : q0 < q1) : N0 * D1 < N1 * D0 := by
  have k1 : N0 * D1 < (D0 * (q0 + 1)) * D1 := Int.mul_lt_mul_of_pos_right (by rw [Int.mul_add]; omega) p1
  have k2 : (D1 * q1) * D0 ≤ N1 * D0 := Int.mul_le_mul_of_nonneg_right (by omega) (by omega)
  have k3 : (q0 + 1) * (D0 * D1) ≤ q1 * (D0 * D1) := Int.mul_le_mul_of_nonneg_right (by omega) (Int.le_of_lt (Int.mul_pos p0 p1))
  have e1 : (D0 * (q0 + 1)) * D1 = (q0 + 1) * (D0 * D1) := by rw [Int.mul_comm D0 (q0 + 1), Int.mul_assoc]
  have e2 : (D1 * q1) * D0 = q1 * (D0 * D1) := by rw [Int.mul_comm D1 q1, Int.mul_assoc, Int.mul_comm D1 D0]
  omega
theorem cmp_q {N0 N1 D0 D1 : Int} (p0 : 0 < D0) (p1 : 0 < D1) (hq : N0 / D0 ≠ N1 / D1) : icmp (N0 * D1) (N1 * D0) = icmp (N0 / D0) (N1 / D1) := by
  have h0 := Int.mul_ediv_add_emod N0 D0; have h1 := Int.mul_ediv_add_emod N1 D1
  have a0 := Int.emod_nonneg N0 (show D0 ≠ 0 by omega); have a1 := Int.emod_lt_of_pos N0 p0
  have b0 := Int.emod_nonneg N1 (show D1 ≠ 0 by omega); have b1 := Int.emod_lt_of_pos N1 p1
  rcases Int.lt_or_lt_of_ne hq with q | q
  · rw [icmp_lt q, icmp_lt (cmp_whole h0 h1 p0 p1 a0 a1 b0 b1 q)]
  · rw [icmp_gt q, icmp_gt (cmp_whole h1 h0 p1 p0 b0 b1 a0 a1 q)]
theorem cmp_r {N0 N1 D0 D1 : Int} (hq : N0 / D0 = N1 / D1) : icmp (N0 * D1) (N1 * D0) = icmp (D1 * (N0 % D0)) (D0 * (N1 % D1)) := by
  have h0 := Int.mul_ediv_add_emod N0 D0; have h1 := Int.mul_ediv_add_emod N1 D1
  apply icmp_sub
  generalize N0 % D0 = r0 at *
  generalize N1 % D1 = r1 at *
  rw [hq] at h0
  generalize N1 / D1 = q at *
  have e1 : N0 * D1 = q * (D0 * D1) + D1 * r0 := by rw [← h0, Int.add_mul, Int.mul_comm r0 D1, Int.mul_comm D0 q, Int.mul_assoc]
  have e2 : N1 * D0 = q * (D0 * D1) + D0 * r1 := by rw [← h1, Int.add_mul, Int.mul_comm r1 D0, Int.mul_comm D1 q, Int.mul_assoc, Int.mul_comm D1 D0]
  omega
theorem cmp_z {D0 D1 r0 r1 : Int} (p0 : 0 < D0) (p1 : 0 < D1) (a0 : 0 ≤ r0) (b0 : 0 ≤ r1) (h : r0 = 0 ∨ r1 = 0) : icmp (D1 * r0) (D0 * r1) = icmp r0 r1 := by
  rcases Int.lt_or_eq_of_le a0 with q | q
  · have e : r1 = 0 := by omega
    have := Int.mul_pos p1 q
    rw [e, Int.mul_zero, icmp_gt q, icmp_gt this]
  · rw [← q, Int.mul_zero]
    rcases Int.lt_or_eq_of_le b0 with s | s
    · have := Int.mul_pos p0 s
      rw [icmp_lt s, icmp_lt this]
    · rw [← s, Int.mul_zero]
theorem Box4.put4 {W : World} {b : Nat} {u v x y u' v' x' y' : Value} (h : Box4 W b u v x y) : Box4 ((((W.setCell ⟨b, 0, none⟩ u').setCell ⟨b, 1, none⟩ v').setCell ⟨b, 2, none⟩ x').setCell ⟨b, 3, none⟩ y') b u' v' x' y' := (h.put01).put23
/-- what Cmp keeps from round to round: g, g': the two rows' blocks; C: what is to be told; k: what bounds the rounds. -/
def CmpR (w : World) (g g' : Nat) (C : Int) (k : Nat) (W : World) : Prop := ∃ a0 b0 n0 a1 b1 n1 c0 e0 d0 c1 e1 d1 : Int,
  Box4 W g (.int .i64 a0) (.int .u64 b0) (.int .i64 a1) (.int .u64 b1) ∧ Box4 W g' (.int .i64 c0) (.int .u64 e0) (.int .i64 c1) (.int .u64 e1) ∧ (IsW a0 b0 n0 ∧ IsW a1 b1 n1 ∧ IsW c0 e0 d0 ∧ IsW c1 e1 d1) ∧ (0 < d0 ∧ 0 < d1 ∧ d0 + d1 ≤ k) ∧ icmp (n0 * d1) (n1 * d0) = C ∧ Below w.heap.size w W
/-- two rows in new blocks. -/
def CmpC (w : World) (C : Int) (k : Nat) (s t : Value) (W : World) : Prop := ∃ g g', s = .pointer (some ⟨g, 0, none⟩) ∧ t = .pointer (some ⟨g', 0, none⟩) ∧ g ≠ g' ∧ w.heap.size < g ∧ w.heap.size < g' ∧ CmpR w g g' C k W
set_option maxHeartbeats 2000000 in
set_option maxRecDepth 100000 in
theorem fCmp_yes (a0 b0 n0 c0 e0 d0 a1 b1 n1 c1 e1 d1 : Int) (w : World) (H0 : IsW a0 b0 n0) (G0 : IsW c0 e0 d0) (H1 : IsW a1 b1 n1) (G1 : IsW c1 e1 d1) (p0 : 0 < d0) (p1 : 0 < d1) :
    Calls Try.prog 28 #[.agg #[.int .i64 a0, .int .u64 b0, .int .i64 c0, .int .u64 e0], .agg #[.int .i64 a1, .int .u64 b1, .int .i64 c1, .int .u64 e1]] w (RV (.int .i64 (icmp (n0 * d1) (n1 * d0))) w) := by
  have R0 : Hid (∀ w, Calls Try.prog 19 #[.agg #[.int .i64 a0, .int .u64 b0, .int .i64 c0, .int .u64 e0]] w (RV (.bool true) w)) := fun w => by have := Right_any a0 b0 c0 e0 d0 w G0; rw [decide_eq_true p0] at this; exact this
  have R1 : Hid (∀ w, Calls Try.prog 19 #[.agg #[.int .i64 a1, .int .u64 b1, .int .i64 c1, .int .u64 e1]] w (RV (.bool true) w)) := fun w => by have := Right_any a1 b1 c1 e1 d1 w G1; rw [decide_eq_true p1] at this; exact this
  generalize hC : icmp (n0 * d1) (n1 * d0) = C
  have HC := Lib.hid hC
  clear hC
  go_enter Try.func28, Try.ntmps28
  go_wp2_with fail
  refine (R0.out _).mono ?_
  rintro e w1 ⟨rfl, hb1⟩
  have Q1 : Box4 w1 (w.heap.size + 1) (.int .i64 a1) (.int .u64 b1) (.int .i64 c1) (.int .u64 e1) := (by (repeat (first | with_reducible assumption | (focus ((with_reducible refine Box.new ?_); simp; done)) | (focus ((with_reducible refine Box4.new ?_); simp; done)) | (with_reducible refine Box.alloc ?_ _) | (with_reducible refine Box4.alloc ?_ _) | (with_reducible refine Box.drew ?_) | (with_reducible refine Box4.drew ?_) | (with_reducible refine Box.put ?_) | (focus ((with_reducible refine Box.set ?_ _ ?_); rotate_left; omega)) | (focus ((with_reducible refine Box4.set ?_ _ ?_); rotate_left; omega)) | (focus ((with_reducible apply HasBox.of); with_reducible assumption)) | (focus ((with_reducible refine HasBox.new ?_); simp; done)) | (with_reducible refine HasBox.set ?_ _ _) | (with_reducible refine HasBox.drew ?_) | (with_reducible refine HasBox.alloc ?_ _) | (with_reducible refine Box.call ?_ hb1) | (with_reducible refine Box4.call ?_ hb1) | (with_reducible refine HasBox.call ?_ hb1))))
  obtain ⟨⟨x0, x1, x2, x3⟩, x4⟩ := id Q1
  go_wp2_with fail
  refine (R1.out _).mono ?_
  rintro e w2 ⟨rfl, hb2⟩
  have Z0 : Box4 w2 w.heap.size (.int .i64 a0) (.int .u64 b0) (.int .i64 c0) (.int .u64 e0) := (by (repeat (first | with_reducible assumption | (focus ((with_reducible refine Box.new ?_); simp; done)) | (focus ((with_reducible refine Box4.new ?_); simp; done)) | (with_reducible refine Box.alloc ?_ _) | (with_reducible refine Box4.alloc ?_ _) | (with_reducible refine Box.drew ?_) | (with_reducible refine Box4.drew ?_) | (with_reducible refine Box.put ?_) | (focus ((with_reducible refine Box.set ?_ _ ?_); rotate_left; omega)) | (focus ((with_reducible refine Box4.set ?_ _ ?_); rotate_left; omega)) | (focus ((with_reducible apply HasBox.of); with_reducible assumption)) | (focus ((with_reducible refine HasBox.new ?_); simp; done)) | (with_reducible refine HasBox.set ?_ _ _) | (with_reducible refine HasBox.drew ?_) | (with_reducible refine HasBox.alloc ?_ _) | (with_reducible refine Box.call ?_ hb2) | (with_reducible refine Box4.call ?_ hb2) | (with_reducible refine HasBox.call ?_ hb2) | (with_reducible refine Box.call ?_ hb1) | (with_reducible refine Box4.call ?_ hb1) | (with_reducible refine HasBox.call ?_ hb1))))
  have Z1 : Box4 w2 (w.heap.size + 1) (.int .i64 a1) (.int .u64 b1) (.int .i64 c1) (.int .u64 e1) := (by (repeat (first | with_reducible assumption | (focus ((with_reducible refine Box.new ?_); simp; done)) | (focus ((with_reducible refine Box4.new ?_); simp; done)) | (with_reducible refine Box.alloc ?_ _) | (with_reducible refine Box4.alloc ?_ _) | (with_reducible refine Box.drew ?_) | (with_reducible refine Box4.drew ?_) | (with_reducible refine Box.put ?_) | (focus ((with_reducible refine Box.set ?_ _ ?_); rotate_left; omega)) | (focus ((with_reducible refine Box4.set ?_ _ ?_); rotate_left; omega)) | (focus ((with_reducible apply HasBox.of); with_reducible assumption)) | (focus ((with_reducible refine HasBox.new ?_); simp; done)) | (with_reducible refine HasBox.set ?_ _ _) | (with_reducible refine HasBox.drew ?_) | (with_reducible refine HasBox.alloc ?_ _) | (with_reducible refine Box.call ?_ hb2) | (with_reducible refine Box4.call ?_ hb2) | (with_reducible refine HasBox.call ?_ hb2) | (with_reducible refine Box.call ?_ hb1) | (with_reducible refine Box4.call ?_ hb1) | (with_reducible refine HasBox.call ?_ hb1))))
  have bl : Below w.heap.size w w2 := (by (repeat (first | (with_reducible exact Below.refl _ _) | with_reducible assumption | (with_reducible refine below_alloc ?_ _) | (focus ((with_reducible refine below_set ?_ _ _ _ ?_); rotate_left; omega)) | (with_reducible refine Below.drew ?_) | (with_reducible refine below_call ?_ hb2) | (with_reducible refine below_call ?_ hb1))))
  clear hb1 hb2 Q1 x0 x1 x2 x3 x4
  have l0 := Z0.lt; have l1 := Z1.lt
  obtain ⟨⟨x0, x1, x2, x3⟩, y0, y1, y2, y3⟩ := id Z0
  obtain ⟨⟨x4, x5, x6, x7⟩, y4, y5, y6, y7⟩ := id Z1
  go_upto_region 3 with fail
  go_cut [5, 6] (fun s5 s6 wx => CmpC w C (d0 + d1).toNat s5 s6 wx)
  case first =>
    go_region_held3 (fun w' => (w'.cell? ⟨w.heap.size, 0, none⟩ = some (.int .i64 a0) ∧ w'.cell? ⟨w.heap.size, 1, none⟩ = some (.int .u64 b0) ∧ w'.cell? ⟨w.heap.size, 2, none⟩ = some (.int .i64 c0) ∧ w'.cell? ⟨w.heap.size, 3, none⟩ = some (.int .u64 e0)) ∧ (w'.cell? ⟨w.heap.size + 1, 0, none⟩ = some (.int .i64 a1) ∧ w'.cell? ⟨w.heap.size + 1, 1, none⟩ = some (.int .u64 b1) ∧ w'.cell? ⟨w.heap.size + 1, 2, none⟩ = some (.int .i64 c1) ∧ w'.cell? ⟨w.heap.size + 1, 3, none⟩ = some (.int .u64 e1)))
      (first | (refine And.intro (Box4.cs ?_) (Box4.cs ?_) <;> ((repeat (first | with_reducible assumption | (focus ((with_reducible refine Box.new ?_); simp; done)) | (focus ((with_reducible refine Box4.new ?_); simp; done)) | (with_reducible refine Box.alloc ?_ _) | (with_reducible refine Box4.alloc ?_ _) | (with_reducible refine Box.drew ?_) | (with_reducible refine Box4.drew ?_) | (with_reducible refine Box.put ?_) | (focus ((with_reducible refine Box.set ?_ _ ?_); rotate_left; omega)) | (focus ((with_reducible refine Box4.set ?_ _ ?_); rotate_left; omega)) | (focus ((with_reducible apply HasBox.of); with_reducible assumption)) | (focus ((with_reducible refine HasBox.new ?_); simp; done)) | (with_reducible refine HasBox.set ?_ _ _) | (with_reducible refine HasBox.drew ?_) | (with_reducible refine HasBox.alloc ?_ _))); done)) | go_keep) (fail)
    all_goals
      go_wp2_with fail
      go_meet
      refine ⟨_, _, rfl, rfl, by omega, by omega, by omega, a0, b0, n0, a1, b1, n1, c0, e0, d0, c1, e1, d1, ?_, ?_, ⟨H0, H1, G0, G1⟩, ⟨p0, p1, by omega⟩, HC.out, ?_⟩
      · (repeat (first | with_reducible assumption | (focus ((with_reducible refine Box.new ?_); simp; done)) | (focus ((with_reducible refine Box4.new ?_); simp; done)) | (with_reducible refine Box.alloc ?_ _) | (with_reducible refine Box4.alloc ?_ _) | (with_reducible refine Box.drew ?_) | (with_reducible refine Box4.drew ?_) | (with_reducible refine Box.put ?_) | (focus ((with_reducible refine Box.set ?_ _ ?_); rotate_left; omega)) | (focus ((with_reducible refine Box4.set ?_ _ ?_); rotate_left; omega)) | (focus ((with_reducible apply HasBox.of); with_reducible assumption)) | (focus ((with_reducible refine HasBox.new ?_); simp; done)) | (with_reducible refine HasBox.set ?_ _ _) | (with_reducible refine HasBox.drew ?_) | (with_reducible refine HasBox.alloc ?_ _)))
      · (repeat (first | with_reducible assumption | (focus ((with_reducible refine Box.new ?_); simp; done)) | (focus ((with_reducible refine Box4.new ?_); simp; done)) | (with_reducible refine Box.alloc ?_ _) | (with_reducible refine Box4.alloc ?_ _) | (with_reducible refine Box.drew ?_) | (with_reducible refine Box4.drew ?_) | (with_reducible refine Box.put ?_) | (focus ((with_reducible refine Box.set ?_ _ ?_); rotate_left; omega)) | (focus ((with_reducible refine Box4.set ?_ _ ?_); rotate_left; omega)) | (focus ((with_reducible apply HasBox.of); with_reducible assumption)) | (focus ((with_reducible refine HasBox.new ?_); simp; done)) | (with_reducible refine HasBox.set ?_ _ _) | (with_reducible refine HasBox.drew ?_) | (with_reducible refine HasBox.alloc ?_ _)))
      · (repeat (first | (with_reducible exact Below.refl _ _) | with_reducible assumption | (with_reducible refine below_alloc ?_ _) | (focus ((with_reducible refine below_set ?_ _ _ _ ?_); rotate_left; omega)) | (with_reducible refine Below.drew ?_)))
  case rest =>
    obtain ⟨g5, g6, rfl, rfl, h56, hg5, hg6, hR⟩ := hcut
    clear x0 x1 x2 x3 x4 x5 x6 x7 y0 y1 y2 y3 y4 y5 y6 y7 Z0 Z1 bl l0 l1 H0 H1 G0 G1 p0 p1 R0 R1 HC
    have n1' : ¬ (g5 = g6) := h56
    have n2' : ¬ (g6 = g5) := fun e => h56 e.symm
    go_wp2_with fail
    go_loopg [] (d0 + d1).toNat (fun gk wr => CmpR w g5 g6 C gk wr)
    case atStart => exact hR
    case round =>
      obtain ⟨a0, b0, n0, a1, b1, n1, c0, e0, d0, c1, e1, d1, Z0, Z1, ⟨H0, H1, G0, G1⟩, ⟨p0, p1, hgk⟩, hC, bl⟩ := hrel
      clear hR
      have HC := Lib.hid hC
      have HK := Lib.hid hgk
      clear hC hgk
      have l0 := Z0.lt; have l1 := Z1.lt
      obtain ⟨⟨x0, x1, x2, x3⟩, y0, y1, y2, y3⟩ := id Z0
      obtain ⟨⟨x4, x5, x6, x7⟩, y4, y5, y6, y7⟩ := id Z1
      have r0 := Int.emod_nonneg n0 (show d0 ≠ 0 by omega); have r0' := Int.emod_lt_of_pos n0 p0
      have r1 := Int.emod_nonneg n1 (show d1 ≠ 0 by omega); have r1' := Int.emod_lt_of_pos n1 p1
      go_wp2_with fail
      refine (divBoth_any _ _ _ _ _ _ _ _ _ _ _ _ _ H0 H1 G0 G1 p0 p1).mono ?_
      rintro e w1 ⟨q0, q1, q2, q3, s0, s1, s2, s3, rfl, hq0, hq1, hs0, hs1, hb1⟩
      have Y0 := Z0.call hb1; have Y1 := Z1.call hb1
      have bl1 := below_call bl hb1
      clear hb1 x0 x1 x2 x3 x4 x5 x6 x7 y0 y1 y2 y3 y4 y5 y6 y7 Z0 Z1 l0 l1 bl
      have l0 := Y0.lt; have l1 := Y1.lt
      have Q0 : Box4 ((w1.alloc (.cells #[.int .i64 q0, .int .u64 q1, .int .i64 q2, .int .u64 q3] 96)).alloc (.cells #[.int .i64 s0, .int .u64 s1, .int .i64 s2, .int .u64 s3] 96)) (w1.heap.size + 1) (.int .i64 s0) (.int .u64 s1) (.int .i64 s2) (.int .u64 s3) := (by (repeat (first | with_reducible assumption | (focus ((with_reducible refine Box.new ?_); simp; done)) | (focus ((with_reducible refine Box4.new ?_); simp; done)) | (with_reducible refine Box.alloc ?_ _) | (with_reducible refine Box4.alloc ?_ _) | (with_reducible refine Box.drew ?_) | (with_reducible refine Box4.drew ?_) | (with_reducible refine Box.put ?_) | (focus ((with_reducible refine Box.set ?_ _ ?_); rotate_left; omega)) | (focus ((with_reducible refine Box4.set ?_ _ ?_); rotate_left; omega)) | (focus ((with_reducible apply HasBox.of); with_reducible assumption)) | (focus ((with_reducible refine HasBox.new ?_); simp; done)) | (with_reducible refine HasBox.set ?_ _ _) | (with_reducible refine HasBox.drew ?_) | (with_reducible refine HasBox.alloc ?_ _))))
      have Y2 := (Y0.alloc (.cells #[.int .i64 q0, .int .u64 q1, .int .i64 q2, .int .u64 q3] 96)).alloc (.cells #[.int .i64 s0, .int .u64 s1, .int .i64 s2, .int .u64 s3] 96)
      have Y3 := (Y1.alloc (.cells #[.int .i64 q0, .int .u64 q1, .int .i64 q2, .int .u64 q3] 96)).alloc (.cells #[.int .i64 s0, .int .u64 s1, .int .i64 s2, .int .u64 s3] 96)
      have bl2 := below_alloc (below_alloc bl1 (.cells #[.int .i64 q0, .int .u64 q1, .int .i64 q2, .int .u64 q3] 96)) (.cells #[.int .i64 s0, .int .u64 s1, .int .i64 s2, .int .u64 s3] 96)
      go_wp2_with fail
      refine (Cmp_any _ _ _ _ _ _ _ hq0 hq1).mono ?_
      rintro e w2 ⟨rfl, hb2⟩
      replace Q0 := Q0.call hb2; replace Y2 := Y2.call hb2; replace Y3 := Y3.call hb2; replace bl2 := below_call bl2 hb2
      clear hb2
      have m0 := Q0.lt
      by_cases hq : n0 / d0 = n1 / d1
      · rw [icmp_eq hq]
        have hr := cmp_r (N0 := n0) (N1 := n1) (D0 := d0) (D1 := d1) hq
        rw [HC.out] at hr
        have HR := Lib.hid hr
        clear hr
        obtain ⟨⟨t0, t1, t2, t3⟩, t4⟩ := id Q0
        generalize hR0 : n0 % d0 = R0 at *
        generalize hR1 : n1 % d1 = R1 at *
        clear hR0 hR1
        by_cases z0 : R0 = 0
        · have fz := Lib.hid (cmp_z (D0 := d0) (D1 := d1) p0 p1 r0 r1 (.inl z0))
          have S0 : Hid (∀ w, Calls Try.prog 24 #[.agg #[.int .i64 s0, .int .u64 s1]] w (RV (.int .i64 0) w)) := fun w => by have := Sign_any s0 s1 _ w hs0; rw [icmp_eq z0] at this; exact this
          clear z0
          go_wp2_with fail
          refine (S0.out _).mono ?_
          rintro e w3 ⟨rfl, hb3⟩
          replace Q0 := Q0.call hb3; replace bl2 := below_call bl2 hb3
          clear hb3 t0 t1 t2 t3 t4
          obtain ⟨⟨t0, t1, t2, t3⟩, t4⟩ := id Q0
          go_wp2_with fail
          refine (Cmp_any _ _ _ _ _ _ _ hs0 hs1).mono ?_
          rintro e w4 ⟨rfl, hb4⟩
          go_wp2_with fail
          go_ret
          exact ⟨ret_int (by rw [← fz.out]; exact HR.out.symm), below_call bl2 hb4⟩
        · have i0 : 0 < R0 := by omega
          have S0 : Hid (∀ w, Calls Try.prog 24 #[.agg #[.int .i64 s0, .int .u64 s1]] w (RV (.int .i64 1) w)) := fun w => by have := Sign_any s0 s1 _ w hs0; rw [icmp_gt i0] at this; exact this
          go_wp2_with fail
          refine (S0.out _).mono ?_
          rintro e w3 ⟨rfl, hb3⟩
          replace Q0 := Q0.call hb3; replace Y2 := Y2.call hb3; replace Y3 := Y3.call hb3; replace bl2 := below_call bl2 hb3
          clear hb3 t0 t1 t2 t3 t4
          obtain ⟨⟨t0, t1, t2, t3⟩, t4⟩ := id Q0
          by_cases z1 : R1 = 0
          · have fz := Lib.hid (cmp_z (D0 := d0) (D1 := d1) p0 p1 r0 r1 (.inr z1))
            have S1 : Hid (∀ w, Calls Try.prog 24 #[.agg #[.int .i64 s2, .int .u64 s3]] w (RV (.int .i64 0) w)) := fun w => by have := Sign_any s2 s3 _ w hs1; rw [icmp_eq z1] at this; exact this
            clear z1
            go_wp2_with fail
            refine (S1.out _).mono ?_
            rintro e w4 ⟨rfl, hb4⟩
            replace Q0 := Q0.call hb4; replace bl2 := below_call bl2 hb4
            clear hb4 t0 t1 t2 t3 t4
            obtain ⟨⟨t0, t1, t2, t3⟩, t4⟩ := id Q0
            go_wp2_with fail
            refine (Cmp_any _ _ _ _ _ _ _ hs0 hs1).mono ?_
            rintro e w5 ⟨rfl, hb5⟩
            go_wp2_with fail
            go_ret
            exact ⟨ret_int (by rw [← fz.out]; exact HR.out.symm), below_call bl2 hb5⟩
          · have i1 : 0 < R1 := by omega
            have S1 : Hid (∀ w, Calls Try.prog 24 #[.agg #[.int .i64 s2, .int .u64 s3]] w (RV (.int .i64 1) w)) := fun w => by have := Sign_any s2 s3 _ w hs1; rw [icmp_gt i1] at this; exact this
            go_wp2_with fail
            refine (S1.out _).mono ?_
            rintro e w4 ⟨rfl, hb4⟩
            replace Q0 := Q0.call hb4; replace Y2 := Y2.call hb4; replace Y3 := Y3.call hb4; replace bl2 := below_call bl2 hb4
            clear hb4 t0 t1 t2 t3 t4
            obtain ⟨⟨t0, t1, t2, t3⟩, t4, t5, t6, t7⟩ := id Q0
            obtain ⟨⟨x0, x1, x2, x3⟩, y0, y1, y2, y3⟩ := id Y2
            obtain ⟨⟨x4, x5, x6, x7⟩, y4, y5, y6, y7⟩ := id Y3
            have u1 : ¬ (g5 = w1.heap.size + 1) := by omega
            have u2 : ¬ (g6 = w1.heap.size + 1) := by omega
            have u3 : ¬ (w1.heap.size + 1 = g5) := by omega
            have u4 : ¬ (w1.heap.size + 1 = g6) := by omega
            go_wp2_with fail
            go_region
            all_goals
              go_wp2_with fail
              go_roundg (R0 + R1).toNat
              case measure => have := HK.out; omega
              case rel =>
                refine ⟨_, _, d1, _, _, d0, _, _, R1, _, _, R0, ?_, ?_, ⟨G1, G0, hs1, hs0⟩, ⟨i1, i0, by omega⟩, HR.out.symm, ?_⟩
                · with_reducible exact (((((Y2.put4).set _ n2').set _ n2').set _ n2').set _ n2').drew
                · with_reducible exact (((((Y3.set _ n1').set _ n1').set _ n1').set _ n1').put4).drew
                · (repeat (first | (with_reducible exact Below.refl _ _) | with_reducible assumption | (with_reducible refine below_alloc ?_ _) | (focus ((with_reducible refine below_set ?_ _ _ _ ?_); rotate_left; omega)) | (with_reducible refine Below.drew ?_)))
      · have hC := cmp_q (N0 := n0) (N1 := n1) p0 p1 hq
        rw [HC.out] at hC
        have HD := Lib.hid hC
        have hz : (icmp (n0 / d0) (n1 / d1) != 0) = true := by
          rcases Int.lt_or_lt_of_ne hq with q | q
          · rw [icmp_lt q]; rfl
          · rw [icmp_gt q]; rfl
        clear hC
        generalize icmp (n0 / d0) (n1 / d1) = cc at *
        go_wp2_with fail
        go_ret
        exact ⟨ret_int HD.out.symm, bl2⟩
/-- what Cmp tells. -/
def cmpv (n0 d0 n1 d1 : Int) : Int := if 0 < d0 ∧ 0 < d1 then icmp (n0 * d1) (n1 * d0) else 0
set_option maxHeartbeats 1000000 in
theorem fCmp_no0 (a0 b0 c0 e0 d0 a1 b1 c1 e1 : Int) (w : World) (G0 : IsW c0 e0 d0) (p0 : ¬ 0 < d0) :
    Calls Try.prog 28 #[.agg #[.int .i64 a0, .int .u64 b0, .int .i64 c0, .int .u64 e0], .agg #[.int .i64 a1, .int .u64 b1, .int .i64 c1, .int .u64 e1]] w (RV (.int .i64 0) w) := by
  have R0 : Hid (∀ w, Calls Try.prog 19 #[.agg #[.int .i64 a0, .int .u64 b0, .int .i64 c0, .int .u64 e0]] w (RV (.bool false) w)) := fun w => by have := Right_any a0 b0 c0 e0 d0 w G0; rw [decide_eq_false p0] at this; exact this
  go_enter Try.func28, Try.ntmps28
  go_wp2_with (go_at_call 19; ((with_reducible refine (R0.out _).mono ?_); rintro e w1 ⟨rfl, hb1⟩))
  go_ret
  exact ⟨rfl, by (repeat (first | (with_reducible exact Below.refl _ _) | with_reducible assumption | (with_reducible refine below_alloc ?_ _) | (focus ((with_reducible refine below_set ?_ _ _ _ ?_); rotate_left; omega)) | (with_reducible refine Below.drew ?_) | (with_reducible refine below_call ?_ hb1)))⟩
set_option maxHeartbeats 1000000 in
theorem fCmp_no1 (a0 b0 c0 e0 d0 a1 b1 c1 e1 d1 : Int) (w : World) (G0 : IsW c0 e0 d0) (G1 : IsW c1 e1 d1) (p0 : 0 < d0) (p1 : ¬ 0 < d1) :
    Calls Try.prog 28 #[.agg #[.int .i64 a0, .int .u64 b0, .int .i64 c0, .int .u64 e0], .agg #[.int .i64 a1, .int .u64 b1, .int .i64 c1, .int .u64 e1]] w (RV (.int .i64 0) w) := by
  have R0 : Hid (∀ w, Calls Try.prog 19 #[.agg #[.int .i64 a0, .int .u64 b0, .int .i64 c0, .int .u64 e0]] w (RV (.bool true) w)) := fun w => by have := Right_any a0 b0 c0 e0 d0 w G0; rw [decide_eq_true p0] at this; exact this
  have R1 : Hid (∀ w, Calls Try.prog 19 #[.agg #[.int .i64 a1, .int .u64 b1, .int .i64 c1, .int .u64 e1]] w (RV (.bool false) w)) := fun w => by have := Right_any a1 b1 c1 e1 d1 w G1; rw [decide_eq_false p1] at this; exact this
  clear p0 p1
  go_enter Try.func28, Try.ntmps28
  go_wp2_with fail
  refine (R0.out _).mono ?_
  rintro e w1 ⟨rfl, hb1⟩
  have Q1 : Box4 w1 (w.heap.size + 1) (.int .i64 a1) (.int .u64 b1) (.int .i64 c1) (.int .u64 e1) := (by (repeat (first | with_reducible assumption | (focus ((with_reducible refine Box.new ?_); simp; done)) | (focus ((with_reducible refine Box4.new ?_); simp; done)) | (with_reducible refine Box.alloc ?_ _) | (with_reducible refine Box4.alloc ?_ _) | (with_reducible refine Box.drew ?_) | (with_reducible refine Box4.drew ?_) | (with_reducible refine Box.put ?_) | (focus ((with_reducible refine Box.set ?_ _ ?_); rotate_left; omega)) | (focus ((with_reducible refine Box4.set ?_ _ ?_); rotate_left; omega)) | (focus ((with_reducible apply HasBox.of); with_reducible assumption)) | (focus ((with_reducible refine HasBox.new ?_); simp; done)) | (with_reducible refine HasBox.set ?_ _ _) | (with_reducible refine HasBox.drew ?_) | (with_reducible refine HasBox.alloc ?_ _) | (with_reducible refine Box.call ?_ hb1) | (with_reducible refine Box4.call ?_ hb1) | (with_reducible refine HasBox.call ?_ hb1))))
  obtain ⟨⟨x0, x1, x2, x3⟩, x4⟩ := id Q1
  go_wp2_with fail
  refine (R1.out _).mono ?_
  rintro e w2 ⟨rfl, hb2⟩
  go_wp2_with fail
  go_ret
  exact ⟨rfl, by (repeat (first | (with_reducible exact Below.refl _ _) | with_reducible assumption | (with_reducible refine below_alloc ?_ _) | (focus ((with_reducible refine below_set ?_ _ _ _ ?_); rotate_left; omega)) | (with_reducible refine Below.drew ?_) | (with_reducible refine below_call ?_ hb2) | (with_reducible refine below_call ?_ hb1)))⟩
theorem fCmp_any (a0 b0 n0 c0 e0 d0 a1 b1 n1 c1 e1 d1 : Int) (w : World) (H0 : IsW a0 b0 n0) (G0 : IsW c0 e0 d0) (H1 : IsW a1 b1 n1) (G1 : IsW c1 e1 d1) :
    Calls Try.prog 28 #[.agg #[.int .i64 a0, .int .u64 b0, .int .i64 c0, .int .u64 e0], .agg #[.int .i64 a1, .int .u64 b1, .int .i64 c1, .int .u64 e1]] w (RV (.int .i64 (cmpv n0 d0 n1 d1)) w) := by
  unfold cmpv
  by_cases p0 : 0 < d0
  · by_cases p1 : 0 < d1
    · rw [if_pos ⟨p0, p1⟩]; exact fCmp_yes a0 b0 n0 c0 e0 d0 a1 b1 n1 c1 e1 d1 w H0 G0 H1 G1 p0 p1
    · rw [if_neg (fun h => p1 h.2)]; exact fCmp_no1 a0 b0 c0 e0 d0 a1 b1 c1 e1 d1 w G0 G1 p0 p1
  · rw [if_neg (fun h => p0 h.1)]; exact fCmp_no0 a0 b0 c0 e0 d0 a1 b1 c1 e1 w G0 p0
end Go.Proofs.Ytinjgiigmlikpaa
