/-
  Contracts of package frac: divBoth. My own text.
-/
import Derived.Test.YtinjgiigmlikpaaFracD
import Derived.RegionTactic
namespace Go.Proofs.Ytinjgiigmlikpaa
open Go.RowKit
set_option linter.unusedVariables false
attribute [local go_sem ↓] Go.wp_at_zero Go.wp_at_succ

/-- two rows of two Ints come back. -/
def RBoth (q0 q1 r0 r1 : Int) (w : World) (e : Ending) (w' : World) : Prop := ∃ a b c d x y z t, e = .returned (.tuple #[.agg #[.int .i64 a, .int .u64 b, .int .i64 c, .int .u64 d], .agg #[.int .i64 x, .int .u64 y, .int .i64 z, .int .u64 t]]) ∧ IsW a b q0 ∧ IsW c d q1 ∧ IsW x y r0 ∧ IsW z t r1 ∧ Below w.heap.size w w'
theorem wpAt' {P : Program} {c : Code} {Q : Exit → Act → World → Prop} {a : Act} {W : World} (h : ∀ W', W' = W → c.wp P Q a W') : c.wp P Q a W := h W rfl
set_option maxHeartbeats 2000000 in
set_option maxRecDepth 100000 in
theorem divBoth_any (a0 b0 n0 a1 b1 n1 c0 e0 d0 c1 e1 d1 : Int) (w : World) (H0 : IsW a0 b0 n0) (H1 : IsW a1 b1 n1) (G0 : IsW c0 e0 d0) (G1 : IsW c1 e1 d1) (p0 : 0 < d0) (p1 : 0 < d1) :
    Calls Try.prog 59 #[.agg #[.int .i64 a0, .int .u64 b0, .int .i64 a1, .int .u64 b1], .agg #[.int .i64 c0, .int .u64 e0, .int .i64 c1, .int .u64 e1]] w (RBoth (n0 / d0) (n1 / d1) (n0 % d0) (n1 % d1) w) := by
  have C0 := Lib.hid (fun w => Div_yes a0 b0 n0 c0 e0 d0 w H0 G0 p0)
  have C1 := Lib.hid (fun w => Div_yes a1 b1 n1 c1 e1 d1 w H1 G1 p1)
  go_enter Try.func59, Try.ntmps59
  go_wp2_with fail
  refine wp_loop_rounds 3 ?_
  rw [rounds_succ]
  go_wp2_with fail
  have N1 : ¬ (w.heap.size + 1 = w.heap.size) := by omega
  have N2 : ¬ (w.heap.size + 1 + 1 = w.heap.size) := by omega
  have N3 : ¬ (w.heap.size + 1 + 1 + 1 = w.heap.size) := by omega
  refine wpAt' ?_
  intro W hW
  have Z0 : Box4 W w.heap.size (.int .i64 a0) (.int .u64 b0) (.int .i64 a1) (.int .u64 b1) := by rw [hW]; (repeat (first | with_reducible assumption | (focus ((with_reducible refine Box.new ?_); simp; done)) | (focus ((with_reducible refine Box4.new ?_); simp; done)) | (with_reducible refine Box.alloc ?_ _) | (with_reducible refine Box4.alloc ?_ _) | (with_reducible refine Box.drew ?_) | (with_reducible refine Box4.drew ?_) | (with_reducible refine Box.put ?_) | (focus ((with_reducible refine Box.set ?_ _ ?_); rotate_left; omega)) | (focus ((with_reducible refine Box4.set ?_ _ ?_); rotate_left; omega)) | (focus ((with_reducible apply HasBox.of); with_reducible assumption)) | (focus ((with_reducible refine HasBox.new ?_); simp; done)) | (with_reducible refine HasBox.set ?_ _ _) | (with_reducible refine HasBox.drew ?_) | (with_reducible refine HasBox.alloc ?_ _)))
  have Z1 : Box4 W (w.heap.size + 1) (.int .i64 c0) (.int .u64 e0) (.int .i64 c1) (.int .u64 e1) := by rw [hW]; (repeat (first | with_reducible assumption | (focus ((with_reducible refine Box.new ?_); simp; done)) | (focus ((with_reducible refine Box4.new ?_); simp; done)) | (with_reducible refine Box.alloc ?_ _) | (with_reducible refine Box4.alloc ?_ _) | (with_reducible refine Box.drew ?_) | (with_reducible refine Box4.drew ?_) | (with_reducible refine Box.put ?_) | (focus ((with_reducible refine Box.set ?_ _ ?_); rotate_left; omega)) | (focus ((with_reducible refine Box4.set ?_ _ ?_); rotate_left; omega)) | (focus ((with_reducible apply HasBox.of); with_reducible assumption)) | (focus ((with_reducible refine HasBox.new ?_); simp; done)) | (with_reducible refine HasBox.set ?_ _ _) | (with_reducible refine HasBox.drew ?_) | (with_reducible refine HasBox.alloc ?_ _)))
  have Z2 : Box4 W (w.heap.size + 1 + 1) (.int .i64 0) (.int .u64 0) (.int .i64 0) (.int .u64 0) := by rw [hW]; (repeat (first | with_reducible assumption | (focus ((with_reducible refine Box.new ?_); simp; done)) | (focus ((with_reducible refine Box4.new ?_); simp; done)) | (with_reducible refine Box.alloc ?_ _) | (with_reducible refine Box4.alloc ?_ _) | (with_reducible refine Box.drew ?_) | (with_reducible refine Box4.drew ?_) | (with_reducible refine Box.put ?_) | (focus ((with_reducible refine Box.set ?_ _ ?_); rotate_left; omega)) | (focus ((with_reducible refine Box4.set ?_ _ ?_); rotate_left; omega)) | (focus ((with_reducible apply HasBox.of); with_reducible assumption)) | (focus ((with_reducible refine HasBox.new ?_); simp; done)) | (with_reducible refine HasBox.set ?_ _ _) | (with_reducible refine HasBox.drew ?_) | (with_reducible refine HasBox.alloc ?_ _)))
  have Z3 : Box4 W (w.heap.size + 1 + 1 + 1) (.int .i64 0) (.int .u64 0) (.int .i64 0) (.int .u64 0) := by rw [hW]; (repeat (first | with_reducible assumption | (focus ((with_reducible refine Box.new ?_); simp; done)) | (focus ((with_reducible refine Box4.new ?_); simp; done)) | (with_reducible refine Box.alloc ?_ _) | (with_reducible refine Box4.alloc ?_ _) | (with_reducible refine Box.drew ?_) | (with_reducible refine Box4.drew ?_) | (with_reducible refine Box.put ?_) | (focus ((with_reducible refine Box.set ?_ _ ?_); rotate_left; omega)) | (focus ((with_reducible refine Box4.set ?_ _ ?_); rotate_left; omega)) | (focus ((with_reducible apply HasBox.of); with_reducible assumption)) | (focus ((with_reducible refine HasBox.new ?_); simp; done)) | (with_reducible refine HasBox.set ?_ _ _) | (with_reducible refine HasBox.drew ?_) | (with_reducible refine HasBox.alloc ?_ _)))
  have bl : Below w.heap.size w W := by rw [hW]; (repeat (first | (with_reducible exact Below.refl _ _) | with_reducible assumption | (with_reducible refine below_alloc ?_ _) | (focus ((with_reducible refine below_set ?_ _ _ _ ?_); rotate_left; omega)) | (with_reducible refine Below.drew ?_)))
  clear hW
  obtain ⟨⟨x0, x1, x2, x3⟩, y0, y1, y2, y3⟩ := id Z0
  obtain ⟨⟨x4, x5, x6, x7⟩, y4, y5, y6, y7⟩ := id Z1
  have V0 := Z0.drew; have V1 := Z1.drew; have V2 := Z2.drew; have V3 := Z3.drew
  go_region_held3 (fun w' => (w'.cell? ⟨w.heap.size, 0, none⟩ = some (.int .i64 a0) ∧ w'.cell? ⟨w.heap.size, 1, none⟩ = some (.int .u64 b0) ∧ w'.cell? ⟨w.heap.size, 2, none⟩ = some (.int .i64 a1) ∧ w'.cell? ⟨w.heap.size, 3, none⟩ = some (.int .u64 b1)) ∧ (w'.cell? ⟨w.heap.size + 1, 0, none⟩ = some (.int .i64 c0) ∧ w'.cell? ⟨w.heap.size + 1, 1, none⟩ = some (.int .u64 e0) ∧ w'.cell? ⟨w.heap.size + 1, 2, none⟩ = some (.int .i64 c1) ∧ w'.cell? ⟨w.heap.size + 1, 3, none⟩ = some (.int .u64 e1)))
    (first | (refine And.intro (Box4.cs ?_) (Box4.cs ?_) <;> ((repeat (first | with_reducible assumption | (focus ((with_reducible refine Box.new ?_); simp; done)) | (focus ((with_reducible refine Box4.new ?_); simp; done)) | (with_reducible refine Box.alloc ?_ _) | (with_reducible refine Box4.alloc ?_ _) | (with_reducible refine Box.drew ?_) | (with_reducible refine Box4.drew ?_) | (with_reducible refine Box.put ?_) | (focus ((with_reducible refine Box.set ?_ _ ?_); rotate_left; omega)) | (focus ((with_reducible refine Box4.set ?_ _ ?_); rotate_left; omega)) | (focus ((with_reducible apply HasBox.of); with_reducible assumption)) | (focus ((with_reducible refine HasBox.new ?_); simp; done)) | (with_reducible refine HasBox.set ?_ _ _) | (with_reducible refine HasBox.drew ?_) | (with_reducible refine HasBox.alloc ?_ _) | (with_reducible refine Box.call ?_ hb1) | (with_reducible refine Box4.call ?_ hb1) | (with_reducible refine HasBox.call ?_ hb1))); done)) | go_keep)
    (first | (go_at_call 69; ((with_reducible refine (C0.out _).mono ?_); rintro e w1 ⟨qa, qb, ra, rb, rfl, hq, hr, hb1⟩; have U2 := V2.call hb1; have U3 := V3.call hb1; obtain ⟨⟨t0, t1, t2, t3⟩, t4, t5, t6, t7⟩ := id U2; obtain ⟨⟨v0, v1, v2, v3⟩, v4, v5, v6, v7⟩ := id U3)))
  go_wp2_with fail
  rw [rounds_succ]
  go_wp2_with fail
  refine wpAt' ?_
  intro X hX
  have P0 : Box4 X w.heap.size (.int .i64 a0) (.int .u64 b0) (.int .i64 a1) (.int .u64 b1) := by rw [hX]; (repeat (first | with_reducible assumption | (focus ((with_reducible refine Box.new ?_); simp; done)) | (focus ((with_reducible refine Box4.new ?_); simp; done)) | (with_reducible refine Box.alloc ?_ _) | (with_reducible refine Box4.alloc ?_ _) | (with_reducible refine Box.drew ?_) | (with_reducible refine Box4.drew ?_) | (with_reducible refine Box.put ?_) | (focus ((with_reducible refine Box.set ?_ _ ?_); rotate_left; omega)) | (focus ((with_reducible refine Box4.set ?_ _ ?_); rotate_left; omega)) | (focus ((with_reducible apply HasBox.of); with_reducible assumption)) | (focus ((with_reducible refine HasBox.new ?_); simp; done)) | (with_reducible refine HasBox.set ?_ _ _) | (with_reducible refine HasBox.drew ?_) | (with_reducible refine HasBox.alloc ?_ _) | (with_reducible refine Box.call ?_ hb1) | (with_reducible refine Box4.call ?_ hb1) | (with_reducible refine HasBox.call ?_ hb1)))
  have P1 : Box4 X (w.heap.size + 1) (.int .i64 c0) (.int .u64 e0) (.int .i64 c1) (.int .u64 e1) := by rw [hX]; (repeat (first | with_reducible assumption | (focus ((with_reducible refine Box.new ?_); simp; done)) | (focus ((with_reducible refine Box4.new ?_); simp; done)) | (with_reducible refine Box.alloc ?_ _) | (with_reducible refine Box4.alloc ?_ _) | (with_reducible refine Box.drew ?_) | (with_reducible refine Box4.drew ?_) | (with_reducible refine Box.put ?_) | (focus ((with_reducible refine Box.set ?_ _ ?_); rotate_left; omega)) | (focus ((with_reducible refine Box4.set ?_ _ ?_); rotate_left; omega)) | (focus ((with_reducible apply HasBox.of); with_reducible assumption)) | (focus ((with_reducible refine HasBox.new ?_); simp; done)) | (with_reducible refine HasBox.set ?_ _ _) | (with_reducible refine HasBox.drew ?_) | (with_reducible refine HasBox.alloc ?_ _) | (with_reducible refine Box.call ?_ hb1) | (with_reducible refine Box4.call ?_ hb1) | (with_reducible refine HasBox.call ?_ hb1)))
  have P2 : Box4 X (w.heap.size + 1 + 1) (.int .i64 qa) (.int .u64 qb) (.int .i64 0) (.int .u64 0) := by rw [hX]; exact ((U2.put01).set _ (by omega)).set _ (by omega)
  have P3 : Box4 X (w.heap.size + 1 + 1 + 1) (.int .i64 ra) (.int .u64 rb) (.int .i64 0) (.int .u64 0) := by rw [hX]; exact ((U3.set _ (by omega)).set _ (by omega)).put01
  have blX : Below w.heap.size w X := by rw [hX]; (repeat (first | (with_reducible exact Below.refl _ _) | with_reducible assumption | (with_reducible refine below_alloc ?_ _) | (focus ((with_reducible refine below_set ?_ _ _ _ ?_); rotate_left; omega)) | (with_reducible refine Below.drew ?_) | (with_reducible refine below_call ?_ hb1)))
  clear hX hb1 U2 U3 V0 V1 V2 V3 Z0 Z1 Z2 Z3 bl t0 t1 t2 t3 t4 t5 t6 t7 v0 v1 v2 v3 v4 v5 v6 v7 x0 x1 x2 x3 x4 x5 x6 x7 y0 y1 y2 y3 y4 y5 y6 y7
  obtain ⟨⟨x0, x1, x2, x3⟩, y0, y1, y2, y3⟩ := id P0
  obtain ⟨⟨x4, x5, x6, x7⟩, y4, y5, y6, y7⟩ := id P1
  have V0 := P0.drew; have V1 := P1.drew; have V2 := P2.drew; have V3 := P3.drew
  go_region_held3 (fun w' => (w'.cell? ⟨w.heap.size, 0, none⟩ = some (.int .i64 a0) ∧ w'.cell? ⟨w.heap.size, 1, none⟩ = some (.int .u64 b0) ∧ w'.cell? ⟨w.heap.size, 2, none⟩ = some (.int .i64 a1) ∧ w'.cell? ⟨w.heap.size, 3, none⟩ = some (.int .u64 b1)) ∧ (w'.cell? ⟨w.heap.size + 1, 0, none⟩ = some (.int .i64 c0) ∧ w'.cell? ⟨w.heap.size + 1, 1, none⟩ = some (.int .u64 e0) ∧ w'.cell? ⟨w.heap.size + 1, 2, none⟩ = some (.int .i64 c1) ∧ w'.cell? ⟨w.heap.size + 1, 3, none⟩ = some (.int .u64 e1)))
    (first | (refine And.intro (Box4.cs ?_) (Box4.cs ?_) <;> ((repeat (first | with_reducible assumption | (focus ((with_reducible refine Box.new ?_); simp; done)) | (focus ((with_reducible refine Box4.new ?_); simp; done)) | (with_reducible refine Box.alloc ?_ _) | (with_reducible refine Box4.alloc ?_ _) | (with_reducible refine Box.drew ?_) | (with_reducible refine Box4.drew ?_) | (with_reducible refine Box.put ?_) | (focus ((with_reducible refine Box.set ?_ _ ?_); rotate_left; omega)) | (focus ((with_reducible refine Box4.set ?_ _ ?_); rotate_left; omega)) | (focus ((with_reducible apply HasBox.of); with_reducible assumption)) | (focus ((with_reducible refine HasBox.new ?_); simp; done)) | (with_reducible refine HasBox.set ?_ _ _) | (with_reducible refine HasBox.drew ?_) | (with_reducible refine HasBox.alloc ?_ _) | (with_reducible refine Box.call ?_ hb2) | (with_reducible refine Box4.call ?_ hb2) | (with_reducible refine HasBox.call ?_ hb2))); done)) | go_keep)
    (first | (go_at_call 69; ((with_reducible refine (C1.out _).mono ?_); rintro e w2 ⟨sa, sb, ta, tb, rfl, hs, ht, hb2⟩; have U2 := V2.call hb2; have U3 := V3.call hb2; obtain ⟨⟨t0, t1, t2, t3⟩, t4, t5, t6, t7⟩ := id U2; obtain ⟨⟨v0, v1, v2, v3⟩, v4, v5, v6, v7⟩ := id U3)))
  go_wp2_with fail
  rw [rounds_succ]
  go_wp2_with fail
  refine wpAt' ?_
  intro Y hY
  have Q2 : Box4 Y (w.heap.size + 1 + 1) (.int .i64 qa) (.int .u64 qb) (.int .i64 sa) (.int .u64 sb) := by rw [hY]; exact ((U2.put23).set _ (by omega)).set _ (by omega)
  have Q3 : Box4 Y (w.heap.size + 1 + 1 + 1) (.int .i64 ra) (.int .u64 rb) (.int .i64 ta) (.int .u64 tb) := by rw [hY]; exact ((U3.set _ (by omega)).set _ (by omega)).put23
  have blY : Below w.heap.size w Y := by rw [hY]; (repeat (first | (with_reducible exact Below.refl _ _) | with_reducible assumption | (with_reducible refine below_alloc ?_ _) | (focus ((with_reducible refine below_set ?_ _ _ _ ?_); rotate_left; omega)) | (with_reducible refine Below.drew ?_) | (with_reducible refine below_call ?_ hb2)))
  clear hY hb2 U2 U3 V0 V1 V2 V3 P0 P1 P2 P3 blX t0 t1 t2 t3 t4 t5 t6 t7 v0 v1 v2 v3 v4 v5 v6 v7 x0 x1 x2 x3 x4 x5 x6 x7 y0 y1 y2 y3 y4 y5 y6 y7
  obtain ⟨⟨x0, x1, x2, x3⟩, y0, y1, y2, y3⟩ := id Q2
  obtain ⟨⟨x4, x5, x6, x7⟩, y4, y5, y6, y7⟩ := id Q3
  have N4 : ¬ (w.heap.size + 1 + 1 + 1 = w.heap.size + 1 + 1) := by omega
  go_region
  all_goals
    go_wp2_with fail
    refine bodyPost_ret (v := .tuple #[.agg #[.int .i64 qa, .int .u64 qb, .int .i64 sa, .int .u64 sb], .agg #[.int .i64 ra, .int .u64 rb, .int .i64 ta, .int .u64 tb]]) (by simp only [results, Try.results59]; go_simp) rfl ⟨_, _, _, _, _, _, _, _, rfl, hq, hs, hr, ht, ?_⟩
    (repeat (first | (with_reducible exact Below.refl _ _) | with_reducible assumption | (with_reducible refine below_alloc ?_ _) | (focus ((with_reducible refine below_set ?_ _ _ _ ?_); rotate_left; omega)) | (with_reducible refine Below.drew ?_)))
end Go.Proofs.Ytinjgiigmlikpaa
