/-
  cobweblaw01.WideAdds returns true, for every two Ints. My own text.
-/
import Derived.Test.YtdmjccbpghilcaaDoorLawB
import Derived.Deep.DrawnRows
namespace Go.Proofs.YtdmjccbpghilcaaDoor
open Go.RowKit Go.Lib
set_option linter.unusedVariables false
attribute [local go_sem ↓] Go.wp_at_zero Go.wp_at_succ

theorem len20 {w : World} {neg : Bool} {A : Option Addr} {l c : Nat} {n m : Int} (h : IsN w neg A l c (n + m)) (h1 : fits n = true) (h2 : fits m = true) : l ≤ 400 := by
  unfold fits at h1 h2
  rw [decide_eq_true_eq] at h1 h2
  exact Nat.le_trans (h.len10 (by omega) (by omega)) (by omega)
theorem len20n {w : World} {neg : Bool} {A : Option Addr} {l c : Nat} {n : Int} (h : IsN w neg A l c (-n)) (h1 : fits n = true) : l ≤ 400 := by
  unfold fits at h1
  rw [decide_eq_true_eq] at h1
  exact Nat.le_trans (h.len10 (by omega) (by omega)) (by omega)
theorem len20s {w : World} {neg : Bool} {A : Option Addr} {l c : Nat} {n m : Int} (h : IsN w neg A l c (n + -m)) (h1 : fits n = true) (h2 : fits m = true) : l ≤ 400 := by
  unfold fits at h1 h2
  rw [decide_eq_true_eq] at h1 h2
  exact Nat.le_trans (h.len10 (by omega) (by omega)) (by omega)
set_option maxHeartbeats 4000000 in
set_option maxRecDepth 100000 in
theorem adds_walk (h1 l1 n h2 l2 m : Int) (w : World) (H1 : IsW h1 l1 n) (H2 : IsW h2 l2 m) (htab : Tab w) :
    Calls Tryd.prog 3 #[.agg #[.int .i64 h1, .int .u64 l1], .agg #[.int .i64 h2, .int .u64 l2]] w (RV (.bool true) w) := by
  have F1 := Lib.hid H1.fits
  have F2 := Lib.hid H2.fits
  have n2 : ¬ (w.heap.size + 1 = w.heap.size) := by omega
  go_enter Tryd.func3, Tryd.ntmps3
  go_upto_region 1 with fail
  go_cut [5, 6] (fun s5 s6 wx => Cut2 w (w.heap.size, .int .i64 h1, .int .u64 l1) (w.heap.size + 1, .int .i64 h2, .int .u64 l2) n m s5 s6 wx)
  case first =>
    go_region_held3 (fun w' => (w'.cell? ⟨w.heap.size + 1, 0, none⟩ = some (.int .i64 h2) ∧ w'.cell? ⟨w.heap.size + 1, 1, none⟩ = some (.int .u64 l2)) ∧ (w'.cell? ⟨w.heap.size, 0, none⟩ = some (.int .i64 h1) ∧ w'.cell? ⟨w.heap.size, 1, none⟩ = some (.int .u64 l1)))
      (first | (refine keepS ?_ ?_ <;> ((repeat (first | with_reducible assumption | (focus ((with_reducible refine Box.new ?_); simp; done)) | (with_reducible refine Box.alloc ?_ _) | (with_reducible refine Box.drew ?_) | (with_reducible refine Box.put ?_) | (focus ((with_reducible refine Box.set ?_ _ ?_); rotate_left; omega)) | (focus ((with_reducible apply HasBox.of); with_reducible assumption)) | (focus ((with_reducible refine HasBox.new ?_); simp; done)) | (with_reducible refine HasBox.set ?_ _ _) | (with_reducible refine HasBox.drew ?_) | (with_reducible refine HasBox.alloc ?_ _) | (with_reducible refine Box.call ?_ hb2) | (with_reducible refine HasBox.call ?_ hb2) | (with_reducible refine Box.call ?_ hb1) | (with_reducible refine HasBox.call ?_ hb1))); done)) | go_keep)
      (first
        | (go_at_call 12; ((with_reducible refine (num_any _ _ _ _ H1).mono ?_); rintro e w1 ⟨x1, A1, y1, c1, rfl, k1, hb1⟩; have hy1 := Below.size hb1; (try simp at hy1)))
        | (go_at_call 12; ((with_reducible refine (num_any _ _ _ _ H2).mono ?_); rintro e w2 ⟨x2, A2, y2, c2, rfl, k2, hb2⟩; have hy2 := Below.size hb2; (try simp at hy2); (try ((refine cutIn (p := Box w2 (w.heap.size + 1 + 1) (.bool false) (.slice none 0 0)) ?_ ?_); (repeat (first | with_reducible assumption | (focus ((with_reducible refine Box.new ?_); simp; done)) | (with_reducible refine Box.alloc ?_ _) | (with_reducible refine Box.drew ?_) | (with_reducible refine Box.put ?_) | (focus ((with_reducible refine Box.set ?_ _ ?_); rotate_left; omega)) | (focus ((with_reducible apply HasBox.of); with_reducible assumption)) | (focus ((with_reducible refine HasBox.new ?_); simp; done)) | (with_reducible refine HasBox.set ?_ _ _) | (with_reducible refine HasBox.drew ?_) | (with_reducible refine HasBox.alloc ?_ _) | (with_reducible refine Box.call ?_ hb2) | (with_reducible refine HasBox.call ?_ hb2) | (with_reducible refine Box.call ?_ hb1) | (with_reducible refine HasBox.call ?_ hb1))); intro B_w2x_0; obtain ⟨⟨c_w2x_0, d_w2x_0⟩, f_w2x_0, g_w2x_0⟩ := id B_w2x_0; have l_w2x_0 := Box.lt B_w2x_0; have n_w2x_0 := Nat.ne_of_gt (Box.lt B_w2x_0); have m_w2x_0 := Nat.ne_of_lt (Box.lt B_w2x_0))); (try ((refine cutIn (p := Box w2 (w.heap.size + 1 + 1 + 1) (.bool false) (.slice none 0 0)) ?_ ?_); (repeat (first | with_reducible assumption | (focus ((with_reducible refine Box.new ?_); simp; done)) | (with_reducible refine Box.alloc ?_ _) | (with_reducible refine Box.drew ?_) | (with_reducible refine Box.put ?_) | (focus ((with_reducible refine Box.set ?_ _ ?_); rotate_left; omega)) | (focus ((with_reducible apply HasBox.of); with_reducible assumption)) | (focus ((with_reducible refine HasBox.new ?_); simp; done)) | (with_reducible refine HasBox.set ?_ _ _) | (with_reducible refine HasBox.drew ?_) | (with_reducible refine HasBox.alloc ?_ _) | (with_reducible refine Box.call ?_ hb2) | (with_reducible refine HasBox.call ?_ hb2) | (with_reducible refine Box.call ?_ hb1) | (with_reducible refine HasBox.call ?_ hb1))); intro B_w2x_1; obtain ⟨⟨c_w2x_1, d_w2x_1⟩, f_w2x_1, g_w2x_1⟩ := id B_w2x_1; have l_w2x_1 := Box.lt B_w2x_1; have n_w2x_1 := Nat.ne_of_gt (Box.lt B_w2x_1); have m_w2x_1 := Nat.ne_of_lt (Box.lt B_w2x_1))); (try ((refine cutIn (p := Box w2 (w1.heap.size) (.bool false) (.slice none 0 0)) ?_ ?_); (repeat (first | with_reducible assumption | (focus ((with_reducible refine Box.new ?_); simp; done)) | (with_reducible refine Box.alloc ?_ _) | (with_reducible refine Box.drew ?_) | (with_reducible refine Box.put ?_) | (focus ((with_reducible refine Box.set ?_ _ ?_); rotate_left; omega)) | (focus ((with_reducible apply HasBox.of); with_reducible assumption)) | (focus ((with_reducible refine HasBox.new ?_); simp; done)) | (with_reducible refine HasBox.set ?_ _ _) | (with_reducible refine HasBox.drew ?_) | (with_reducible refine HasBox.alloc ?_ _) | (with_reducible refine Box.call ?_ hb2) | (with_reducible refine HasBox.call ?_ hb2) | (with_reducible refine Box.call ?_ hb1) | (with_reducible refine HasBox.call ?_ hb1))); intro B_w2x_2; obtain ⟨⟨c_w2x_2, d_w2x_2⟩, f_w2x_2, g_w2x_2⟩ := id B_w2x_2; have l_w2x_2 := Box.lt B_w2x_2; have n_w2x_2 := Nat.ne_of_gt (Box.lt B_w2x_2); have m_w2x_2 := Nat.ne_of_lt (Box.lt B_w2x_2))); (try ((refine cutIn (p := Box w2 (w1.heap.size + 1) (.bool false) (.slice none 0 0)) ?_ ?_); (repeat (first | with_reducible assumption | (focus ((with_reducible refine Box.new ?_); simp; done)) | (with_reducible refine Box.alloc ?_ _) | (with_reducible refine Box.drew ?_) | (with_reducible refine Box.put ?_) | (focus ((with_reducible refine Box.set ?_ _ ?_); rotate_left; omega)) | (focus ((with_reducible apply HasBox.of); with_reducible assumption)) | (focus ((with_reducible refine HasBox.new ?_); simp; done)) | (with_reducible refine HasBox.set ?_ _ _) | (with_reducible refine HasBox.drew ?_) | (with_reducible refine HasBox.alloc ?_ _) | (with_reducible refine Box.call ?_ hb2) | (with_reducible refine HasBox.call ?_ hb2) | (with_reducible refine Box.call ?_ hb1) | (with_reducible refine HasBox.call ?_ hb1))); intro B_w2x_3; obtain ⟨⟨c_w2x_3, d_w2x_3⟩, f_w2x_3, g_w2x_3⟩ := id B_w2x_3; have l_w2x_3 := Box.lt B_w2x_3; have n_w2x_3 := Nat.ne_of_gt (Box.lt B_w2x_3); have m_w2x_3 := Nat.ne_of_lt (Box.lt B_w2x_3))))))
    all_goals
      go_wp2_with fail
      go_meet
      refine cut2_mk (x := x1) (A := A1) (l := y1) (c := c1) (x' := x2) (A' := A2) (l' := y2) (c' := c2) htab ?_ ?_ ?_ ?_ ?_ ?_ ?_
      · (repeat (first | with_reducible assumption | (focus ((with_reducible refine Box.new ?_); simp; done)) | (with_reducible refine Box.alloc ?_ _) | (with_reducible refine Box.drew ?_) | (with_reducible refine Box.put ?_) | (focus ((with_reducible refine Box.set ?_ _ ?_); rotate_left; omega)) | (focus ((with_reducible apply HasBox.of); with_reducible assumption)) | (focus ((with_reducible refine HasBox.new ?_); simp; done)) | (with_reducible refine HasBox.set ?_ _ _) | (with_reducible refine HasBox.drew ?_) | (with_reducible refine HasBox.alloc ?_ _) | (with_reducible refine Box.call ?_ hb2) | (with_reducible refine HasBox.call ?_ hb2) | (with_reducible refine Box.call ?_ hb1) | (with_reducible refine HasBox.call ?_ hb1)))
      · (repeat (first | with_reducible assumption | (focus ((with_reducible refine Box.new ?_); simp; done)) | (with_reducible refine Box.alloc ?_ _) | (with_reducible refine Box.drew ?_) | (with_reducible refine Box.put ?_) | (focus ((with_reducible refine Box.set ?_ _ ?_); rotate_left; omega)) | (focus ((with_reducible apply HasBox.of); with_reducible assumption)) | (focus ((with_reducible refine HasBox.new ?_); simp; done)) | (with_reducible refine HasBox.set ?_ _ _) | (with_reducible refine HasBox.drew ?_) | (with_reducible refine HasBox.alloc ?_ _) | (with_reducible refine Box.call ?_ hb2) | (with_reducible refine HasBox.call ?_ hb2) | (with_reducible refine Box.call ?_ hb1) | (with_reducible refine HasBox.call ?_ hb1)))
      · (repeat (first | with_reducible assumption | (focus ((with_reducible refine Box.new ?_); simp; done)) | (with_reducible refine Box.alloc ?_ _) | (with_reducible refine Box.drew ?_) | (with_reducible refine Box.put ?_) | (focus ((with_reducible refine Box.set ?_ _ ?_); rotate_left; omega)) | (focus ((with_reducible apply HasBox.of); with_reducible assumption)) | (focus ((with_reducible refine HasBox.new ?_); simp; done)) | (with_reducible refine HasBox.set ?_ _ _) | (with_reducible refine HasBox.drew ?_) | (with_reducible refine HasBox.alloc ?_ _) | (with_reducible refine Box.call ?_ hb2) | (with_reducible refine HasBox.call ?_ hb2) | (with_reducible refine Box.call ?_ hb1) | (with_reducible refine HasBox.call ?_ hb1)))
      · (repeat (first | with_reducible assumption | (focus ((with_reducible refine Box.new ?_); simp; done)) | (with_reducible refine Box.alloc ?_ _) | (with_reducible refine Box.drew ?_) | (with_reducible refine Box.put ?_) | (focus ((with_reducible refine Box.set ?_ _ ?_); rotate_left; omega)) | (focus ((with_reducible apply HasBox.of); with_reducible assumption)) | (focus ((with_reducible refine HasBox.new ?_); simp; done)) | (with_reducible refine HasBox.set ?_ _ _) | (with_reducible refine HasBox.drew ?_) | (with_reducible refine HasBox.alloc ?_ _) | (with_reducible refine Box.call ?_ hb2) | (with_reducible refine HasBox.call ?_ hb2) | (with_reducible refine Box.call ?_ hb1) | (with_reducible refine HasBox.call ?_ hb1)))
      · (repeat (first | with_reducible assumption | (with_reducible refine IsN.alloc ?_ _) | (with_reducible refine IsN.drew ?_) | (with_reducible refine IsN.put ?_ ?_) | (with_reducible refine HasBB.put ?_) | (focus ((with_reducible apply HasBB.of); with_reducible assumption)) | (focus ((with_reducible refine HasBB.new ?_); simp; done)) | (with_reducible refine HasBB.drew ?_) | (with_reducible refine HasBB.alloc ?_ _) | (focus ((with_reducible refine HasBB.set ?_ _ ?_); rotate_left; omega)) | (with_reducible refine IsN.call ?_ hb2) | (with_reducible refine HasBB.call ?_ hb2) | (with_reducible refine IsN.call ?_ hb1) | (with_reducible refine HasBB.call ?_ hb1)))
      · (repeat (first | with_reducible assumption | (with_reducible refine IsN.alloc ?_ _) | (with_reducible refine IsN.drew ?_) | (with_reducible refine IsN.put ?_ ?_) | (with_reducible refine HasBB.put ?_) | (focus ((with_reducible apply HasBB.of); with_reducible assumption)) | (focus ((with_reducible refine HasBB.new ?_); simp; done)) | (with_reducible refine HasBB.drew ?_) | (with_reducible refine HasBB.alloc ?_ _) | (focus ((with_reducible refine HasBB.set ?_ _ ?_); rotate_left; omega)) | (with_reducible refine IsN.call ?_ hb2) | (with_reducible refine HasBB.call ?_ hb2) | (with_reducible refine IsN.call ?_ hb1) | (with_reducible refine HasBB.call ?_ hb1)))
      · (repeat (first | (with_reducible exact Below.refl _ _) | with_reducible assumption | (with_reducible refine below_alloc ?_ _) | (focus ((with_reducible refine below_set ?_ _ _ _ ?_); rotate_left; omega)) | (with_reducible refine Below.drew ?_) | (with_reducible refine below_call ?_ hb2) | (with_reducible refine below_call ?_ hb1)))
  case rest =>
    obtain ⟨g5, g6, x, A, p, c, x', A', p', c', rfl, rfl, A0⟩ := hcut
    clear htab
    obtain ⟨ce00, ce01⟩ := (A0).b1; have cel0 := (A0).x1.lt; have cen0 := Nat.ne_of_lt cel0; have ceg0 := Nat.ne_of_gt cel0; obtain ⟨ce10, ce11⟩ := (A0.tl).b1; have cel1 := (A0.tl).x1.lt; have cen1 := Nat.ne_of_lt cel1; have ceg1 := Nat.ne_of_gt cel1; obtain ⟨ce20, ce21⟩ := (A0.tl.tl).b1; have cel2 := (A0.tl.tl).x1.lt; have cen2 := Nat.ne_of_lt cel2; have ceg2 := Nat.ne_of_gt cel2; obtain ⟨ce30, ce31⟩ := (A0.tl.tl.tl).b1; have cel3 := (A0.tl.tl.tl).x1.lt; have cen3 := Nat.ne_of_lt cel3; have ceg3 := Nat.ne_of_gt cel3
    go_wp2_with fail
    refine (Add_any _ _ _ _ _ _ _ H1 H2).mono ?_
    rintro e w3 ⟨sa, sb, rfl, hs, hb⟩
    clear ce00 ce01 cen0 ceg0 cel0 ce10 ce11 cen1 ceg1 cel1 ce20 ce21 cen2 ceg2 cel2 ce30 ce31 cen3 ceg3 cel3
    replace A0 := A0.call hb
    clear hb
    obtain ⟨ce00, ce01⟩ := (A0).b1; have cel0 := (A0).x1.lt; have cen0 := Nat.ne_of_lt cel0; have ceg0 := Nat.ne_of_gt cel0; obtain ⟨ce10, ce11⟩ := (A0.tl).b1; have cel1 := (A0.tl).x1.lt; have cen1 := Nat.ne_of_lt cel1; have ceg1 := Nat.ne_of_gt cel1; obtain ⟨ce20, ce21⟩ := (A0.tl.tl).b1; have cel2 := (A0.tl.tl).x1.lt; have cen2 := Nat.ne_of_lt cel2; have ceg2 := Nat.ne_of_gt cel2; obtain ⟨ce30, ce31⟩ := (A0.tl.tl.tl).b1; have cel3 := (A0.tl.tl.tl).x1.lt; have cen3 := Nat.ne_of_lt cel3; have ceg3 := Nat.ne_of_gt cel3
    have B0 := A0.new (t := 24) (u := .int .i64 sa) (v := .int .u64 sb) rfl
    clear A0
    go_wp2_with fail
    refine (Sub_any _ _ _ _ _ _ _ H1 H2).mono ?_
    rintro e w4 ⟨da, db, rfl, hd, hb⟩
    clear ce00 ce01 cen0 ceg0 cel0 ce10 ce11 cen1 ceg1 cel1 ce20 ce21 cen2 ceg2 cel2 ce30 ce31 cen3 ceg3 cel3
    replace B0 := B0.call hb
    clear hb
    obtain ⟨ce00, ce01⟩ := (B0).b1; have cel0 := (B0).x1.lt; have cen0 := Nat.ne_of_lt cel0; have ceg0 := Nat.ne_of_gt cel0; obtain ⟨ce10, ce11⟩ := (B0.tl).b1; have cel1 := (B0.tl).x1.lt; have cen1 := Nat.ne_of_lt cel1; have ceg1 := Nat.ne_of_gt cel1; obtain ⟨ce20, ce21⟩ := (B0.tl.tl).b1; have cel2 := (B0.tl.tl).x1.lt; have cen2 := Nat.ne_of_lt cel2; have ceg2 := Nat.ne_of_gt cel2; obtain ⟨ce30, ce31⟩ := (B0.tl.tl.tl).b1; have cel3 := (B0.tl.tl.tl).x1.lt; have cen3 := Nat.ne_of_lt cel3; have ceg3 := Nat.ne_of_gt cel3; obtain ⟨ce40, ce41⟩ := (B0.tl.tl.tl.tl).b1; have cel4 := (B0.tl.tl.tl.tl).x1.lt; have cen4 := Nat.ne_of_lt cel4; have ceg4 := Nat.ne_of_gt cel4
    have A0 := B0.new (t := 24) (u := .int .i64 da) (v := .int .u64 db) rfl
    clear B0
    go_wp2_with fail
    refine (Neg_any _ _ _ _ H1).mono ?_
    rintro e w5 ⟨na, nb, rfl, hn, hb⟩
    clear ce00 ce01 cen0 ceg0 cel0 ce10 ce11 cen1 ceg1 cel1 ce20 ce21 cen2 ceg2 cel2 ce30 ce31 cen3 ceg3 cel3 ce40 ce41 cen4 ceg4 cel4
    replace A0 := A0.call hb
    clear hb
    obtain ⟨ce00, ce01⟩ := (A0).b1; have cel0 := (A0).x1.lt; have cen0 := Nat.ne_of_lt cel0; have ceg0 := Nat.ne_of_gt cel0; obtain ⟨ce10, ce11⟩ := (A0.tl).b1; have cel1 := (A0.tl).x1.lt; have cen1 := Nat.ne_of_lt cel1; have ceg1 := Nat.ne_of_gt cel1; obtain ⟨ce20, ce21⟩ := (A0.tl.tl).b1; have cel2 := (A0.tl.tl).x1.lt; have cen2 := Nat.ne_of_lt cel2; have ceg2 := Nat.ne_of_gt cel2; obtain ⟨ce30, ce31⟩ := (A0.tl.tl.tl).b1; have cel3 := (A0.tl.tl.tl).x1.lt; have cen3 := Nat.ne_of_lt cel3; have ceg3 := Nat.ne_of_gt cel3; obtain ⟨ce40, ce41⟩ := (A0.tl.tl.tl.tl).b1; have cel4 := (A0.tl.tl.tl.tl).x1.lt; have cen4 := Nat.ne_of_lt cel4; have ceg4 := Nat.ne_of_gt cel4; obtain ⟨ce50, ce51⟩ := (A0.tl.tl.tl.tl.tl).b1; have cel5 := (A0.tl.tl.tl.tl.tl).x1.lt; have cen5 := Nat.ne_of_lt cel5; have ceg5 := Nat.ne_of_gt cel5
    have B0 := (A0.new (t := 24) (u := .int .i64 na) (v := .int .u64 nb) rfl).drew
    clear A0
    go_wp2_with fail
    clear ce00 ce01 cen0 ceg0 cel0 ce10 ce11 cen1 ceg1 cel1 ce20 ce21 cen2 ceg2 cel2 ce30 ce31 cen3 ceg3 cel3 ce40 ce41 cen4 ceg4 cel4 ce50 ce51 cen5 ceg5 cel5
    go_region_held3 (fun w' => (w'.cell? ⟨w5.heap.size, 0, none⟩ = some (.int .i64 na) ∧ w'.cell? ⟨w5.heap.size, 1, none⟩ = some (.int .u64 nb)) ∧ (w'.cell? ⟨w4.heap.size, 0, none⟩ = some (.int .i64 da) ∧ w'.cell? ⟨w4.heap.size, 1, none⟩ = some (.int .u64 db)) ∧ (w'.cell? ⟨w3.heap.size, 0, none⟩ = some (.int .i64 sa) ∧ w'.cell? ⟨w3.heap.size, 1, none⟩ = some (.int .u64 sb)) ∧ (w'.cell? ⟨g6, 0, none⟩ = some (.bool x') ∧ w'.cell? ⟨g6, 1, none⟩ = some (.slice A' p' c')) ∧ (w'.cell? ⟨g5, 0, none⟩ = some (.bool x) ∧ w'.cell? ⟨g5, 1, none⟩ = some (.slice A p c))) (first | with_reducible exact ⟨C8.b1, C8.tl.b1, C8.tl.tl.b1, C8.tl.tl.tl.b1, C8.tl.tl.tl.tl.b1⟩ | with_reducible exact ⟨C7.b1, C7.tl.b1, C7.tl.tl.b1, C7.tl.tl.tl.b1, C7.tl.tl.tl.tl.b1⟩ | with_reducible exact ⟨C6.b1, C6.tl.b1, C6.tl.tl.b1, C6.tl.tl.tl.b1, C6.tl.tl.tl.tl.b1⟩ | with_reducible exact ⟨C5.b1, C5.tl.b1, C5.tl.tl.b1, C5.tl.tl.tl.b1, C5.tl.tl.tl.tl.b1⟩ | with_reducible exact ⟨C4.b1, C4.tl.b1, C4.tl.tl.b1, C4.tl.tl.tl.b1, C4.tl.tl.tl.tl.b1⟩ | with_reducible exact ⟨C3.b1, C3.tl.b1, C3.tl.tl.b1, C3.tl.tl.tl.b1, C3.tl.tl.tl.tl.b1⟩ | with_reducible exact ⟨C2.b1, C2.tl.b1, C2.tl.tl.b1, C2.tl.tl.tl.b1, C2.tl.tl.tl.tl.b1⟩ | with_reducible exact ⟨C1.b1, C1.tl.b1, C1.tl.tl.b1, C1.tl.tl.tl.b1, C1.tl.tl.tl.tl.b1⟩ | with_reducible exact ⟨B0.b1, B0.tl.b1, B0.tl.tl.b1, B0.tl.tl.tl.b1, B0.tl.tl.tl.tl.b1⟩)
      (first
        | (go_at_call 16; ((with_reducible refine (alive_any _ B0.tab).mono ?_); rintro e v1 ⟨rfl, hb⟩; have C1 := B0.call hb; clear hb))
        | (go_at_call 18; have _t := C4; ((with_reducible refine (rAdd_any _ _ _ _ _ _ _ _ _ _ _ C4.ntl.n1 k4 (lenF C4.ntl.n1 F1.out (by omega)) (Nat.le_trans (len20n k4 F2.out) (by omega))).mono ?_); rintro e v5 ⟨x5, A5, y5, c5, rfl, k5, hb⟩; have C5 := C4.call hb; clear hb))
        | (go_at_call 18; ((with_reducible refine (rAdd_any _ _ _ _ _ _ _ _ _ _ _ C1.ntl.n1 C1.n1 (lenF C1.ntl.n1 F1.out (by omega)) (lenF C1.n1 F2.out (by omega))).mono ?_); rintro e v2 ⟨x2, A2, y2, c2, rfl, k2, hb⟩; have C2 := C1.call hb; clear hb))
        | (go_at_call 17; ((with_reducible refine (same_any _ _ _ _ _ _ _ _ hs k2 (len20 k2 F1.out F2.out)).mono ?_); rintro e v3 ⟨rfl, hb⟩; have C3 := C2.call hb; clear hb))
        | (go_at_call 17; ((with_reducible refine (same_any _ _ _ _ _ _ _ _ hd (k5.conv Int.sub_eq_add_neg.symm) (len20s k5 F1.out F2.out)).mono ?_); rintro e v6 ⟨rfl, hb⟩; have C6 := C5.call hb; clear hb))
        | (go_at_call 17; ((with_reducible refine (same_any _ _ _ _ _ _ _ _ hn k7 (len20n k7 F1.out)).mono ?_); rintro e v8 ⟨rfl, hb⟩; have C8 := C7.call hb; clear hb))
        | (go_at_call 19; ((with_reducible refine (rNeg_any _ _ _ _ _ _ C3.n1 (lenF C3.n1 F2.out (by omega))).mono ?_); rintro e v4 ⟨x4, A4, y4, c4, rfl, k4, hb⟩; have C4 := C3.call hb; clear hb))
        | (go_at_call 19; ((with_reducible refine (rNeg_any _ _ _ _ _ _ C6.ntl.n1 (lenF C6.ntl.n1 F1.out (by omega))).mono ?_); rintro e v7 ⟨x7, A7, y7, c7, rfl, k7, hb⟩; have C7 := C6.call hb; clear hb)))
    all_goals
      go_wp2_with fail
      go_ret
      exact ⟨rfl, C8.below⟩
end Go.Proofs.YtdmjccbpghilcaaDoor
