/-
  The statements' own call 'alive' answers true. My own text.
-/
import Derived.Test.YtljkapolljgbiaaDoorTextB
import Derived.Test.YtljkapolljgbiaaDoorDivD
namespace Go.Proofs.YtljkapolljgbiaaDoor
open Go.RowKit Go.Lib
set_option linter.unusedVariables false

theorem eq_of {a b c d n : Int} (h : IsW a b n) (k : IsW c d n) : eqW a b c d = true := by rw [h.eqW k]; exact decide_eq_true rfl
theorem isW_max : IsW 9223372036854775807 0 170141183460469231713240559642174554112 := by unfold IsW; omega
theorem isW_hi1 : IsW 1 0 18446744073709551616 := by unfold IsW; omega
theorem text_p : itoa (-1208925819614629174706176) = [45, 49, 50, 48, 56, 57, 50, 53, 56, 49, 57, 54, 49, 52, 54, 50, 57, 49, 55, 52, 55, 48, 54, 49, 55, 54] := by
  unfold itoa
  rw [if_pos (by omega), show (-1208925819614629174706176 : Int).natAbs = 120892 * 10000000000000000000 + 5819614629174706176 by decide, (dec_two _ _ (by omega) (by omega)).1]
  decide +kernel
theorem textP_any (h l : Int) (w : World) (H : IsW h l (-1208925819614629174706176)) (htab : Tab w) :
    Calls Tryd.prog 4 #[.agg #[.int .i64 h, .int .u64 l]] w (RV (.string ⟨#[45, 49, 50, 48, 56, 57, 50, 53, 56, 49, 57, 54, 49, 52, 54, 50, 57, 49, 55, 52, 55, 48, 54, 49, 55, 54]⟩) w) := by
  have h := Text_any h l _ w H htab
  rw [text_p] at h
  exact h
def R5 (w : World) (e : Ending) (w' : World) : Prop := RV (.tuple #[.int .i64 (-5), .bool true]) w e w'
theorem small5 (h l : Int) (w : World) (H : IsW h l (-5)) : Calls Tryd.prog 15 #[.agg #[.int .i64 h, .int .u64 l]] w (R5 w) := (Small_any h l _ w H).mono fun e w' k => k
structure AliveW (w : World) (g1 g4 g10 : Nat) (qa qb ra rb pa pb ta tb : Int) (W : World) : Prop where
  b1 : Box W g1 (.int .i64 qa) (.int .u64 qb)
  b2 : Box W (g1 + 1) (.int .i64 ra) (.int .u64 rb)
  b4 : Box W g4 (.int .i64 pa) (.int .u64 pb)
  b10 : Box W g10 (.int .i64 ta) (.int .u64 tb)
  below : Below w.heap.size w W
  tab : Tab W
variable {w W w1 : World} {g1 g4 g10 : Nat} {qa qb ra rb pa pb ta tb : Int}
theorem AliveW.call (h : AliveW w g1 g4 g10 qa qb ra rb pa pb ta tb W) (hb : Below W.heap.size W w1) : AliveW w g1 g4 g10 qa qb ra rb pa pb ta tb w1 :=
  ⟨h.b1.call hb, h.b2.call hb, h.b4.call hb, h.b10.call hb, below_call h.below hb, Tab.call h.tab hb⟩
theorem AliveW.s (h : AliveW w g1 g4 g10 qa qb ra rb pa pb ta tb W) : (W.cell? ⟨g1, 0, none⟩ = some (.int .i64 qa) ∧ W.cell? ⟨g1, 1, none⟩ = some (.int .u64 qb)) ∧ (W.cell? ⟨g1 + 1, 0, none⟩ = some (.int .i64 ra) ∧ W.cell? ⟨g1 + 1, 1, none⟩ = some (.int .u64 rb)) ∧ (W.cell? ⟨g4, 0, none⟩ = some (.int .i64 pa) ∧ W.cell? ⟨g4, 1, none⟩ = some (.int .u64 pb)) ∧ (W.cell? ⟨g10, 0, none⟩ = some (.int .i64 ta) ∧ W.cell? ⟨g10, 1, none⟩ = some (.int .u64 tb)) := ⟨h.b1.1, h.b2.1, h.b4.1, h.b10.1⟩
set_option maxHeartbeats 4000000 in
set_option maxRecDepth 100000 in
theorem alive_any (w : World) (htab : Tab w) : Calls Tryd.prog 7 #[] w (RV (.bool true) w) := by
  go_enter Tryd.func7, Tryd.ntmps7
  go_wp2_with fail
  refine (Of_any (-7) _ (by omega) (by omega)).mono ?_
  rintro e w1 ⟨a1, b1, rfl, h1, hb1⟩
  go_wp2_with fail
  refine (Of_any 2 _ (by omega) (by omega)).mono ?_
  rintro e w2 ⟨a2, b2, rfl, h2, hb2⟩
  go_wp2_with fail
  refine (Div_yes _ _ _ _ _ _ _ h1 h2 (by omega)).mono ?_
  rintro e w3 ⟨qa, qb, ra, rb, rfl, hq, hr, hb3⟩
  have hq : IsW qa qb (-4) := hq
  have hr : IsW ra rb 1 := hr
  go_wp2_with fail
  refine (Of_any 1099511627776 _ (by omega) (by omega)).mono ?_
  rintro e w4 ⟨a4, b4, rfl, h4, hb4⟩
  go_wp2_with fail
  refine (Of_any (-1099511627776) _ (by omega) (by omega)).mono ?_
  rintro e w5 ⟨a5, b5, rfl, h5, hb5⟩
  go_wp2_with fail
  refine (Mul_any _ _ _ _ _ _ _ h4 h5).mono ?_
  rintro e w6 ⟨pa, pb, rfl, hp, hb6⟩
  have hp : IsW pa pb (-1208925819614629174706176) := hp
  have pf : fits (-1208925819614629174706176) = true := by decide
  go_wp2_with fail
  refine (Add_any _ _ _ _ _ _ _ isW_max isW_hi1).mono ?_
  rintro e w7 ⟨sa, sb, rfl, hs, hb7⟩
  have sf : fits 170141183460469231731687303715884105728 = false := by decide
  go_wp2_with fail
  refine (Of_any (-5) _ (by omega) (by omega)).mono ?_
  rintro e w8 ⟨a8, b8, rfl, h8, hb8⟩
  go_wp2_with fail
  refine (small5 _ _ _ h8).mono ?_
  rintro e w9 ⟨rfl, hb9⟩
  go_wp2_with fail
  refine (Of_any 3 _ (by omega) (by omega)).mono ?_
  rintro e w10 ⟨a10, b10, rfl, h10, hb10⟩
  go_wp2_with fail
  refine (Shl_pos _ _ 3 2 _ h10 (by omega) (by omega) (by omega)).mono ?_
  rintro e w11 ⟨ta, tb, rfl, ht, hb11⟩
  have ht : IsW ta tb 12 := ht
  have tf : fits 12 = true := by decide
  go_wp2_with fail
  refine wp_at ?_
  intro W hW
  have hbW : Below w.heap.size w W := by rw [hW]; (repeat (first | (with_reducible exact Below.refl _ _) | with_reducible assumption | (with_reducible refine below_alloc ?_ _) | (focus ((with_reducible refine below_set ?_ _ _ _ ?_); rotate_left; omega)) | (with_reducible refine Below.drew ?_) | (with_reducible refine below_call ?_ hb11) | (with_reducible refine below_call ?_ hb10) | (with_reducible refine below_call ?_ hb9) | (with_reducible refine below_call ?_ hb8) | (with_reducible refine below_call ?_ hb7) | (with_reducible refine below_call ?_ hb6) | (with_reducible refine below_call ?_ hb5) | (with_reducible refine below_call ?_ hb4) | (with_reducible refine below_call ?_ hb3) | (with_reducible refine below_call ?_ hb2) | (with_reducible refine below_call ?_ hb1)))
  have G1 : Box W w3.heap.size (.int .i64 qa) (.int .u64 qb) := by rw [hW]; (repeat (first | with_reducible assumption | (focus ((with_reducible refine Box.new ?_); simp; done)) | (with_reducible refine Box.alloc ?_ _) | (with_reducible refine Box.drew ?_) | (with_reducible refine Box.put ?_) | (focus ((with_reducible refine Box.set ?_ _ ?_); rotate_left; omega)) | (focus ((with_reducible apply HasBox.of); with_reducible assumption)) | (focus ((with_reducible refine HasBox.new ?_); simp; done)) | (with_reducible refine HasBox.set ?_ _ _) | (with_reducible refine HasBox.drew ?_) | (with_reducible refine HasBox.alloc ?_ _) | (with_reducible refine Box.call ?_ hb11) | (with_reducible refine HasBox.call ?_ hb11) | (with_reducible refine Box.call ?_ hb10) | (with_reducible refine HasBox.call ?_ hb10) | (with_reducible refine Box.call ?_ hb9) | (with_reducible refine HasBox.call ?_ hb9) | (with_reducible refine Box.call ?_ hb8) | (with_reducible refine HasBox.call ?_ hb8) | (with_reducible refine Box.call ?_ hb7) | (with_reducible refine HasBox.call ?_ hb7) | (with_reducible refine Box.call ?_ hb6) | (with_reducible refine HasBox.call ?_ hb6) | (with_reducible refine Box.call ?_ hb5) | (with_reducible refine HasBox.call ?_ hb5) | (with_reducible refine Box.call ?_ hb4) | (with_reducible refine HasBox.call ?_ hb4)))
  have G2 : Box W (w3.heap.size + 1) (.int .i64 ra) (.int .u64 rb) := by rw [hW]; (repeat (first | with_reducible assumption | (focus ((with_reducible refine Box.new ?_); simp; done)) | (with_reducible refine Box.alloc ?_ _) | (with_reducible refine Box.drew ?_) | (with_reducible refine Box.put ?_) | (focus ((with_reducible refine Box.set ?_ _ ?_); rotate_left; omega)) | (focus ((with_reducible apply HasBox.of); with_reducible assumption)) | (focus ((with_reducible refine HasBox.new ?_); simp; done)) | (with_reducible refine HasBox.set ?_ _ _) | (with_reducible refine HasBox.drew ?_) | (with_reducible refine HasBox.alloc ?_ _) | (with_reducible refine Box.call ?_ hb11) | (with_reducible refine HasBox.call ?_ hb11) | (with_reducible refine Box.call ?_ hb10) | (with_reducible refine HasBox.call ?_ hb10) | (with_reducible refine Box.call ?_ hb9) | (with_reducible refine HasBox.call ?_ hb9) | (with_reducible refine Box.call ?_ hb8) | (with_reducible refine HasBox.call ?_ hb8) | (with_reducible refine Box.call ?_ hb7) | (with_reducible refine HasBox.call ?_ hb7) | (with_reducible refine Box.call ?_ hb6) | (with_reducible refine HasBox.call ?_ hb6) | (with_reducible refine Box.call ?_ hb5) | (with_reducible refine HasBox.call ?_ hb5) | (with_reducible refine Box.call ?_ hb4) | (with_reducible refine HasBox.call ?_ hb4)))
  have G4 : Box W w6.heap.size (.int .i64 pa) (.int .u64 pb) := by rw [hW]; (repeat (first | with_reducible assumption | (focus ((with_reducible refine Box.new ?_); simp; done)) | (with_reducible refine Box.alloc ?_ _) | (with_reducible refine Box.drew ?_) | (with_reducible refine Box.put ?_) | (focus ((with_reducible refine Box.set ?_ _ ?_); rotate_left; omega)) | (focus ((with_reducible apply HasBox.of); with_reducible assumption)) | (focus ((with_reducible refine HasBox.new ?_); simp; done)) | (with_reducible refine HasBox.set ?_ _ _) | (with_reducible refine HasBox.drew ?_) | (with_reducible refine HasBox.alloc ?_ _) | (with_reducible refine Box.call ?_ hb11) | (with_reducible refine HasBox.call ?_ hb11) | (with_reducible refine Box.call ?_ hb10) | (with_reducible refine HasBox.call ?_ hb10) | (with_reducible refine Box.call ?_ hb9) | (with_reducible refine HasBox.call ?_ hb9) | (with_reducible refine Box.call ?_ hb8) | (with_reducible refine HasBox.call ?_ hb8) | (with_reducible refine Box.call ?_ hb7) | (with_reducible refine HasBox.call ?_ hb7)))
  have G10 : Box W w11.heap.size (.int .i64 ta) (.int .u64 tb) := by rw [hW]; (repeat (first | with_reducible assumption | (focus ((with_reducible refine Box.new ?_); simp; done)) | (with_reducible refine Box.alloc ?_ _) | (with_reducible refine Box.drew ?_) | (with_reducible refine Box.put ?_) | (focus ((with_reducible refine Box.set ?_ _ ?_); rotate_left; omega)) | (focus ((with_reducible apply HasBox.of); with_reducible assumption)) | (focus ((with_reducible refine HasBox.new ?_); simp; done)) | (with_reducible refine HasBox.set ?_ _ _) | (with_reducible refine HasBox.drew ?_) | (with_reducible refine HasBox.alloc ?_ _)))
  have tW : Tab W := Tab.call htab hbW
  clear hW hb11 hb10 hb9 hb8 hb7 hb6 hb5 hb4 hb3 hb2 hb1 h1 h2 h4 h5 h8 h10 hs htab
  generalize w3.heap.size = g1 at *
  generalize w6.heap.size = g4 at *
  generalize w11.heap.size = g10 at *
  have o1 : Hid (∀ w, Calls Tryd.prog 12 #[.int .i64 (-4)] w (RW (-4) w)) := fun w => Of_any _ w (by omega) (by omega)
  have o2 : Hid (∀ w, Calls Tryd.prog 12 #[.int .i64 1] w (RW 1 w)) := fun w => Of_any _ w (by omega) (by omega)
  have o3 : Hid (∀ w, Calls Tryd.prog 12 #[.int .i64 12] w (RW 12 w)) := fun w => Of_any _ w (by omega) (by omega)
  have o4 : Hid (∀ w, Calls Tryd.prog 12 #[.int .i64 (-12)] w (RW (-12) w)) := fun w => Of_any _ w (by omega) (by omega)
  have c1 : Hid (∀ w, Calls Tryd.prog 17 #[.agg #[.int .i64 pa, .int .u64 pb], .agg #[.int .i64 qa, .int .u64 qb]] w (RV (.int .i64 (-1)) w)) := fun w => Cmp_any _ _ _ _ _ _ w hp hq
  have c2 : Hid (∀ w, Calls Tryd.prog 18 #[.agg #[.int .i64 pa, .int .u64 pb]] w (RV (.int .i64 (-1)) w)) := fun w => Sign_any _ _ _ w hp
  have c3 : Hid (∀ w, Calls Tryd.prog 19 #[.int .i64 3, .int .i64 (-4)] w (RW (-12) w)) := fun w => Times_any _ _ w (by omega) (by omega) (by omega) (by omega)
  have c4 : Hid (∀ w, Tab w → Calls Tryd.prog 4 #[.agg #[.int .i64 pa, .int .u64 pb]] w (RV (.string ⟨#[45, 49, 50, 48, 56, 57, 50, 53, 56, 49, 57, 54, 49, 52, 54, 50, 57, 49, 55, 52, 55, 48, 54, 49, 55, 54]⟩) w)) := fun w t => textP_any _ _ w hp t
  have A0 : AliveW w g1 g4 g10 qa qb ra rb pa pb ta tb W.drew := ⟨G1.drew, G2.drew, G4.drew, G10.drew, hbW.drew, Tab.call tW ((Below.refl _ _).drew)⟩
  have s1 := G1.1; have s2 := G2.1; have s4 := G4.1; have s10 := G10.1
  clear G1 G2 G4 G10 hbW tW
  go_region_held3 (fun w' => (w'.cell? ⟨g1, 0, none⟩ = some (.int .i64 qa) ∧ w'.cell? ⟨g1, 1, none⟩ = some (.int .u64 qb)) ∧ (w'.cell? ⟨g1 + 1, 0, none⟩ = some (.int .i64 ra) ∧ w'.cell? ⟨g1 + 1, 1, none⟩ = some (.int .u64 rb)) ∧ (w'.cell? ⟨g4, 0, none⟩ = some (.int .i64 pa) ∧ w'.cell? ⟨g4, 1, none⟩ = some (.int .u64 pb)) ∧ (w'.cell? ⟨g10, 0, none⟩ = some (.int .i64 ta) ∧ w'.cell? ⟨g10, 1, none⟩ = some (.int .u64 tb)))
    (first | with_reducible exact A8.s | with_reducible exact A7.s | with_reducible exact A6.s | with_reducible exact A5.s | with_reducible exact A4.s | with_reducible exact A3.s | with_reducible exact A2.s | with_reducible exact A1.s | with_reducible exact A0.s)
    (first
      | (go_at_call 12; ((with_reducible refine (o1.out _).mono ?_); rintro e v1 ⟨x1, y1, rfl, k1, hb1⟩; have E1 := eq_of hq k1; have A1 := A0.call hb1; clear hb1))
      | (go_at_call 12; ((with_reducible refine (o2.out _).mono ?_); rintro e v2 ⟨x2, y2, rfl, k2, hb2⟩; have E2 := eq_of hr k2; have A2 := A1.call hb2; clear hb2))
      | (go_at_call 4; ((with_reducible refine (c4.out _ A2.tab).mono ?_); rintro e v3 ⟨rfl, hb3⟩; have A3 := A2.call hb3; clear hb3))
      | (go_at_call 12; ((with_reducible refine (o3.out _).mono ?_); rintro e v4 ⟨x4, y4, rfl, k4, hb4⟩; have E4 := eq_of ht k4; have A4 := A3.call hb4; clear hb4))
      | (go_at_call 17; ((with_reducible refine (c1.out _).mono ?_); rintro e v5 ⟨rfl, hb5⟩; have A5 := A4.call hb5; clear hb5))
      | (go_at_call 18; ((with_reducible refine (c2.out _).mono ?_); rintro e v6 ⟨rfl, hb6⟩; have A6 := A5.call hb6; clear hb6))
      | (go_at_call 19; ((with_reducible refine (c3.out _).mono ?_); rintro e v7 ⟨x7, y7, rfl, k7, hb7⟩; have A7 := A6.call hb7; clear hb7))
      | (go_at_call 12; ((with_reducible refine (o4.out _).mono ?_); rintro e v8 ⟨x8, y8, rfl, k8, hb8⟩; have E8 := eq_of k7 k8; have A8 := A7.call hb8; clear hb8)))
  all_goals
    go_wp2_with fail
    go_ret
    exact ⟨rfl, A8.below⟩
end Go.Proofs.YtljkapolljgbiaaDoor
