/-
  Contracts of the reference package: Div. My own text.
-/
import Derived.Test.YtinjgiigmlikpaaRefS
import Derived.Test.YtinjgiigmlikpaaRegT
import Derived.Deep.LoopGhost
import Derived.Deep.DrawnRows
namespace Go.Proofs.Ytinjgiigmlikpaa
open Go.RowKit
set_option linter.unusedVariables false
set_option linter.unusedSimpArgs false
attribute [local go_sem ↓] Go.wp_at_zero Go.wp_at_succ

/-- trim, in a row of which it is known where it lies. -/
theorem trim_fr (neg : Bool) (A : Option Addr) (l c : Nat) (ds : List Int) (w : World) (b : Nat) (h : Dg w A l c ds) (hd : IsD ds) (hl : l ≤ 1000) (hF : Fr b A) :
    Calls Try.prog 48 #[.agg #[.bool neg, .slice A l c]] w fun e w' => ∃ x A' l' c', e = .returned (.agg #[.bool x, .slice A' l' c']) ∧ IsN w' x A' l' c' (sg neg (dval ds)) ∧ Below w.heap.size w w' ∧ Hid (Fr b A') :=
  (trim_same neg A l c ds w h hd hl).mono fun _ _ ⟨x, l', h1, h2, h3⟩ => ⟨x, A, l', c, h1, h2, h3, hF⟩
/-- two numbers come back. -/
def RN2 (n m : Int) (w : World) (e : Ending) (w' : World) : Prop := ∃ x A l c y B k d, e = .returned (.tuple #[.agg #[.bool x, .slice A l c], .agg #[.bool y, .slice B k d]]) ∧ IsN w' x A l c n ∧ IsN w' y B k d m ∧ Below w.heap.size w w'
/-- two numbers come back, in new memory. -/
def RN2F (n m : Int) (w : World) (e : Ending) (w' : World) : Prop := ∃ x A l c y B k d, e = .returned (.tuple #[.agg #[.bool x, .slice A l c], .agg #[.bool y, .slice B k d]]) ∧ IsN w' x A l c n ∧ IsN w' y B k d m ∧ Below w.heap.size w w' ∧ Fr w.heap.size A ∧ Fr w.heap.size B
theorem rest_len {w : World} {z : Bool} {C : Option Addr} {p e m : Nat} {r b : Int} (h : IsN w z C p e r) (hb : b < 10000 ^ m) (h0 : 0 ≤ r) (h1 : r < 10000 * b) : p ≤ m + 1 := h.len (by rw [Int.pow_succ]; omega)
theorem Std.lt {neg : Bool} {ds : List Int} {n : Int} (h : Std neg ds n) : n < 10000 ^ ds.length := by have := dval_lt h.dg; have := h.abs; omega
theorem divI_bd {ds qs : List Int} {k : Nat} {b r d : Int} (h : DivI ds qs k b r d) (hb : 0 < b) : 0 ≤ r ∧ r < 10000 * b ∧ 0 ≤ d := by
  obtain ⟨h1, h2, h3, h4, h5, h6⟩ := h
  refine ⟨h2, ?_, h4⟩
  have : (10000 - d) * b ≤ 10000 * b := Int.mul_le_mul_of_nonneg_right (by omega) (by omega)
  omega
theorem wpAt {P : Program} {c : Code} {Q : Exit → Act → World → Prop} {a : Act} {W : World} (h : ∀ W', W' = W → c.wp P Q a W') : c.wp P Q a W := h W rfl
theorem keepB {W : World} {b b' : Nat} {u v u' v' : Value} (h : Box W b u v) (k : Box W b' u' v') : (W.cell? ⟨b, 0, none⟩ = some u ∧ W.cell? ⟨b, 1, none⟩ = some v) ∧ (W.cell? ⟨b', 0, none⟩ = some u' ∧ W.cell? ⟨b', 1, none⟩ = some v') := ⟨h.1, k.1⟩
theorem keepB3 {W : World} {b b' b'' : Nat} {u v u' v' u'' v'' : Value} (h : Box W b u v) (k : Box W b' u' v') (l : Box W b'' u'' v'') : (W.cell? ⟨b, 0, none⟩ = some u ∧ W.cell? ⟨b, 1, none⟩ = some v) ∧ (W.cell? ⟨b', 0, none⟩ = some u' ∧ W.cell? ⟨b', 1, none⟩ = some v') ∧ (W.cell? ⟨b'', 0, none⟩ = some u'' ∧ W.cell? ⟨b'', 1, none⟩ = some v'') := ⟨h.1, k.1, l.1⟩
theorem app_below {w w' : World} {o : Obj} (h : (w.alloc o).drew.grownBy w' (some w.heap.size)) : Below w.heap.size w w' :=
  (((Below.refl _ _).alloc (Nat.le_refl _) o).drew).grown h (by simp) (fun j hj => by cases hj; exact Nat.le_refl _)
set_option maxHeartbeats 4000000 in
set_option maxRecDepth 100000 in
theorem rDiv_new (x y : Bool) (A B : Option Addr) (l c m d : Nat) (n b : Int) (w : World) (h : IsN w x A l c n) (k : IsN w y B m d b) (hb0 : 0 < b) (hl : l ≤ 400) (hm : m ≤ 400) :
    Calls Try.prog 54 #[.agg #[.bool x, .slice A l c], .agg #[.bool y, .slice B m d]] w (RN2F (n / b) (n % b) w) := by
  obtain ⟨ds, hD, hS⟩ := h
  have hbm : b < 10000 ^ m := by obtain ⟨es, k1, k2⟩ := k; rw [← k1.1]; exact k2.lt
  have hm0 : 0 < m := by
    rcases Nat.eq_zero_or_pos m with q | q
    · subst q; simp at hbm; omega
    · exact q
  obtain ⟨i0, hi0, hz0, hz1, hz2⟩ := info_parts info_int
  have I0 := Lib.hid hi0
  have I1 := Lib.hid hz0
  have I2 := Lib.hid hz1
  have I3 := Lib.hid hz2
  have D1 := Lib.hid hD
  have L1 := Lib.hid hD.1
  have SS := Lib.hid hS
  have HB := Lib.hid hbm
  have K := Lib.hid k
  have n1 : ¬ (w.heap.size + 1 = w.heap.size) := by omega
  clear hi0 hz0 hz1 hz2 hD hS hbm k
  go_enter Try.func54, Try.ntmps54
  go_wp2_with (at_make; refine wpList_make_full _ rfl _ _ 29 rfl (w.heap.size + 1 + 1 + 1 + 1) 3 i0 (.int .i64 0) 1 Try.underlying29 I0.out I1.out I2.out .i64 .i64 _ _ l rfl rfl rfl rfl (by rw [I3.out]; omega) (by simp only [maxLen]; omega) (by simp) ?_; intro w3 hown hg; have MW := divW_made (w := w) (x := x) (A := A) (l := l) (c := c) (ds := ds) (y := y) (B := B) (m := m) (d := d) rfl (by simp) ((((Box.new rfl).alloc _).alloc _).alloc _) (((Box.new (by simp)).alloc _).alloc _) ((Box.new (by simp)).alloc _) (Box.new (by simp)) (by (repeat (first | (with_reducible exact Below.refl _ _) | with_reducible assumption | (with_reducible refine below_alloc ?_ _) | (focus ((with_reducible refine below_set ?_ _ _ _ ?_); rotate_left; omega)) | (with_reducible refine Below.drew ?_)))) K.out hm0 hown hg; clear hown hg; obtain ⟨hg5, MW⟩ := MW; obtain ⟨⟨p1, p2⟩, p3, p4⟩ := id MW.b0; replace MW := Lib.hid MW)
  have hd := Lib.hid SS.out.dg
  go_loopw [8] (fun i wr => ∃ (k : Nat) (qs : List Int) (z : Bool) (C : Option Addr) (p e : Nat) (r : Int), i = .int .i64 ((k : Int) - 1) ∧ k ≤ l ∧ DivW w w3.heap.size wr x A l c ds y B m d b qs z C p e r ∧ DivO ds qs k b r) (fun i _ => (intOf i + 1).toNat)
  case atStart => exact ⟨l, _, _, _, _, _, _, rfl, Nat.le_refl _, MW.out, by have := divO_start ds hb0 (qs := List.replicate l 0) (fun j => getD_zeros _ j) (by simp [L1.out]); rw [L1.out] at this; exact this⟩
  case round =>
    obtain ⟨k, qs, z, C, p, e, r, rfl, hk, hW, hO⟩ := hrel
    clear MW p1 p2 p3 p4
    obtain ⟨⟨p1, p2⟩, p3, p4⟩ := id hW.b0
    have hr0 := hO.2.1
    have hr1 := hO.2.2.1
    have hpl := rest_len hW.nr HB.out hr0 (by omega)
    rcases k with _ | k
    · rw [show (((0 : Nat) : Int) - 1) = -1 from rfl]
      have hv := divO_end hO
      have hn := SS.out.val
      have C0 := Lib.hid (trim_fr x _ _ _ qs wr w.heap.size hW.row hW.dg (show l ≤ 1000 by omega) (fun a e => by cases e; show w.heap.size ≤ w.heap.size + 1 + 1 + 1 + 1; omega))
      have FC : Hid (Fr w.heap.size C) := fun a e => by have := hW.fr a e; omega
      have WW := Lib.hid hW
      have HV := Lib.hid hv
      have HN := Lib.hid hn
      clear hW hO hv hn
      cases x
      · go_wp2_with (go_at_call 48; ((with_reducible refine (C0.out).mono ?_); rintro e w1 ⟨x1, A1, l1, c1, rfl, h1, hb1, FA⟩; have W1 := WW.out.call hb1; clear hb1 p1 p2 p3 p4; obtain ⟨⟨p1, p2⟩, p3, p4⟩ := id W1.b0; obtain ⟨⟨y1, y2⟩, y3, y4⟩ := id W1.br; have p5 := W1.b0.lt; have p6 := Nat.ne_of_lt W1.b0.lt; have y5 := W1.br.lt; have y6 := Nat.ne_of_lt W1.br.lt))
        refine wpAt ?_
        intro W hW
        have V := W1.call ((Below.refl _ _).alloc (Nat.le_refl _) (.cells #[.bool x1, .slice A1 l1 c1] 31))
        have BO : Box W w1.heap.size (.bool x1) (.slice A1 l1 c1) := by rw [hW]; exact Box.new rfl
        have NO := h1.alloc (.cells #[.bool x1, .slice A1 l1 c1] 31)
        have lo := W1.b3.lt
        have lr := W1.br.lt
        rw [← hW] at V NO
        have BR := V.br
        have BB := V.b1
        have B2 := V.b2
        have B3 := V.b3
        have NR := V.nr
        have NB := V.nb
        have bl := V.below
        obtain ⟨⟨o1, o2⟩, o3, o4⟩ := id BO
        obtain ⟨⟨r1, r2⟩, r3, r4⟩ := id BR
        obtain ⟨⟨t1, t2⟩, t3, t4⟩ := id B2
        obtain ⟨⟨u1, u2⟩, u3, u4⟩ := id B3
        have ne1 : ¬ (w1.heap.size = w.heap.size + 1 + 1) := by omega
        have ne2 : ¬ (w1.heap.size = w.heap.size + 1 + 1 + 1) := by omega
        have ne3 : ¬ (w3.heap.size = w.heap.size + 1 + 1) := by omega
        have ne4 : ¬ (w3.heap.size = w.heap.size + 1 + 1 + 1) := by omega
        have ne5 : ¬ (w.heap.size + 1 + 1 = w.heap.size + 1 + 1 + 1) := by omega
        clear hW V W1 WW h1 p1 p2 p3 p4 p5 p6 y1 y2 y3 y4 y5 y6
        go_region_held3 (fun w' => (w'.cell? ⟨w1.heap.size, 0, none⟩ = some (.bool x1) ∧ w'.cell? ⟨w1.heap.size, 1, none⟩ = some (.slice A1 l1 c1)) ∧ (w'.cell? ⟨w3.heap.size, 0, none⟩ = some (.bool z) ∧ w'.cell? ⟨w3.heap.size, 1, none⟩ = some (.slice C p e))) (first | (refine keepB ?_ ?_ <;> ((repeat (first | with_reducible assumption | (focus ((with_reducible refine Box.new ?_); simp; done)) | (with_reducible refine Box.alloc ?_ _) | (with_reducible refine Box.drew ?_) | (with_reducible refine Box.put ?_) | (focus ((with_reducible refine Box.set ?_ _ ?_); rotate_left; omega)) | (focus ((with_reducible apply HasBox.of); with_reducible assumption)) | (focus ((with_reducible refine HasBox.new ?_); simp; done)) | (with_reducible refine HasBox.set ?_ _ _) | (with_reducible refine HasBox.drew ?_) | (with_reducible refine HasBox.alloc ?_ _))); done)) | go_keep) (fail)
        all_goals
          go_wp2_with fail
          refine bodyPost_ret (v := .tuple #[.agg #[.bool x1, .slice A1 l1 c1], .agg #[.bool z, .slice C p e]]) (by simp only [results, Try.results54]; go_simp) rfl ⟨_, _, _, _, _, _, _, _, rfl, ?_, ?_, ?_, FA, FC⟩
          · refine IsN.conv (n := sg false (dval qs)) ?_ (by rw [sg_false]; have hh := fdiv_pos HV.out.1 HV.out.2.1 HV.out.2.2; have := HN.out; rw [sg_false] at this; rw [this]; exact hh.1.symm)
            (repeat (first | with_reducible assumption | (with_reducible refine IsN.alloc ?_ _) | (with_reducible refine IsN.drew ?_) | (with_reducible refine IsN.put ?_ ?_) | (with_reducible refine HasBB.put ?_) | (focus ((with_reducible apply HasBB.of); with_reducible assumption)) | (focus ((with_reducible refine HasBB.new ?_); simp; done)) | (with_reducible refine HasBB.drew ?_) | (with_reducible refine HasBB.alloc ?_ _) | (focus ((with_reducible refine HasBB.set ?_ _ ?_); rotate_left; omega))))
          · refine IsN.conv (n := r) ?_ (by have hh := fdiv_pos HV.out.1 HV.out.2.1 HV.out.2.2; have := HN.out; rw [sg_false] at this; rw [this]; exact hh.2.symm)
            (repeat (first | with_reducible assumption | (with_reducible refine IsN.alloc ?_ _) | (with_reducible refine IsN.drew ?_) | (with_reducible refine IsN.put ?_ ?_) | (with_reducible refine HasBB.put ?_) | (focus ((with_reducible apply HasBB.of); with_reducible assumption)) | (focus ((with_reducible refine HasBB.new ?_); simp; done)) | (with_reducible refine HasBB.drew ?_) | (with_reducible refine HasBB.alloc ?_ _) | (focus ((with_reducible refine HasBB.set ?_ _ ?_); rotate_left; omega))))
          · (repeat (first | (with_reducible exact Below.refl _ _) | with_reducible assumption | (with_reducible refine below_alloc ?_ _) | (focus ((with_reducible refine below_set ?_ _ _ _ ?_); rotate_left; omega)) | (with_reducible refine Below.drew ?_)))
      · have hp := (show (p = 0 ↔ r = 0) by obtain ⟨es, k1, k2⟩ := WW.out.nr; rw [← k1.1]; exact k2.nil_iff)
        by_cases hr : r = 0
        · have hp0 : p = 0 := hp.2 hr
          have HR := Lib.hid hr
          clear hp hr
          subst hp0
          go_wp2_with (go_at_call 48; ((with_reducible refine (C0.out).mono ?_); rintro e w1 ⟨x1, A1, l1, c1, rfl, h1, hb1, FA⟩; have W1 := WW.out.call hb1; clear hb1 p1 p2 p3 p4; obtain ⟨⟨p1, p2⟩, p3, p4⟩ := id W1.b0; obtain ⟨⟨y1, y2⟩, y3, y4⟩ := id W1.br; have p5 := W1.b0.lt; have p6 := Nat.ne_of_lt W1.b0.lt; have y5 := W1.br.lt; have y6 := Nat.ne_of_lt W1.br.lt))
          refine wpAt ?_
          intro W hW
          have V := W1.call ((Below.refl _ _).alloc (Nat.le_refl _) (.cells #[.bool x1, .slice A1 l1 c1] 31))
          have BO : Box W w1.heap.size (.bool x1) (.slice A1 l1 c1) := by rw [hW]; exact Box.new rfl
          have NO := h1.alloc (.cells #[.bool x1, .slice A1 l1 c1] 31)
          have lo := W1.b3.lt
          have lr := W1.br.lt
          rw [← hW] at V NO
          have BR := V.br
          have BB := V.b1
          have B2 := V.b2
          have B3 := V.b3
          have NR := V.nr
          have NB := V.nb
          have bl := V.below
          obtain ⟨⟨o1, o2⟩, o3, o4⟩ := id BO
          obtain ⟨⟨r1, r2⟩, r3, r4⟩ := id BR
          obtain ⟨⟨t1, t2⟩, t3, t4⟩ := id B2
          obtain ⟨⟨u1, u2⟩, u3, u4⟩ := id B3
          have ne1 : ¬ (w1.heap.size = w.heap.size + 1 + 1) := by omega
          have ne2 : ¬ (w1.heap.size = w.heap.size + 1 + 1 + 1) := by omega
          have ne3 : ¬ (w3.heap.size = w.heap.size + 1 + 1) := by omega
          have ne4 : ¬ (w3.heap.size = w.heap.size + 1 + 1 + 1) := by omega
          have ne5 : ¬ (w.heap.size + 1 + 1 = w.heap.size + 1 + 1 + 1) := by omega
          clear hW V W1 WW h1 p1 p2 p3 p4 p5 p6 y1 y2 y3 y4 y5 y6
          go_region_held3 (fun w' => (w'.cell? ⟨w1.heap.size, 0, none⟩ = some (.bool x1) ∧ w'.cell? ⟨w1.heap.size, 1, none⟩ = some (.slice A1 l1 c1)) ∧ (w'.cell? ⟨w3.heap.size, 0, none⟩ = some (.bool z) ∧ w'.cell? ⟨w3.heap.size, 1, none⟩ = some (.slice C 0 e))) (first | (refine keepB ?_ ?_ <;> ((repeat (first | with_reducible assumption | (focus ((with_reducible refine Box.new ?_); simp; done)) | (with_reducible refine Box.alloc ?_ _) | (with_reducible refine Box.drew ?_) | (with_reducible refine Box.put ?_) | (focus ((with_reducible refine Box.set ?_ _ ?_); rotate_left; omega)) | (focus ((with_reducible apply HasBox.of); with_reducible assumption)) | (focus ((with_reducible refine HasBox.new ?_); simp; done)) | (with_reducible refine HasBox.set ?_ _ _) | (with_reducible refine HasBox.drew ?_) | (with_reducible refine HasBox.alloc ?_ _))); done)) | go_keep) (fail)
          all_goals
            go_wp2_with fail
            refine bodyPost_ret (v := .tuple #[.agg #[.bool x1, .slice A1 l1 c1], .agg #[.bool z, .slice C 0 e]]) (by simp only [results, Try.results54]; go_simp) rfl ⟨_, _, _, _, _, _, _, _, rfl, ?_, ?_, ?_, FA, FC⟩
            · refine IsN.conv (n := sg true (dval qs)) ?_ (by rw [sg_true]; have hz := HV.out.1; rw [HR.out] at hz; have hh := fdiv_neg0 hz hb0; have := HN.out; rw [sg_true] at this; rw [this]; exact hh.1.symm)
              (repeat (first | with_reducible assumption | (with_reducible refine IsN.alloc ?_ _) | (with_reducible refine IsN.drew ?_) | (with_reducible refine IsN.put ?_ ?_) | (with_reducible refine HasBB.put ?_) | (focus ((with_reducible apply HasBB.of); with_reducible assumption)) | (focus ((with_reducible refine HasBB.new ?_); simp; done)) | (with_reducible refine HasBB.drew ?_) | (with_reducible refine HasBB.alloc ?_ _) | (focus ((with_reducible refine HasBB.set ?_ _ ?_); rotate_left; omega))))
            · refine IsN.conv (n := r) ?_ (by have hz := HV.out.1; rw [HR.out] at hz; have hh := fdiv_neg0 hz hb0; have := HN.out; rw [sg_true] at this; rw [this, HR.out]; exact hh.2.symm)
              (repeat (first | with_reducible assumption | (with_reducible refine IsN.alloc ?_ _) | (with_reducible refine IsN.drew ?_) | (with_reducible refine IsN.put ?_ ?_) | (with_reducible refine HasBB.put ?_) | (focus ((with_reducible apply HasBB.of); with_reducible assumption)) | (focus ((with_reducible refine HasBB.new ?_); simp; done)) | (with_reducible refine HasBB.drew ?_) | (with_reducible refine HasBB.alloc ?_ _) | (focus ((with_reducible refine HasBB.set ?_ _ ?_); rotate_left; omega))))
            · (repeat (first | (with_reducible exact Below.refl _ _) | with_reducible assumption | (with_reducible refine below_alloc ?_ _) | (focus ((with_reducible refine below_set ?_ _ _ _ ?_); rotate_left; omega)) | (with_reducible refine Below.drew ?_)))
        · have hp0 : 0 < p := by
            rcases Nat.eq_zero_or_pos p with q | q
            · exact absurd (hp.1 q) hr
            · exact q
          have hrp : 0 < r := by omega
          have hql : dval qs < 10000 ^ l := by have h1 := dval_lt WW.out.dg; rw [WW.out.len] at h1; exact h1
          have hqn := dval_nonneg WW.out.dg
          have HL := Lib.hid hql
          clear hp hr hql
          go_wp2_with (go_at_call 48; ((with_reducible refine (C0.out).mono ?_); rintro e w1 ⟨x1, A1, l1, c1, rfl, h1, hb1, FA⟩; have W1 := WW.out.call hb1; clear hb1 p1 p2 p3 p4; obtain ⟨⟨p1, p2⟩, p3, p4⟩ := id W1.b0; obtain ⟨⟨y1, y2⟩, y3, y4⟩ := id W1.br; have p5 := W1.b0.lt; have p6 := Nat.ne_of_lt W1.b0.lt; have y5 := W1.br.lt; have y6 := Nat.ne_of_lt W1.br.lt))
          have hl1 : l1 ≤ l := h1.len (by rw [sg_true]; have := HL.out; omega)
          refine wpAt ?_
          intro W hW
          have V := W1.call ((Below.refl _ _).alloc (Nat.le_refl _) (.cells #[.bool x1, .slice A1 l1 c1] 31))
          have BO : Box W w1.heap.size (.bool x1) (.slice A1 l1 c1) := by rw [hW]; exact Box.new rfl
          have NO := h1.alloc (.cells #[.bool x1, .slice A1 l1 c1] 31)
          have lo := W1.b3.lt
          have lr := W1.br.lt
          rw [← hW] at V NO
          have BR := V.br
          have BB := V.b1
          have B2 := V.b2
          have B3 := V.b3
          have NR := V.nr
          have NB := V.nb
          have bl := V.below
          obtain ⟨⟨o1, o2⟩, o3, o4⟩ := id BO
          obtain ⟨⟨r1, r2⟩, r3, r4⟩ := id BR
          obtain ⟨⟨t1, t2⟩, t3, t4⟩ := id B2
          obtain ⟨⟨u1, u2⟩, u3, u4⟩ := id B3
          have ne1 : ¬ (w1.heap.size = w.heap.size + 1 + 1) := by omega
          have ne2 : ¬ (w1.heap.size = w.heap.size + 1 + 1 + 1) := by omega
          have ne3 : ¬ (w3.heap.size = w.heap.size + 1 + 1) := by omega
          have ne4 : ¬ (w3.heap.size = w.heap.size + 1 + 1 + 1) := by omega
          have ne5 : ¬ (w.heap.size + 1 + 1 = w.heap.size + 1 + 1 + 1) := by omega
          clear hW V W1 WW h1 p1 p2 p3 p4 p5 p6 y1 y2 y3 y4 y5 y6
          have V2 := BO.drew
          have V3 := BR.drew
          have V4 := BB.drew
          have V5 := B2.drew
          have V6 := B3.drew
          have X0 := NO.drew
          have X1 := NR.drew
          have X2 := NB.drew
          have bl0 := bl.drew
          go_region_held3 (fun w' => (w'.cell? ⟨w1.heap.size, 0, none⟩ = some (.bool x1) ∧ w'.cell? ⟨w1.heap.size, 1, none⟩ = some (.slice A1 l1 c1)) ∧ (w'.cell? ⟨w3.heap.size, 0, none⟩ = some (.bool z) ∧ w'.cell? ⟨w3.heap.size, 1, none⟩ = some (.slice C p e)) ∧ (w'.cell? ⟨w.heap.size + 1, 0, none⟩ = some (.bool y) ∧ w'.cell? ⟨w.heap.size + 1, 1, none⟩ = some (.slice B m d))) (first | (refine keepB3 ?_ ?_ ?_ <;> ((repeat (first | with_reducible assumption | (focus ((with_reducible refine Box.new ?_); simp; done)) | (with_reducible refine Box.alloc ?_ _) | (with_reducible refine Box.drew ?_) | (with_reducible refine Box.put ?_) | (focus ((with_reducible refine Box.set ?_ _ ?_); rotate_left; omega)) | (focus ((with_reducible apply HasBox.of); with_reducible assumption)) | (focus ((with_reducible refine HasBox.new ?_); simp; done)) | (with_reducible refine HasBox.set ?_ _ _) | (with_reducible refine HasBox.drew ?_) | (with_reducible refine HasBox.alloc ?_ _) | (with_reducible refine Box.call ?_ hb7) | (with_reducible refine HasBox.call ?_ hb7) | (with_reducible refine Box.call ?_ hb6) | (with_reducible refine HasBox.call ?_ hb6) | (with_reducible refine Box.call ?_ hb5) | (with_reducible refine HasBox.call ?_ hb5) | (with_reducible refine Box.call ?_ hb4) | (with_reducible refine HasBox.call ?_ hb4))); done)) | go_keep)
            (first
              | (go_at_call 16; ((with_reducible refine (rOf_any (-1) _ (by omega) (by omega)).mono ?_); rintro e w4 ⟨x4, A4, l4, c4, rfl, k4, hb4⟩; have l4' : l4 ≤ 1 := k4.len (by decide); replace X0 := X0.call hb4; replace X1 := X1.call hb4; replace X2 := X2.call hb4))
              | (go_at_call 52; ((with_reducible refine (rAdd_new _ _ _ _ _ _ _ _ _ _ _ X0 k4 (by omega) (by omega)).mono ?_); rintro e w5 ⟨x5, A5, l5, c5, rfl, k5, hb5, hF5⟩; have FA5 : Hid (Fr w.heap.size A5) := (fun a e => Nat.le_trans (Nat.le_trans bl0.size hb4.size) (hF5 a e)); clear hF5; replace X1 := X1.call hb5; replace X2 := X2.call hb5))
              | (go_at_call 17; ((with_reducible refine (rNeg_any _ _ _ _ _ _ X1 (by omega)).mono ?_); rintro e w6 ⟨x6, A6, l6, c6, rfl, k6, hb6⟩; have l6' : l6 ≤ m + 1 := k6.len (by rw [Int.pow_succ]; have := HB.out; omega); replace X2 := X2.call hb6; replace k5 := k5.call hb6))
              | (go_at_call 52; ((with_reducible refine (rAdd_new _ _ _ _ _ _ _ _ _ _ _ X2 k6 (by omega) (by omega)).mono ?_); rintro e w7 ⟨x7, A7, l7, c7, rfl, k7, hb7, hF7⟩; have FA7 : Hid (Fr w.heap.size A7) := (fun a e => Nat.le_trans (Nat.le_trans (Nat.le_trans (Nat.le_trans bl0.size hb4.size) hb5.size) hb6.size) (hF7 a e)); clear hF7; replace k5 := k5.call hb7; have Z2 := (((V5.call hb4).call hb5).call hb6).call hb7; have Z3 := (((V6.call hb4).call hb5).call hb6).call hb7; obtain ⟨⟨a1, a2⟩, a3, a4⟩ := id Z2; obtain ⟨⟨b1, b2⟩, b3, b4⟩ := id Z3)))
          all_goals
            go_wp2_with fail
            refine bodyPost_ret (v := .tuple #[.agg #[.bool x5, .slice A5 l5 c5], .agg #[.bool x7, .slice A7 l7 c7]]) (by simp only [results, Try.results54]; go_simp) rfl ⟨_, _, _, _, _, _, _, _, rfl, ?_, ?_, ?_, FA5, FA7⟩
            · refine IsN.conv (n := sg true (dval qs) + -1) ?_ (by rw [sg_true]; have hh := fdiv_neg HV.out.1 hrp HV.out.2.2; have := HN.out; rw [sg_true] at this; rw [this]; exact hh.1.symm)
              (repeat (first | with_reducible assumption | (with_reducible refine IsN.alloc ?_ _) | (with_reducible refine IsN.drew ?_) | (with_reducible refine IsN.put ?_ ?_) | (with_reducible refine HasBB.put ?_) | (focus ((with_reducible apply HasBB.of); with_reducible assumption)) | (focus ((with_reducible refine HasBB.new ?_); simp; done)) | (with_reducible refine HasBB.drew ?_) | (with_reducible refine HasBB.alloc ?_ _) | (focus ((with_reducible refine HasBB.set ?_ _ ?_); rotate_left; omega)) | (with_reducible refine IsN.call ?_ hb7) | (with_reducible refine HasBB.call ?_ hb7) | (with_reducible refine IsN.call ?_ hb6) | (with_reducible refine HasBB.call ?_ hb6) | (with_reducible refine IsN.call ?_ hb5) | (with_reducible refine HasBB.call ?_ hb5) | (with_reducible refine IsN.call ?_ hb4) | (with_reducible refine HasBB.call ?_ hb4)))
            · refine IsN.conv (n := b + -r) ?_ (by have hh := fdiv_neg HV.out.1 hrp HV.out.2.2; have := HN.out; rw [sg_true] at this; rw [this]; exact hh.2.symm)
              (repeat (first | with_reducible assumption | (with_reducible refine IsN.alloc ?_ _) | (with_reducible refine IsN.drew ?_) | (with_reducible refine IsN.put ?_ ?_) | (with_reducible refine HasBB.put ?_) | (focus ((with_reducible apply HasBB.of); with_reducible assumption)) | (focus ((with_reducible refine HasBB.new ?_); simp; done)) | (with_reducible refine HasBB.drew ?_) | (with_reducible refine HasBB.alloc ?_ _) | (focus ((with_reducible refine HasBB.set ?_ _ ?_); rotate_left; omega)) | (with_reducible refine IsN.call ?_ hb7) | (with_reducible refine HasBB.call ?_ hb7) | (with_reducible refine IsN.call ?_ hb6) | (with_reducible refine HasBB.call ?_ hb6) | (with_reducible refine IsN.call ?_ hb5) | (with_reducible refine HasBB.call ?_ hb5) | (with_reducible refine IsN.call ?_ hb4) | (with_reducible refine HasBB.call ?_ hb4)))
            · (repeat (first | (with_reducible exact Below.refl _ _) | with_reducible assumption | (with_reducible refine below_alloc ?_ _) | (focus ((with_reducible refine below_set ?_ _ _ _ ?_); rotate_left; omega)) | (with_reducible refine Below.drew ?_) | (with_reducible refine below_call ?_ hb7) | (with_reducible refine below_call ?_ hb6) | (with_reducible refine below_call ?_ hb5) | (with_reducible refine below_call ?_ hb4)))
    · rw [show (((k + 1 : Nat) : Int) - 1) = (k : Int) by omega]
      obtain ⟨x1, x2, x3, h4⟩ := id D1.out
      obtain ⟨gA, hA, hgA, hcell⟩ := h4 (by omega)
      subst hA
      have HC := Lib.hid (fun W (hb : Below w.heap.size w W) => (hb.cell (p := ⟨gA, k, none⟩) hgA).trans (hcell k (by omega)))
      have DI := Lib.hid (divI_start hO hd.out)
      have gk := hd.out.getD k
      clear h4 hcell x1 x2 x3 hgA
      generalize ds.getD k 0 = dk at HC DI gk
      obtain ⟨es, hE, hES⟩ := id hW.nr
      have hisd : Hid (IsD (dk :: es)) := by
        intro q hq
        rcases List.mem_cons.1 hq with rfl | hq
        · exact gk
        · exact hES.dg q hq
      have hval : Hid (sg false (dval (dk :: es)) = dk + 10000 * r) := by
        unfold Hid
        rw [sg_false, dval_cons, hES.abs]
        omega
      have hqb := (hW.own.lt _ rfl).2
      have W0 := hW.drew
      have WW := Lib.hid hW
      have k0 : (0 : Int) ≤ (k : Int) := by omega
      have k1 : (k : Int) < (l : Int) := by omega
      clear hES hW hO p1 p2 p3 p4
      go_wp2_with fail
      have hSt10 := And.intro W0.b0.1.2 (And.intro (HC.out _ W0.below) W0.br.1.2)
      refine wp_region_T (S := (fun w' => w'.cell? ⟨w.heap.size, 1, none⟩ = some (.slice (some ⟨gA, 0, none⟩) l c) ∧ w'.cell? ⟨gA, k, none⟩ = some (.int .i64 dk) ∧ w'.cell? ⟨w3.heap.size, 1, none⟩ = some (.slice C p e))) (T := fun i => i == 11) (by kernel_rfl) ?_
      refine wpAnyT_take 11 (i := 0) (v := ?vt1_0) rfl (by kernel_rfl) (by kernel_rfl) (by kernel_rfl) (fun _ _ _ h => h) (Or.inl ⟨by rfl, ?yt1_0⟩) hSt10 ?rt1_0
      case yt1_0 => (intro w hSw; obtain ⟨_, _, _⟩ := id hSw; go_simp; try (with_reducible rfl))
      simp only [Act.put, List.setIfInBounds_toArray, List.set_cons_zero, List.set_cons_succ]
      refine wpAnyT_take 11 (i := 1) (v := ?vt1_1) rfl (by kernel_rfl) (by kernel_rfl) (by kernel_rfl) (fun _ _ _ h => h) (Or.inl ⟨by rfl, ?yt1_1⟩) hSt10 ?rt1_1
      case yt1_1 => (intro w hSw; obtain ⟨_, _, _⟩ := id hSw; go_simp; try (with_reducible rfl))
      simp only [Act.put, List.setIfInBounds_toArray, List.set_cons_zero, List.set_cons_succ]
      refine wpAnyT_take 11 (i := 2) (v := ?vt1_2) rfl (by kernel_rfl) (by kernel_rfl) (by kernel_rfl) (fun _ _ _ h => h) (Or.inl ⟨by rfl, ?yt1_2⟩) hSt10 ?rt1_2
      case yt1_2 => (intro w hSw; obtain ⟨_, _, _⟩ := id hSw; go_simp; try (with_reducible rfl))
      simp only [Act.put, List.setIfInBounds_toArray, List.set_cons_zero, List.set_cons_succ]
      refine wpAnyT_take 11 (i := 3) (v := ?vt1_3) rfl (by kernel_rfl) (by kernel_rfl) (by kernel_rfl) (fun _ _ _ h => h) (Or.inl ⟨by rfl, ?yt1_3⟩) hSt10 ?rt1_3
      case yt1_3 => (intro w hSw; obtain ⟨_, _, _⟩ := id hSw; go_simp; try (with_reducible rfl))
      simp only [Act.put, List.setIfInBounds_toArray, List.set_cons_zero, List.set_cons_succ]
      refine wpAnyT_take 11 (i := 4) (v := ?vt1_4) rfl (by kernel_rfl) (by kernel_rfl) (by kernel_rfl) (fun _ _ _ h => h) (Or.inl ⟨by rfl, ?yt1_4⟩) hSt10 ?rt1_4
      case yt1_4 => (intro w hSw; obtain ⟨_, _, _⟩ := id hSw; go_simp; try (with_reducible rfl))
      simp only [Act.put, List.setIfInBounds_toArray, List.set_cons_zero, List.set_cons_succ]
      refine wpAnyT_take 11 (i := 6) (v := ?vt1_6) rfl (by kernel_rfl) (by kernel_rfl) (by kernel_rfl) (fun _ _ _ h => h) (Or.inl ⟨by rfl, ?yt1_6⟩) hSt10 ?rt1_6
      case yt1_6 => (intro w hSw; obtain ⟨_, _, _⟩ := id hSw; go_simp; try (with_reducible rfl))
      simp only [Act.put, List.setIfInBounds_toArray, List.set_cons_zero, List.set_cons_succ]
      refine wpAnyT_take 11 (i := 7) (v := ?vt1_7) rfl (by kernel_rfl) (by kernel_rfl) (by kernel_rfl) (fun _ _ _ h => h) (Or.inl ⟨by rfl, ?yt1_7⟩) hSt10 ?rt1_7
      case yt1_7 => (intro w hSw; obtain ⟨_, _, _⟩ := id hSw; go_simp; try (with_reducible rfl))
      simp only [Act.put, List.setIfInBounds_toArray, List.set_cons_zero, List.set_cons_succ]
      refine wpAnyT_one (i := 5) (by kernel_rfl) rfl (fun K hK => ?_)
      go_simp
      have W1 := W0.call ((Below.refl _ _).alloc (Nat.le_refl _) (.cells #[.int .i64 dk] 3))
      have hSt11 := And.intro W1.b0.1.2 (And.intro (HC.out _ W1.below) W1.br.1.2)
      refine hK.out _ _ (.inr hSt11) ?_
      clear hK K hSt10
      refine wpAnyT_one (i := 8) (by kernel_rfl) rfl (fun K hK => ?_)
      refine step_append_dg _ (by rfl) _ _ _ (by rfl) wr.heap.size 3 i0 Try.underlying29 I0.out I1.out I2.out I3.out (.slice (some ⟨wr.heap.size, 0, none⟩) 1 1) 1 [.int .i64 dk] (by rfl) (World.ownsRow_lit wr.drew #[.int .i64 dk] 1 (Nat.le_refl _) (by simp [maxLen]) rfl) C p e es (by rfl) (hE.call (((Below.refl _ _).drew).alloc (Nat.le_refl _) _)) (by omega) (by simp) ?_
      intro v1 w1 hown1 hgr1
      have W2 := WW.out.call (app_below hgr1)
      obtain ⟨A1, c1, rfl, hD1⟩ := Dg.own (ds := dk :: es) hown1
      have hF1 := Fr.own hown1
      clear hown1 hgr1
      have hSt12 := And.intro W2.b0.1.2 (And.intro (HC.out _ W2.below) W2.br.1.2)
      refine hK.out _ _ (.inr hSt12) ?_
      clear hK K hSt11
      simp only [Act.put, List.setIfInBounds_toArray, List.set_cons_zero, List.set_cons_succ]
      refine wpAnyT_take 11 (i := 9) (v := ?vt1_9) rfl (by kernel_rfl) (by kernel_rfl) (by kernel_rfl) (fun _ _ _ h => h) (Or.inl ⟨by rfl, ?yt1_9⟩) hSt12 ?rt1_9
      case yt1_9 => (intro w hSw; obtain ⟨_, _, _⟩ := id hSw; go_simp; try (with_reducible rfl))
      simp only [Act.put, List.setIfInBounds_toArray, List.set_cons_zero, List.set_cons_succ]
      refine wpAnyT_one (i := 10) (by kernel_rfl) rfl (fun K hK => ?_)
      go_simp
      refine (trim_same _ _ _ _ (dk :: es) _ hD1 hisd.out (by omega)).mono ?_
      rintro e w2 ⟨z2, q2, rfl, h2, hb2⟩
      have W3 := W2.call hb2
      clear hb2
      obtain ⟨⟨f1, f2⟩, f3, f4⟩ := id W3.br
      have hSt13 := And.intro W3.b0.1.2 (And.intro (HC.out _ W3.below) W3.br.1.2)
      go_wp2_with fail
      refine hK.out _ _ (.inr hSt13) ?_
      clear hK K hSt12
      refine wpAnyT_one (i := 11) (by kernel_rfl) rfl (fun K hK => ?_)
      go_simp
      refine hK.out _ _ (.inl rfl) ?_
      clear hK K
      refine wpAnyT_done (by kernel_rfl) ?_ _
      have W4 := W3.turn (by omega) (Below.refl _ _) (h2.conv hval.out) (fun a ea => by have := hF1 a ea; have : w.heap.size + 1 + 1 + 1 + 1 < wr.heap.size := hqb; omega)
      clear W3 W2 W1 W0 h2 hF1 hD1 f1 f2 f3 f4 hE HC hisd hval
      obtain ⟨wo, rfl⟩ : ∃ wo : World, wo = wr := ⟨_, rfl⟩
      go_wp2_with fail
      go_loopg [] 10000 (fun gk wr => ∃ (qs : List Int) (z : Bool) (C : Option Addr) (p e : Nat) (r dd : Int), DivW w w3.heap.size wr x (some ⟨gA, 0, none⟩) l c ds y B m d b qs z C p e r ∧ DivI ds qs k b r dd ∧ (gk : Int) + dd = 10000)
      case atStart => exact ⟨_, _, _, _, _, _, 0, W4, DI.out, by omega⟩
      case round =>
        obtain ⟨qs, z, C, p, e, r, dd, hW, hI, hgk⟩ := hrel
        clear W4 DI hr0 hr1 hpl hqb
        have hbd := divI_bd hI hb0
        have hpl := rest_len hW.nr HB.out hbd.1 hbd.2.1
        have HG := Lib.hid hgk
        clear hgk
        obtain ⟨⟨p1, p2⟩, p3, p4⟩ := id hW.br
        obtain ⟨⟨q1, q2⟩, q3, q4⟩ := id hW.b1
        have C0 := Lib.hid (rCmp_any _ _ _ _ _ _ _ _ _ _ wr hW.nr hW.nb (show p ≤ 1000 by omega) (show m ≤ 1000 by omega))
        by_cases hge : b ≤ r
        · have hic := icmp_ge.2 hge
          have DS := Lib.hid (divI_step hI hb0 hge (by rw [hW.len]; omega))
          have hkl : k < l := by omega
          generalize icmp r b = ic at C0 hic
          replace hic : 0 ≤ ic := hic
          have WW := Lib.hid hW
          have hqd := hI.2.2.2.2.1
          have HQD := Lib.hid hqd
          clear hW hI hqd
          go_wp2_with (go_at_call 15; ((with_reducible refine (C0.out).mono ?_); rintro e w5 ⟨rfl, hb5⟩; have W5 := (WW.out.call hb5).drew; clear hb5 p1 p2 p3 p4 q1 q2 q3 q4; obtain ⟨⟨p1, p2⟩, p3, p4⟩ := id W5.br; obtain ⟨⟨q1, q2⟩, q3, q4⟩ := id W5.b1))
          go_region_with
            (first
              | (go_at_call 17; ((with_reducible refine (rNeg_any _ _ _ _ _ _ W5.nb (by omega)).mono ?_); rintro e w6 ⟨x6, A6, l6, c6, rfl, k6, hb6⟩; have l6' := k6.len (k := m) (by have := HB.out; omega); have W6 := W5.call hb6; clear hb6; obtain ⟨⟨s1, s2⟩, s3, s4⟩ := id W6.br))
              | (go_at_call 52; ((with_reducible refine (rAdd_new _ _ _ _ _ _ _ _ _ _ _ W6.nr k6 (by omega) (by omega)).mono ?_); rintro e w7 ⟨x7, A7, l7, c7, rfl, k7, hb7, hF7⟩; have W7 := W6.call hb7; obtain ⟨⟨t1, t2⟩, t3, t4⟩ := id W7.br)))
          all_goals
            have hq7 := (W6.own.lt _ rfl).2
            have W8 := W7.turn (by omega) (Below.refl _ _) k7 (fun a ea => by have := hF7 a ea; have : w.heap.size + 1 + 1 + 1 + 1 < w6.heap.size := hq7; omega)
            have hc8 := (W8.cell hkl)
            rw [HQD.out] at hc8
            obtain ⟨hc8, hf8⟩ := hc8
            have hdd : 0 ≤ dd := hbd.2.2
            have hd9 := DS.out.2
            have W9 := Lib.hid (W8.store (by omega) hkl (s := dd + 1) (by omega) (by omega))
            clear W5 W6 W7 W8 WW k6 k7 hF7 hb7 p1 p2 p3 p4 q1 q2 q3 q4 s1 s2 s3 s4 t1 t2 t3 t4
            generalize ((w7.setCell ⟨w3.heap.size, 0, none⟩ (.bool x7)).setCell ⟨w3.heap.size, 1, none⟩ (.slice A7 l7 c7)) = w8 at *
            go_wp2_with fail
            go_roundg (gk - 1)
            case measure => have := HG.out; omega
            case rel => exact ⟨_, _, _, _, _, _, dd + 1, W9.out, DS.out.1, by have := HG.out; omega⟩
        · have hic : icmp r b < 0 := by have := icmp_ge (a := r) (b := b); omega
          have DE := Lib.hid (divI_end hI (by omega))
          generalize icmp r b = ic at C0 hic
          have WW := Lib.hid hW
          clear hW hI
          go_wp2_with (go_at_call 15; ((with_reducible refine (C0.out).mono ?_); rintro e w5 ⟨rfl, hb5⟩; have W5 := WW.out.call hb5; clear hb5))
          refine ⟨⟨k, _, _, _, _, _, _, rfl, by omega, W5, DE.out⟩, ?_⟩
          simp [intOf]
theorem rDiv_any (x y : Bool) (A B : Option Addr) (l c m d : Nat) (n b : Int) (w : World) (h : IsN w x A l c n) (k : IsN w y B m d b) (hb0 : 0 < b) (hl : l ≤ 400) (hm : m ≤ 400) :
    Calls Try.prog 54 #[.agg #[.bool x, .slice A l c], .agg #[.bool y, .slice B m d]] w (RN2 (n / b) (n % b) w) := (rDiv_new x y A B l c m d n b w h k hb0 hl hm).mono fun _ _ ⟨x, A, l, c, y, B, k, d, h1, h2, h3, h4, h5, h6⟩ => ⟨x, A, l, c, y, B, k, d, h1, h2, h3, h4⟩
end Go.Proofs.Ytinjgiigmlikpaa
