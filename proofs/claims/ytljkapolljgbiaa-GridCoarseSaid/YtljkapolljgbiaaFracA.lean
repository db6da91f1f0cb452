/-
  Contracts of package frac: Right, Floor, Make, Of. My own text.
  Contracts of package frac: Floor, nearest, Of, Make. My own text.
  Contracts of package frac: Of, Make, Snap. My own text.
  Contracts of package frac: Snap. My own text.
  Contracts of package frac: divBoth. My own text.
  Contracts of package frac: Cmp. My own text.
  The statements' own calls of layer 2: num, alive; what their walks hold on to. My own text.
-/
import Derived.Test.YtljkapolljgbiaaDivD
import Derived.Test.YtljkapolljgbiaaRefO
import Derived.Test.YtljkapolljgbiaaWideC
import Derived.Deep.DrawnRows
import Derived.RegionTactic
import Derived.Deep.LoopGhost
import Derived.Deep.DeepCutAuto
namespace Go.Proofs.Ytljkapolljgbiaa
open Go.RowKit
set_option linter.unusedVariables false

/-- four cells of a block, and that they may be written. -/
def Box4 (w : World) (b : Nat) (u v x y : Value) : Prop := (w.cell? ⟨b, 0, none⟩ = some u ∧ w.cell? ⟨b, 1, none⟩ = some v ∧ w.cell? ⟨b, 2, none⟩ = some x ∧ w.cell? ⟨b, 3, none⟩ = some y) ∧ (w.frozen? ⟨b, 0, none⟩ = false ∧ w.frozen? ⟨b, 1, none⟩ = false ∧ w.frozen? ⟨b, 2, none⟩ = false ∧ w.frozen? ⟨b, 3, none⟩ = false)
section
variable {w W w1 : World} {b g : Nat} {u v x y q : Value}
theorem Box4.lt (h : Box4 w b u v x y) : b < w.heap.size := World.block_lt_of_cell? w _ h.1.1
theorem Box4.call (h : Box4 W b u v x y) (hb : Below W.heap.size W w1) : Box4 w1 b u v x y := by
  have hl := h.lt
  obtain ⟨⟨h1, h2, h3, h4⟩, k1, k2, k3, k4⟩ := h
  exact ⟨⟨(hb.cell (p := ⟨b, 0, none⟩) hl).trans h1, (hb.cell (p := ⟨b, 1, none⟩) hl).trans h2, (hb.cell (p := ⟨b, 2, none⟩) hl).trans h3, (hb.cell (p := ⟨b, 3, none⟩) hl).trans h4⟩, (hb.frozen (p := ⟨b, 0, none⟩) hl).trans k1, (hb.frozen (p := ⟨b, 1, none⟩) hl).trans k2, (hb.frozen (p := ⟨b, 2, none⟩) hl).trans k3, (hb.frozen (p := ⟨b, 3, none⟩) hl).trans k4⟩
theorem Box4.alloc (h : Box4 W b u v x y) (o : Obj) : Box4 (W.alloc o) b u v x y := h.call ((Below.refl _ _).alloc (Nat.le_refl _) o)
theorem Box4.drew (h : Box4 W b u v x y) : Box4 W.drew b u v x y := h.call ((Below.refl _ _).drew)
theorem Box4.new {t : TypeId} (e : b = W.heap.size) : Box4 (W.alloc (.cells #[u, v, x, y] t)) b u v x y := by
  subst e
  unfold Box4
  go_simp
theorem Box4.set (h : Box4 W b u v x y) (o : Nat) (ne : g ≠ b) : Box4 (W.setCell ⟨g, o, none⟩ q) b u v x y := by
  obtain ⟨⟨h1, h2, h3, h4⟩, k1, k2, k3, k4⟩ := h
  have n0 : ∀ i, (⟨g, o, none⟩ : Addr) ≠ ⟨b, i, none⟩ := fun i e => ne (congrArg Addr.block e)
  refine ⟨⟨?_, ?_, ?_, ?_⟩, ?_, ?_, ?_, ?_⟩
  · rw [World.cell?_setCell_other _ _ _ _ (n0 0)]; exact h1
  · rw [World.cell?_setCell_other _ _ _ _ (n0 1)]; exact h2
  · rw [World.cell?_setCell_other _ _ _ _ (n0 2)]; exact h3
  · rw [World.cell?_setCell_other _ _ _ _ (n0 3)]; exact h4
  · go_simp
  · go_simp
  · go_simp
  · go_simp
end
section
variable {W : World} {b : Nat} {u v x y u' v' : Value}
theorem Box4.put01 (h : Box4 W b u v x y) : Box4 ((W.setCell ⟨b, 0, none⟩ u').setCell ⟨b, 1, none⟩ v') b u' v' x y := by
  obtain ⟨⟨h1, h2, h3, h4⟩, k1, k2, k3, k4⟩ := h
  unfold Box4
  go_simp
theorem Box4.put23 (h : Box4 W b u v x y) : Box4 ((W.setCell ⟨b, 2, none⟩ u').setCell ⟨b, 3, none⟩ v') b u v u' v' := by
  obtain ⟨⟨h1, h2, h3, h4⟩, k1, k2, k3, k4⟩ := h
  unfold Box4
  go_simp
end
/-- the whole part of n over d; 0, where d is not above 0. -/
def flo (n d : Int) : Int := if 0 < d then n / d else 0
theorem icmp_pos (d : Int) : decide (0 < icmp d 0) = decide (0 < d) := by
  unfold icmp
  rw [Bool.eq_iff_iff]
  simp only [decide_eq_true_eq]
  repeat' split
  all_goals omega
set_option maxHeartbeats 400000 in
theorem Right_any (h l h' l' d : Int) (w : World) (H : IsW h' l' d) : Calls Try.prog 70 #[.agg #[.int .i64 h, .int .u64 l, .int .i64 h', .int .u64 l']] w (RV (.bool (decide (0 < d))) w) := by
  have HI := Lib.hid (icmp_pos d)
  go_enter Try.func70, Try.ntmps70
  go_wp2_with (go_at_call 76; ((with_reducible refine (Sign_any _ _ _ _ H).mono ?_); rintro e w1 ⟨rfl, hb⟩))
  go_ret
  exact ⟨ret_bool HI.out, by (repeat (first | (with_reducible exact Below.refl _ _) | with_reducible assumption | (with_reducible refine below_alloc ?_ _) | (focus ((with_reducible refine below_set ?_ _ _ _ ?_); rotate_left; omega)) | (with_reducible refine Below.drew ?_) | (with_reducible refine below_call ?_ hb)))⟩
end Go.Proofs.Ytljkapolljgbiaa
namespace Go.Proofs.Ytljkapolljgbiaa
open Go.RowKit
set_option linter.unusedVariables false
attribute [local go_sem ↓] Go.wp_at_zero Go.wp_at_succ

set_option maxHeartbeats 400000 in
theorem Floor_yes (h l n h' l' d : Int) (w : World) (H : IsW h l n) (H' : IsW h' l' d) (hd : 0 < d) : Calls Try.prog 73 #[.agg #[.int .i64 h, .int .u64 l, .int .i64 h', .int .u64 l']] w (RW (n / d) w) := by
  go_enter Try.func73, Try.ntmps73
  go_wp2_with (go_at_call 77; ((with_reducible refine (Div_yes _ _ _ _ _ _ _ H H' hd).mono ?_); rintro e w1 ⟨qa, qb, ra, rb, rfl, hq, hr, hb⟩; have B_w1_0 : Box w1 (w.heap.size + 1) (.int .i64 0) (.int .u64 0) := (by (repeat (first | with_reducible assumption | (focus ((with_reducible refine Box.new ?_); simp; done)) | (with_reducible refine Box.alloc ?_ _) | (with_reducible refine Box.drew ?_) | (with_reducible refine Box.put ?_) | (focus ((with_reducible refine Box.set ?_ _ ?_); rotate_left; omega)) | (focus ((with_reducible apply HasBox.of); with_reducible assumption)) | (focus ((with_reducible refine HasBox.new ?_); simp; done)) | (with_reducible refine HasBox.set ?_ _ _) | (with_reducible refine HasBox.drew ?_) | (with_reducible refine HasBox.alloc ?_ _) | (with_reducible refine Box.call ?_ hb) | (with_reducible refine HasBox.call ?_ hb)))); obtain ⟨⟨c_w1_0, d_w1_0⟩, f_w1_0, g_w1_0⟩ := id B_w1_0; have hz_hb := Below.size hb; (try simp at hz_hb); have ne_hb_0 : ¬ w1.heap.size = w.heap.size := (by omega); have ne_hb_1 : ¬ w1.heap.size = w.heap.size + 1 := (by omega); have en_hb_0 : ¬ w.heap.size = w1.heap.size := (by omega); have en_hb_1 : ¬ w.heap.size + 1 = w1.heap.size := (by omega); have lt_hb_0 : w.heap.size < w1.heap.size := (by omega); have lt_hb_1 : w.heap.size + 1 < w1.heap.size := (by omega)))
  refine bodyPost_ret (v := .agg #[.int .i64 qa, .int .u64 qb]) (by simp only [results, Try.results73]; go_simp) rfl ⟨_, _, rfl, hq, ?_⟩
  (repeat (first | (with_reducible exact Below.refl _ _) | with_reducible assumption | (with_reducible refine below_alloc ?_ _) | (focus ((with_reducible refine below_set ?_ _ _ _ ?_); rotate_left; omega)) | (with_reducible refine Below.drew ?_) | (with_reducible refine below_call ?_ hb)))
set_option maxHeartbeats 400000 in
theorem Floor_no (h l n h' l' d : Int) (w : World) (H : IsW h l n) (H' : IsW h' l' d) (hd : d ≤ 0) : Calls Try.prog 73 #[.agg #[.int .i64 h, .int .u64 l, .int .i64 h', .int .u64 l']] w (RW 0 w) := by
  go_enter Try.func73, Try.ntmps73
  go_wp2_with (go_at_call 77; ((with_reducible refine (Div_no _ _ _ _ _ _ _ H H' hd).mono ?_); rintro e w1 ⟨rfl, hb⟩; have B_w1_0 : Box w1 (w.heap.size + 1) (.int .i64 0) (.int .u64 0) := (by (repeat (first | with_reducible assumption | (focus ((with_reducible refine Box.new ?_); simp; done)) | (with_reducible refine Box.alloc ?_ _) | (with_reducible refine Box.drew ?_) | (with_reducible refine Box.put ?_) | (focus ((with_reducible refine Box.set ?_ _ ?_); rotate_left; omega)) | (focus ((with_reducible apply HasBox.of); with_reducible assumption)) | (focus ((with_reducible refine HasBox.new ?_); simp; done)) | (with_reducible refine HasBox.set ?_ _ _) | (with_reducible refine HasBox.drew ?_) | (with_reducible refine HasBox.alloc ?_ _) | (with_reducible refine Box.call ?_ hb) | (with_reducible refine HasBox.call ?_ hb)))); obtain ⟨⟨c_w1_0, d_w1_0⟩, f_w1_0, g_w1_0⟩ := id B_w1_0; have hz_hb := Below.size hb; (try simp at hz_hb); have ne_hb_0 : ¬ w1.heap.size = w.heap.size := (by omega); have ne_hb_1 : ¬ w1.heap.size = w.heap.size + 1 := (by omega); have en_hb_0 : ¬ w.heap.size = w1.heap.size := (by omega); have en_hb_1 : ¬ w.heap.size + 1 = w1.heap.size := (by omega); have lt_hb_0 : w.heap.size < w1.heap.size := (by omega); have lt_hb_1 : w.heap.size + 1 < w1.heap.size := (by omega)))
  refine bodyPost_ret (v := .agg #[.int .i64 0, .int .u64 0]) (by simp only [results, Try.results73]; go_simp) rfl ⟨_, _, rfl, isW0, ?_⟩
  (repeat (first | (with_reducible exact Below.refl _ _) | with_reducible assumption | (with_reducible refine below_alloc ?_ _) | (focus ((with_reducible refine below_set ?_ _ _ _ ?_); rotate_left; omega)) | (with_reducible refine Below.drew ?_) | (with_reducible refine below_call ?_ hb)))
theorem Floor_any (h l n h' l' d : Int) (w : World) (H : IsW h l n) (H' : IsW h' l' d) : Calls Try.prog 73 #[.agg #[.int .i64 h, .int .u64 l, .int .i64 h', .int .u64 l']] w (RW (flo n d) w) := by
  unfold flo
  by_cases e : 0 < d
  · rw [if_pos e]; exact Floor_yes h l n h' l' d w H H' e
  · rw [if_neg e]; exact Floor_no h l n h' l' d w H H' (by omega)
theorem Box.both {w : World} {b : Nat} {u v : Value} (h : Box w b u v) : w.cell? ⟨b, 0, none⟩ = some u ∧ w.cell? ⟨b, 1, none⟩ = some v := h.1
/-- the whole number nearest to n over d, of a half the upper one. -/
def nea (n d : Int) : Int := if n % d < d - n % d then n / d else n / d + 1
theorem near_fits {n d : Int} (hn : fits n = true) (hd : 0 < d) (hdf : fits d = true) : fits (d - n % d) = true ∧ (d - n % d ≤ n % d → fits (n / d + 1) = true) := by
  unfold fits at *
  rw [decide_eq_true_eq] at hn hdf
  have h0 := Int.emod_nonneg n (show d ≠ 0 by omega)
  have h1 := Int.emod_lt_of_pos n hd
  have h2 := Int.mul_ediv_add_emod n d
  rw [decide_eq_true_eq, decide_eq_true_eq]
  refine ⟨by omega, fun hle => ?_⟩
  have hd2 : 2 ≤ d := by omega
  have q1 : n / d * 2 ≤ 170141183460469231731687303715884105727 ∧ -170141183460469231731687303715884105728 ≤ n / d := by
    refine ⟨?_, ?_⟩
    · rcases Int.lt_or_le (n / d) 0 with q | q
      · omega
      · have : n / d * 2 ≤ n / d * d := Int.mul_le_mul_of_nonneg_left hd2 q
        rw [Int.mul_comm (n / d) d] at this
        omega
    · rcases Int.lt_or_le (n / d) 0 with q | q
      · have : d * (n / d + 1) ≤ 1 * (n / d + 1) := Int.mul_le_mul_of_nonpos_right (by omega) (by omega)
        rw [Int.mul_add] at this
        omega
      · omega
  omega
set_option maxHeartbeats 1000000 in
theorem nearest_any (h l n h' l' d : Int) (w : World) (H : IsW h l n) (H' : IsW h' l' d) (hd : 0 < d) : Calls Try.prog 71 #[.agg #[.int .i64 h, .int .u64 l], .agg #[.int .i64 h', .int .u64 l']] w (RW (nea n d) w) := by
  have hf := near_fits H.fits hd H'.fits
  have F1 := Lib.hid hf.1
  have F2 := Lib.hid hf.2
  clear hf
  go_enter Try.func71, Try.ntmps71
  go_wp2_with fail
  refine (Div_yes _ _ _ _ _ _ _ H H' hd).mono ?_
  rintro e w1 ⟨qa, qb, ra, rb, rfl, hq, hr, hb1⟩
  have B_w1_0 : Box w1 (w.heap.size + 1) (.int .i64 h') (.int .u64 l') := (by (repeat (first | with_reducible assumption | (focus ((with_reducible refine Box.new ?_); simp; done)) | (with_reducible refine Box.alloc ?_ _) | (with_reducible refine Box.drew ?_) | (with_reducible refine Box.put ?_) | (focus ((with_reducible refine Box.set ?_ _ ?_); rotate_left; omega)) | (focus ((with_reducible apply HasBox.of); with_reducible assumption)) | (focus ((with_reducible refine HasBox.new ?_); simp; done)) | (with_reducible refine HasBox.set ?_ _ _) | (with_reducible refine HasBox.drew ?_) | (with_reducible refine HasBox.alloc ?_ _) | (with_reducible refine Box.call ?_ hb1) | (with_reducible refine HasBox.call ?_ hb1)))); obtain ⟨⟨c_w1_0, d_w1_0⟩, f_w1_0, g_w1_0⟩ := id B_w1_0; have B_w1_1 : Box w1 (w.heap.size + 1 + 1) (.int .i64 0) (.int .u64 0) := (by (repeat (first | with_reducible assumption | (focus ((with_reducible refine Box.new ?_); simp; done)) | (with_reducible refine Box.alloc ?_ _) | (with_reducible refine Box.drew ?_) | (with_reducible refine Box.put ?_) | (focus ((with_reducible refine Box.set ?_ _ ?_); rotate_left; omega)) | (focus ((with_reducible apply HasBox.of); with_reducible assumption)) | (focus ((with_reducible refine HasBox.new ?_); simp; done)) | (with_reducible refine HasBox.set ?_ _ _) | (with_reducible refine HasBox.drew ?_) | (with_reducible refine HasBox.alloc ?_ _) | (with_reducible refine Box.call ?_ hb1) | (with_reducible refine HasBox.call ?_ hb1)))); obtain ⟨⟨c_w1_1, d_w1_1⟩, f_w1_1, g_w1_1⟩ := id B_w1_1
  have hz_hb1 := Below.size hb1; (try simp at hz_hb1); have ne_hb1_0 : ¬ w1.heap.size = w.heap.size := (by omega); have ne_hb1_1 : ¬ w1.heap.size = w.heap.size + 1 := (by omega); have ne_hb1_2 : ¬ w1.heap.size = w.heap.size + 1 + 1 := (by omega); have en_hb1_0 : ¬ w.heap.size = w1.heap.size := (by omega); have en_hb1_1 : ¬ w.heap.size + 1 = w1.heap.size := (by omega); have en_hb1_2 : ¬ w.heap.size + 1 + 1 = w1.heap.size := (by omega); have lt_hb1_0 : w.heap.size < w1.heap.size := (by omega); have lt_hb1_1 : w.heap.size + 1 < w1.heap.size := (by omega); have lt_hb1_2 : w.heap.size + 1 + 1 < w1.heap.size := (by omega)
  go_wp2_with fail
  refine (Sub_any _ _ _ _ _ _ _ H' hr).mono ?_
  rintro e w2 ⟨sa, sb, rfl, hs, hb2⟩
  rw [if_pos F1.out] at hs
  have B_w2_0 : Box w2 (w.heap.size + 1 + 1) (.int .i64 0) (.int .u64 0) := (by (repeat (first | with_reducible assumption | (focus ((with_reducible refine Box.new ?_); simp; done)) | (with_reducible refine Box.alloc ?_ _) | (with_reducible refine Box.drew ?_) | (with_reducible refine Box.put ?_) | (focus ((with_reducible refine Box.set ?_ _ ?_); rotate_left; omega)) | (focus ((with_reducible apply HasBox.of); with_reducible assumption)) | (focus ((with_reducible refine HasBox.new ?_); simp; done)) | (with_reducible refine HasBox.set ?_ _ _) | (with_reducible refine HasBox.drew ?_) | (with_reducible refine HasBox.alloc ?_ _) | (with_reducible refine Box.call ?_ hb2) | (with_reducible refine HasBox.call ?_ hb2) | (with_reducible refine Box.call ?_ hb1) | (with_reducible refine HasBox.call ?_ hb1)))); obtain ⟨⟨c_w2_0, d_w2_0⟩, f_w2_0, g_w2_0⟩ := id B_w2_0; have B_w2_1 : Box w2 (w1.heap.size) (.int .i64 qa) (.int .u64 qb) := (by (repeat (first | with_reducible assumption | (focus ((with_reducible refine Box.new ?_); simp; done)) | (with_reducible refine Box.alloc ?_ _) | (with_reducible refine Box.drew ?_) | (with_reducible refine Box.put ?_) | (focus ((with_reducible refine Box.set ?_ _ ?_); rotate_left; omega)) | (focus ((with_reducible apply HasBox.of); with_reducible assumption)) | (focus ((with_reducible refine HasBox.new ?_); simp; done)) | (with_reducible refine HasBox.set ?_ _ _) | (with_reducible refine HasBox.drew ?_) | (with_reducible refine HasBox.alloc ?_ _) | (with_reducible refine Box.call ?_ hb2) | (with_reducible refine HasBox.call ?_ hb2) | (with_reducible refine Box.call ?_ hb1) | (with_reducible refine HasBox.call ?_ hb1)))); obtain ⟨⟨c_w2_1, d_w2_1⟩, f_w2_1, g_w2_1⟩ := id B_w2_1; have B_w2_2 : Box w2 (w1.heap.size + 1) (.int .i64 ra) (.int .u64 rb) := (by (repeat (first | with_reducible assumption | (focus ((with_reducible refine Box.new ?_); simp; done)) | (with_reducible refine Box.alloc ?_ _) | (with_reducible refine Box.drew ?_) | (with_reducible refine Box.put ?_) | (focus ((with_reducible refine Box.set ?_ _ ?_); rotate_left; omega)) | (focus ((with_reducible apply HasBox.of); with_reducible assumption)) | (focus ((with_reducible refine HasBox.new ?_); simp; done)) | (with_reducible refine HasBox.set ?_ _ _) | (with_reducible refine HasBox.drew ?_) | (with_reducible refine HasBox.alloc ?_ _) | (with_reducible refine Box.call ?_ hb2) | (with_reducible refine HasBox.call ?_ hb2) | (with_reducible refine Box.call ?_ hb1) | (with_reducible refine HasBox.call ?_ hb1)))); obtain ⟨⟨c_w2_2, d_w2_2⟩, f_w2_2, g_w2_2⟩ := id B_w2_2
  have hz_hb2 := Below.size hb2; (try simp at hz_hb2)
  have l3 := Box.lt B_w2_0; have l4 := Box.lt B_w2_1; have l5 := Box.lt B_w2_2
  have m3 := Nat.ne_of_lt l3; have m4 := Nat.ne_of_lt l4; have m5 := Nat.ne_of_lt l5; have n3 := Nat.ne_of_gt l3; have n4 := Nat.ne_of_gt l4; have n5 := Nat.ne_of_gt l5
  go_wp2_with fail
  refine (Cmp_any _ _ _ _ _ _ _ hr hs).mono ?_
  rintro e w3 ⟨rfl, hb3⟩
  have B_w3_0 : Box w3 (w.heap.size + 1 + 1) (.int .i64 0) (.int .u64 0) := (by (repeat (first | with_reducible assumption | (focus ((with_reducible refine Box.new ?_); simp; done)) | (with_reducible refine Box.alloc ?_ _) | (with_reducible refine Box.drew ?_) | (with_reducible refine Box.put ?_) | (focus ((with_reducible refine Box.set ?_ _ ?_); rotate_left; omega)) | (focus ((with_reducible apply HasBox.of); with_reducible assumption)) | (focus ((with_reducible refine HasBox.new ?_); simp; done)) | (with_reducible refine HasBox.set ?_ _ _) | (with_reducible refine HasBox.drew ?_) | (with_reducible refine HasBox.alloc ?_ _) | (with_reducible refine Box.call ?_ hb3) | (with_reducible refine HasBox.call ?_ hb3) | (with_reducible refine Box.call ?_ hb2) | (with_reducible refine HasBox.call ?_ hb2) | (with_reducible refine Box.call ?_ hb1) | (with_reducible refine HasBox.call ?_ hb1)))); obtain ⟨⟨c_w3_0, d_w3_0⟩, f_w3_0, g_w3_0⟩ := id B_w3_0; have B_w3_1 : Box w3 (w1.heap.size) (.int .i64 qa) (.int .u64 qb) := (by (repeat (first | with_reducible assumption | (focus ((with_reducible refine Box.new ?_); simp; done)) | (with_reducible refine Box.alloc ?_ _) | (with_reducible refine Box.drew ?_) | (with_reducible refine Box.put ?_) | (focus ((with_reducible refine Box.set ?_ _ ?_); rotate_left; omega)) | (focus ((with_reducible apply HasBox.of); with_reducible assumption)) | (focus ((with_reducible refine HasBox.new ?_); simp; done)) | (with_reducible refine HasBox.set ?_ _ _) | (with_reducible refine HasBox.drew ?_) | (with_reducible refine HasBox.alloc ?_ _) | (with_reducible refine Box.call ?_ hb3) | (with_reducible refine HasBox.call ?_ hb3) | (with_reducible refine Box.call ?_ hb2) | (with_reducible refine HasBox.call ?_ hb2) | (with_reducible refine Box.call ?_ hb1) | (with_reducible refine HasBox.call ?_ hb1)))); obtain ⟨⟨c_w3_1, d_w3_1⟩, f_w3_1, g_w3_1⟩ := id B_w3_1
  have l6 := Box.lt B_w3_0; have l7 := Box.lt B_w3_1
  have m6 := Nat.ne_of_lt l6; have m7 := Nat.ne_of_lt l7; have n6 := Nat.ne_of_gt l6; have n7 := Nat.ne_of_gt l7
  have ne1 : ¬ (w1.heap.size = w.heap.size + 1 + 1) := by omega
  have ne2 : ¬ (w.heap.size + 1 + 1 = w1.heap.size) := by omega
  by_cases hlt : n % d < d - n % d
  · have ic := icmp_lt hlt
    rw [ic]
    have hv : Hid (nea n d = n / d) := by unfold Hid nea; rw [if_pos hlt]
    clear ic hlt
    go_wp2_with fail
    rw [hv.out]
    refine bodyPost_ret (v := .agg #[.int .i64 qa, .int .u64 qb]) (by simp only [results, Try.results71]; go_simp) rfl ⟨_, _, rfl, hq, ?_⟩
    (repeat (first | (with_reducible exact Below.refl _ _) | with_reducible assumption | (with_reducible refine below_alloc ?_ _) | (focus ((with_reducible refine below_set ?_ _ _ _ ?_); rotate_left; omega)) | (with_reducible refine Below.drew ?_) | (with_reducible refine below_call ?_ hb3) | (with_reducible refine below_call ?_ hb2) | (with_reducible refine below_call ?_ hb1)))
  · have ic : 0 ≤ icmp (n % d) (d - n % d) := icmp_ge.2 (by omega)
    have hv : Hid (nea n d = n / d + 1) := by unfold Hid nea; rw [if_neg hlt]
    have F3 := Lib.hid (F2.out (by omega))
    clear hlt
    generalize icmp (n % d) (d - n % d) = c at *
    go_wp2_with fail
    go_region_held3 (fun w' => w'.cell? ⟨w1.heap.size, 0, none⟩ = some (.int .i64 qa) ∧ w'.cell? ⟨w1.heap.size, 1, none⟩ = some (.int .u64 qb)) (first | ((refine Box.both ?_); ((repeat (first | with_reducible assumption | (focus ((with_reducible refine Box.new ?_); simp; done)) | (with_reducible refine Box.alloc ?_ _) | (with_reducible refine Box.drew ?_) | (with_reducible refine Box.put ?_) | (focus ((with_reducible refine Box.set ?_ _ ?_); rotate_left; omega)) | (focus ((with_reducible apply HasBox.of); with_reducible assumption)) | (focus ((with_reducible refine HasBox.new ?_); simp; done)) | (with_reducible refine HasBox.set ?_ _ _) | (with_reducible refine HasBox.drew ?_) | (with_reducible refine HasBox.alloc ?_ _) | (with_reducible refine Box.call ?_ hb5) | (with_reducible refine HasBox.call ?_ hb5) | (with_reducible refine Box.call ?_ hb4) | (with_reducible refine HasBox.call ?_ hb4) | (with_reducible refine Box.call ?_ hb3) | (with_reducible refine HasBox.call ?_ hb3) | (with_reducible refine Box.call ?_ hb2) | (with_reducible refine HasBox.call ?_ hb2) | (with_reducible refine Box.call ?_ hb1) | (with_reducible refine HasBox.call ?_ hb1))); done)) | go_keep)
      (first
        | (go_at_call 47; ((with_reducible refine (Of_any 1 _ (by omega) (by omega)).mono ?_); rintro e w4 ⟨oa, ob, rfl, ho, hb4⟩; have hy4 := Below.size hb4; (try simp at hy4)))
        | (go_at_call 80; ((with_reducible refine (Add_any _ _ _ _ _ _ _ hq ho).mono ?_); rintro e w5 ⟨ua, ub, rfl, hu, hb5⟩; rw [if_pos F3.out] at hu; rw [F3.out]; have hy5 := Below.size hb5; (try simp at hy5); (try ((refine cutIn (p := Box w5 (w3.heap.size) (.int .i64 0) (.int .u64 0)) ?_ ?_); (repeat (first | with_reducible assumption | (focus ((with_reducible refine Box.new ?_); simp; done)) | (with_reducible refine Box.alloc ?_ _) | (with_reducible refine Box.drew ?_) | (with_reducible refine Box.put ?_) | (focus ((with_reducible refine Box.set ?_ _ ?_); rotate_left; omega)) | (focus ((with_reducible apply HasBox.of); with_reducible assumption)) | (focus ((with_reducible refine HasBox.new ?_); simp; done)) | (with_reducible refine HasBox.set ?_ _ _) | (with_reducible refine HasBox.drew ?_) | (with_reducible refine HasBox.alloc ?_ _) | (with_reducible refine Box.call ?_ hb5) | (with_reducible refine HasBox.call ?_ hb5) | (with_reducible refine Box.call ?_ hb4) | (with_reducible refine HasBox.call ?_ hb4) | (with_reducible refine Box.call ?_ hb3) | (with_reducible refine HasBox.call ?_ hb3) | (with_reducible refine Box.call ?_ hb2) | (with_reducible refine HasBox.call ?_ hb2) | (with_reducible refine Box.call ?_ hb1) | (with_reducible refine HasBox.call ?_ hb1))); intro B_w5x_0; obtain ⟨⟨c_w5x_0, d_w5x_0⟩, f_w5x_0, g_w5x_0⟩ := id B_w5x_0; have l_w5x_0 := Box.lt B_w5x_0; have n_w5x_0 := Nat.ne_of_gt (Box.lt B_w5x_0); have m_w5x_0 := Nat.ne_of_lt (Box.lt B_w5x_0))); (try ((refine cutIn (p := Box w5 (w4.heap.size) (.int .i64 0) (.int .u64 0)) ?_ ?_); (repeat (first | with_reducible assumption | (focus ((with_reducible refine Box.new ?_); simp; done)) | (with_reducible refine Box.alloc ?_ _) | (with_reducible refine Box.drew ?_) | (with_reducible refine Box.put ?_) | (focus ((with_reducible refine Box.set ?_ _ ?_); rotate_left; omega)) | (focus ((with_reducible apply HasBox.of); with_reducible assumption)) | (focus ((with_reducible refine HasBox.new ?_); simp; done)) | (with_reducible refine HasBox.set ?_ _ _) | (with_reducible refine HasBox.drew ?_) | (with_reducible refine HasBox.alloc ?_ _) | (with_reducible refine Box.call ?_ hb5) | (with_reducible refine HasBox.call ?_ hb5) | (with_reducible refine Box.call ?_ hb4) | (with_reducible refine HasBox.call ?_ hb4) | (with_reducible refine Box.call ?_ hb3) | (with_reducible refine HasBox.call ?_ hb3) | (with_reducible refine Box.call ?_ hb2) | (with_reducible refine HasBox.call ?_ hb2) | (with_reducible refine Box.call ?_ hb1) | (with_reducible refine HasBox.call ?_ hb1))); intro B_w5x_1; obtain ⟨⟨c_w5x_1, d_w5x_1⟩, f_w5x_1, g_w5x_1⟩ := id B_w5x_1; have l_w5x_1 := Box.lt B_w5x_1; have n_w5x_1 := Nat.ne_of_gt (Box.lt B_w5x_1); have m_w5x_1 := Nat.ne_of_lt (Box.lt B_w5x_1))); (try ((refine cutIn (p := Box w5 (w.heap.size + 1 + 1) (.int .i64 0) (.int .u64 0)) ?_ ?_); (repeat (first | with_reducible assumption | (focus ((with_reducible refine Box.new ?_); simp; done)) | (with_reducible refine Box.alloc ?_ _) | (with_reducible refine Box.drew ?_) | (with_reducible refine Box.put ?_) | (focus ((with_reducible refine Box.set ?_ _ ?_); rotate_left; omega)) | (focus ((with_reducible apply HasBox.of); with_reducible assumption)) | (focus ((with_reducible refine HasBox.new ?_); simp; done)) | (with_reducible refine HasBox.set ?_ _ _) | (with_reducible refine HasBox.drew ?_) | (with_reducible refine HasBox.alloc ?_ _) | (with_reducible refine Box.call ?_ hb5) | (with_reducible refine HasBox.call ?_ hb5) | (with_reducible refine Box.call ?_ hb4) | (with_reducible refine HasBox.call ?_ hb4) | (with_reducible refine Box.call ?_ hb3) | (with_reducible refine HasBox.call ?_ hb3) | (with_reducible refine Box.call ?_ hb2) | (with_reducible refine HasBox.call ?_ hb2) | (with_reducible refine Box.call ?_ hb1) | (with_reducible refine HasBox.call ?_ hb1))); intro B_w5x_2; obtain ⟨⟨c_w5x_2, d_w5x_2⟩, f_w5x_2, g_w5x_2⟩ := id B_w5x_2; have l_w5x_2 := Box.lt B_w5x_2; have n_w5x_2 := Nat.ne_of_gt (Box.lt B_w5x_2); have m_w5x_2 := Nat.ne_of_lt (Box.lt B_w5x_2))))))
    all_goals
      go_wp2_with fail
      rw [hv.out]
      refine bodyPost_ret (v := .agg #[.int .i64 ua, .int .u64 ub]) (by simp only [results, Try.results71]; go_simp) rfl ⟨_, _, rfl, hu, ?_⟩
      (repeat (first | (with_reducible exact Below.refl _ _) | with_reducible assumption | (with_reducible refine below_alloc ?_ _) | (focus ((with_reducible refine below_set ?_ _ _ _ ?_); rotate_left; omega)) | (with_reducible refine Below.drew ?_) | (with_reducible refine below_call ?_ hb5) | (with_reducible refine below_call ?_ hb4) | (with_reducible refine below_call ?_ hb3) | (with_reducible refine below_call ?_ hb2) | (with_reducible refine below_call ?_ hb1)))
end Go.Proofs.Ytljkapolljgbiaa
namespace Go.Proofs.Ytljkapolljgbiaa
open Go.RowKit
set_option linter.unusedVariables false
attribute [local go_sem ↓] Go.wp_at_zero Go.wp_at_succ

/-- a fraction comes back. -/
def RF (n d : Int) (w : World) (e : Ending) (w' : World) : Prop := ∃ a b c f, e = .returned (.agg #[.int .i64 a, .int .u64 b, .int .i64 c, .int .u64 f]) ∧ IsW a b n ∧ IsW c f d ∧ Below w.heap.size w w'
/-- a fraction, and whether there is one. -/
def RFB (is : Bool) (n d : Int) (w : World) (e : Ending) (w' : World) : Prop := ∃ a b c f, e = .returned (.tuple #[.agg #[.int .i64 a, .int .u64 b, .int .i64 c, .int .u64 f], .bool is]) ∧ IsW a b n ∧ IsW c f d ∧ Below w.heap.size w w'
set_option maxHeartbeats 400000 in
theorem fOf_any (k : Int) (w : World) (h0 : -9223372036854775808 ≤ k) (h1 : k < 9223372036854775808) : Calls Try.prog 23 #[.int .i64 k] w (RF k 1 w) := by
  have C0 := Lib.hid (fun w => Of_any k w h0 h1)
  clear h0 h1
  go_enter Try.func23, Try.ntmps23
  go_wp2_with fail
  refine (C0.out _).mono ?_
  rintro e w1 ⟨a, b, rfl, ha, hb1⟩
  go_wp2_with fail
  refine (Of_any 1 _ (by omega) (by omega)).mono ?_
  rintro e w2 ⟨c, f, rfl, hc, hb2⟩
  have B0 : Box4 w2 w.heap.size (.int .i64 0) (.int .u64 0) (.int .i64 0) (.int .u64 0) := by (repeat (first | with_reducible assumption | (focus ((with_reducible refine Box.new ?_); simp; done)) | (focus ((with_reducible refine Box4.new ?_); simp; done)) | (with_reducible refine Box.alloc ?_ _) | (with_reducible refine Box4.alloc ?_ _) | (with_reducible refine Box.drew ?_) | (with_reducible refine Box4.drew ?_) | (with_reducible refine Box.put ?_) | (focus ((with_reducible refine Box.set ?_ _ ?_); rotate_left; omega)) | (focus ((with_reducible refine Box4.set ?_ _ ?_); rotate_left; omega)) | (focus ((with_reducible apply HasBox.of); with_reducible assumption)) | (focus ((with_reducible refine HasBox.new ?_); simp; done)) | (with_reducible refine HasBox.set ?_ _ _) | (with_reducible refine HasBox.drew ?_) | (with_reducible refine HasBox.alloc ?_ _) | (with_reducible refine Box.call ?_ hb2) | (with_reducible refine Box4.call ?_ hb2) | (with_reducible refine HasBox.call ?_ hb2) | (with_reducible refine Box.call ?_ hb1) | (with_reducible refine Box4.call ?_ hb1) | (with_reducible refine HasBox.call ?_ hb1)))
  obtain ⟨⟨p0, p1, p2, p3⟩, q0, q1, q2, q3⟩ := id B0
  go_wp2_with fail
  refine bodyPost_ret (v := .agg #[.int .i64 a, .int .u64 b, .int .i64 c, .int .u64 f]) (by simp only [results, Try.results23]; go_simp) rfl ⟨_, _, _, _, rfl, ha, hc, ?_⟩
  (repeat (first | (with_reducible exact Below.refl _ _) | with_reducible assumption | (with_reducible refine below_alloc ?_ _) | (focus ((with_reducible refine below_set ?_ _ _ _ ?_); rotate_left; omega)) | (with_reducible refine Below.drew ?_) | (with_reducible refine below_call ?_ hb2) | (with_reducible refine below_call ?_ hb1)))
/-- what Make answers. -/
def mkIs (n d : Int) : Bool := decide (0 < d) || (decide (d < 0) && fits (-n) && fits (-d))
/-- what Make answers, of a d below 0. -/
def RFM (n d : Int) (w : World) (e : Ending) (w' : World) : Prop := RFB (fits (-n) && fits (-d)) (if (fits (-n) && fits (-d)) = true then -n else 0) (if (fits (-n) && fits (-d)) = true then -d else 0) w e w'
theorem rfm_yes {n d : Int} {w w' : World} {a b c f : Int} (f1 : fits (-n) = true) (f2 : fits (-d) = true) (h1 : IsW a b (-n)) (h2 : IsW c f (-d)) (hb : Below w.heap.size w w') : RFM n d w (.returned (.tuple #[.agg #[.int .i64 a, .int .u64 b, .int .i64 c, .int .u64 f], .bool true])) w' := by
  unfold RFM; rw [f1, f2]; exact ⟨a, b, c, f, rfl, h1, h2, hb⟩
theorem rfm_no {n d : Int} {w w' : World} (h : (fits (-n) && fits (-d)) = false) (hb : Below w.heap.size w w') : RFM n d w (.returned (.tuple #[.agg #[.int .i64 0, .int .u64 0, .int .i64 0, .int .u64 0], .bool false])) w' := by
  unfold RFM; rw [h]; exact ⟨0, 0, 0, 0, rfl, isW0, isW0, hb⟩
end Go.Proofs.Ytljkapolljgbiaa
namespace Go.Proofs.Ytljkapolljgbiaa
open Go.RowKit
set_option linter.unusedVariables false
attribute [local go_sem ↓] Go.wp_at_zero Go.wp_at_succ

theorem Box4.cs {w : World} {b : Nat} {u v x y : Value} (h : Box4 w b u v x y) : w.cell? ⟨b, 0, none⟩ = some u ∧ w.cell? ⟨b, 1, none⟩ = some v ∧ w.cell? ⟨b, 2, none⟩ = some x ∧ w.cell? ⟨b, 3, none⟩ = some y := h.1
/-- the Int n comes back, and true. -/
def RWT (n : Int) (w : World) (e : Ending) (w' : World) : Prop := ∃ H L, e = .returned (.tuple #[.agg #[.int .i64 H, .int .u64 L], .bool true]) ∧ IsW H L n ∧ Below w.heap.size w w'
/-- what Snap tells. -/
def sna (n d : Int) (k : Nat) : Int := if k = 0 then nea n d else nea (n / d) (2 ^ k)
theorem pow100 {k : Nat} (h : k ≤ 100) : fits ((2 : Int) ^ k) = true := by
  have h1 := Nat.pow_le_pow_right (show 0 < 2 by decide) h
  rw [show (2 : Nat) ^ 100 = 1267650600228229401496703205376 by decide] at h1
  have h2 := (pow2_bd k).1
  have e : ((2 : Int) ^ k) = ((2 ^ k : Nat) : Int) := by simp
  unfold fits
  rw [e, decide_eq_true_eq]
  generalize (2 : Nat) ^ k = P at *
  omega
set_option maxHeartbeats 1000000 in
theorem Snap_no (ha la n h' l' d k : Int) (w : World) (H : IsW ha la n) (H' : IsW h' l' d) (hno : ¬ (0 < d) ∨ (k < 0 ∨ 100 < k)) : Calls Try.prog 62 #[.agg #[.int .i64 ha, .int .u64 la, .int .i64 h', .int .u64 l'], .int .i64 k] w (RV (.tuple #[.agg #[.int .i64 0, .int .u64 0], .bool false]) w) := by
  have C0 := Lib.hid (fun w => Right_any ha la h' l' d w H')
  have hcs : decide (0 < d) = false ∨ (decide (0 < d) = true ∧ k < 0) ∨ (decide (0 < d) = true ∧ 0 ≤ k ∧ 100 < k) := by
    by_cases e : 0 < d
    · right
      rcases hno with q | q | q
      · exact absurd e q
      · exact .inl ⟨decide_eq_true e, q⟩
      · exact .inr ⟨decide_eq_true e, by omega, q⟩
    · exact .inl (decide_eq_false e)
  clear hno
  rcases hcs with e | ⟨e, q⟩ | ⟨e, q, q'⟩
  · have C1 : Hid (∀ w, Calls Try.prog 70 #[.agg #[.int .i64 ha, .int .u64 la, .int .i64 h', .int .u64 l']] w (RV (.bool false) w)) := fun w => by have := C0.out w; rw [e] at this; exact this
    clear e C0
    go_enter Try.func62, Try.ntmps62
    go_wp2_with (go_at_call 70; ((with_reducible refine (C1.out _).mono ?_); rintro e w1 ⟨rfl, hb1⟩; have B_w1_0 : Box w1 (w.heap.size + 1) (.int .i64 0) (.int .u64 0) := (by (repeat (first | with_reducible assumption | (focus ((with_reducible refine Box.new ?_); simp; done)) | (with_reducible refine Box.alloc ?_ _) | (with_reducible refine Box.drew ?_) | (with_reducible refine Box.put ?_) | (focus ((with_reducible refine Box.set ?_ _ ?_); rotate_left; omega)) | (focus ((with_reducible apply HasBox.of); with_reducible assumption)) | (focus ((with_reducible refine HasBox.new ?_); simp; done)) | (with_reducible refine HasBox.set ?_ _ _) | (with_reducible refine HasBox.drew ?_) | (with_reducible refine HasBox.alloc ?_ _) | (with_reducible refine Box.call ?_ hb1) | (with_reducible refine HasBox.call ?_ hb1)))); obtain ⟨⟨c_w1_0, d_w1_0⟩, f_w1_0, g_w1_0⟩ := id B_w1_0))
    refine bodyPost_ret (v := .tuple #[.agg #[.int .i64 0, .int .u64 0], .bool false]) (by simp only [results, Try.results62]; go_simp) rfl ⟨rfl, ?_⟩
    (repeat (first | (with_reducible exact Below.refl _ _) | with_reducible assumption | (with_reducible refine below_alloc ?_ _) | (focus ((with_reducible refine below_set ?_ _ _ _ ?_); rotate_left; omega)) | (with_reducible refine Below.drew ?_) | (with_reducible refine below_call ?_ hb1)))
  · have C1 : Hid (∀ w, Calls Try.prog 70 #[.agg #[.int .i64 ha, .int .u64 la, .int .i64 h', .int .u64 l']] w (RV (.bool true) w)) := fun w => by have := C0.out w; rw [e] at this; exact this
    have dk : decide (k < 0) = true := decide_eq_true q
    clear e C0
    go_enter Try.func62, Try.ntmps62
    go_wp2_with (go_at_call 70; ((with_reducible refine (C1.out _).mono ?_); rintro e w1 ⟨rfl, hb1⟩; have B_w1_0 : Box w1 (w.heap.size + 1) (.int .i64 0) (.int .u64 0) := (by (repeat (first | with_reducible assumption | (focus ((with_reducible refine Box.new ?_); simp; done)) | (with_reducible refine Box.alloc ?_ _) | (with_reducible refine Box.drew ?_) | (with_reducible refine Box.put ?_) | (focus ((with_reducible refine Box.set ?_ _ ?_); rotate_left; omega)) | (focus ((with_reducible apply HasBox.of); with_reducible assumption)) | (focus ((with_reducible refine HasBox.new ?_); simp; done)) | (with_reducible refine HasBox.set ?_ _ _) | (with_reducible refine HasBox.drew ?_) | (with_reducible refine HasBox.alloc ?_ _) | (with_reducible refine Box.call ?_ hb1) | (with_reducible refine HasBox.call ?_ hb1)))); obtain ⟨⟨c_w1_0, d_w1_0⟩, f_w1_0, g_w1_0⟩ := id B_w1_0))
    refine bodyPost_ret (v := .tuple #[.agg #[.int .i64 0, .int .u64 0], .bool false]) (by simp only [results, Try.results62]; go_simp) rfl ⟨rfl, ?_⟩
    (repeat (first | (with_reducible exact Below.refl _ _) | with_reducible assumption | (with_reducible refine below_alloc ?_ _) | (focus ((with_reducible refine below_set ?_ _ _ _ ?_); rotate_left; omega)) | (with_reducible refine Below.drew ?_) | (with_reducible refine below_call ?_ hb1)))
  · have C1 : Hid (∀ w, Calls Try.prog 70 #[.agg #[.int .i64 ha, .int .u64 la, .int .i64 h', .int .u64 l']] w (RV (.bool true) w)) := fun w => by have := C0.out w; rw [e] at this; exact this
    have dk : decide (k < 0) = false := decide_eq_false (by omega)
    clear e C0
    go_enter Try.func62, Try.ntmps62
    go_wp2_with (go_at_call 70; ((with_reducible refine (C1.out _).mono ?_); rintro e w1 ⟨rfl, hb1⟩; have B_w1_0 : Box w1 (w.heap.size + 1) (.int .i64 0) (.int .u64 0) := (by (repeat (first | with_reducible assumption | (focus ((with_reducible refine Box.new ?_); simp; done)) | (with_reducible refine Box.alloc ?_ _) | (with_reducible refine Box.drew ?_) | (with_reducible refine Box.put ?_) | (focus ((with_reducible refine Box.set ?_ _ ?_); rotate_left; omega)) | (focus ((with_reducible apply HasBox.of); with_reducible assumption)) | (focus ((with_reducible refine HasBox.new ?_); simp; done)) | (with_reducible refine HasBox.set ?_ _ _) | (with_reducible refine HasBox.drew ?_) | (with_reducible refine HasBox.alloc ?_ _) | (with_reducible refine Box.call ?_ hb1) | (with_reducible refine HasBox.call ?_ hb1)))); obtain ⟨⟨c_w1_0, d_w1_0⟩, f_w1_0, g_w1_0⟩ := id B_w1_0))
    refine bodyPost_ret (v := .tuple #[.agg #[.int .i64 0, .int .u64 0], .bool false]) (by simp only [results, Try.results62]; go_simp) rfl ⟨rfl, ?_⟩
    (repeat (first | (with_reducible exact Below.refl _ _) | with_reducible assumption | (with_reducible refine below_alloc ?_ _) | (focus ((with_reducible refine below_set ?_ _ _ _ ?_); rotate_left; omega)) | (with_reducible refine Below.drew ?_) | (with_reducible refine below_call ?_ hb1)))
set_option maxHeartbeats 1000000 in
theorem Snap_zero (ha la n h' l' d : Int) (w : World) (H : IsW ha la n) (H' : IsW h' l' d) (hd : 0 < d) : Calls Try.prog 62 #[.agg #[.int .i64 ha, .int .u64 la, .int .i64 h', .int .u64 l'], .int .i64 0] w (RWT (nea n d) w) := by
  have C1 : Hid (∀ w, Calls Try.prog 70 #[.agg #[.int .i64 ha, .int .u64 la, .int .i64 h', .int .u64 l']] w (RV (.bool true) w)) := fun w => by have := Right_any ha la h' l' d w H'; rw [decide_eq_true hd] at this; exact this
  have C2 := Lib.hid (fun w => nearest_any ha la n h' l' d w H H' hd)
  go_enter Try.func62, Try.ntmps62
  go_wp2_with (first
    | (go_at_call 70; ((with_reducible refine (C1.out _).mono ?_); rintro e w1 ⟨rfl, hb1⟩; have Q1 : Box4 w1 w.heap.size (.int .i64 ha) (.int .u64 la) (.int .i64 h') (.int .u64 l') := (by (repeat (first | with_reducible assumption | (focus ((with_reducible refine Box.new ?_); simp; done)) | (focus ((with_reducible refine Box4.new ?_); simp; done)) | (with_reducible refine Box.alloc ?_ _) | (with_reducible refine Box4.alloc ?_ _) | (with_reducible refine Box.drew ?_) | (with_reducible refine Box4.drew ?_) | (with_reducible refine Box.put ?_) | (focus ((with_reducible refine Box.set ?_ _ ?_); rotate_left; omega)) | (focus ((with_reducible refine Box4.set ?_ _ ?_); rotate_left; omega)) | (focus ((with_reducible apply HasBox.of); with_reducible assumption)) | (focus ((with_reducible refine HasBox.new ?_); simp; done)) | (with_reducible refine HasBox.set ?_ _ _) | (with_reducible refine HasBox.drew ?_) | (with_reducible refine HasBox.alloc ?_ _) | (with_reducible refine Box.call ?_ hb1) | (with_reducible refine Box4.call ?_ hb1) | (with_reducible refine HasBox.call ?_ hb1)))); obtain ⟨⟨p0, p1, p2, p3⟩, q0, q1, q2, q3⟩ := id Q1))
    | (go_at_call 71; ((with_reducible refine (C2.out _).mono ?_); rintro e w2 ⟨ra, rb, rfl, hr, hb2⟩; have B_w2_0 : Box w2 (w.heap.size + 1) (.int .i64 0) (.int .u64 0) := (by (repeat (first | with_reducible assumption | (focus ((with_reducible refine Box.new ?_); simp; done)) | (with_reducible refine Box.alloc ?_ _) | (with_reducible refine Box.drew ?_) | (with_reducible refine Box.put ?_) | (focus ((with_reducible refine Box.set ?_ _ ?_); rotate_left; omega)) | (focus ((with_reducible apply HasBox.of); with_reducible assumption)) | (focus ((with_reducible refine HasBox.new ?_); simp; done)) | (with_reducible refine HasBox.set ?_ _ _) | (with_reducible refine HasBox.drew ?_) | (with_reducible refine HasBox.alloc ?_ _) | (with_reducible refine Box.call ?_ hb2) | (with_reducible refine HasBox.call ?_ hb2) | (with_reducible refine Box.call ?_ hb1) | (with_reducible refine HasBox.call ?_ hb1)))); obtain ⟨⟨c_w2_0, d_w2_0⟩, f_w2_0, g_w2_0⟩ := id B_w2_0)))
  refine bodyPost_ret (v := .tuple #[.agg #[.int .i64 ra, .int .u64 rb], .bool true]) (by simp only [results, Try.results62]; go_simp) rfl ⟨_, _, rfl, hr, ?_⟩
  (repeat (first | (with_reducible exact Below.refl _ _) | with_reducible assumption | (with_reducible refine below_alloc ?_ _) | (focus ((with_reducible refine below_set ?_ _ _ _ ?_); rotate_left; omega)) | (with_reducible refine Below.drew ?_) | (with_reducible refine below_call ?_ hb2) | (with_reducible refine below_call ?_ hb1)))
set_option maxHeartbeats 2000000 in
theorem Snap_pos (ha la n h' l' d : Int) (k : Nat) (w : World) (H : IsW ha la n) (H' : IsW h' l' d) (hd : 0 < d) (k0 : 0 < k) (k1 : k ≤ 100) : Calls Try.prog 62 #[.agg #[.int .i64 ha, .int .u64 la, .int .i64 h', .int .u64 l'], .int .i64 k] w (RWT (nea (n / d) (2 ^ k)) w) := by
  have C1 : Hid (∀ w, Calls Try.prog 70 #[.agg #[.int .i64 ha, .int .u64 la, .int .i64 h', .int .u64 l']] w (RV (.bool true) w)) := fun w => by have := Right_any ha la h' l' d w H'; rw [decide_eq_true hd] at this; exact this
  have C2 : Hid (∀ a b w, IsW a b 1 → Calls Try.prog 72 #[.agg #[.int .i64 a, .int .u64 b], .int .i64 k] w (RWT (2 ^ k) w)) := fun a b w h => (Shl_any a b 1 k w h (by omega) (by omega)).mono fun e w' ⟨p, q, he, hi, hb⟩ => by
    rw [Int.one_mul, Int.toNat_natCast] at he hi
    rw [pow100 k1] at he hi
    exact ⟨p, q, he, hi, hb⟩
  have C3 := Lib.hid (fun w => Floor_yes ha la n h' l' d w H H' hd)
  have C4 : Hid (∀ a b a' b' w, IsW a b (n / d) → IsW a' b' (2 ^ k) → Calls Try.prog 71 #[.agg #[.int .i64 a, .int .u64 b], .agg #[.int .i64 a', .int .u64 b']] w (RW (nea (n / d) (2 ^ k)) w)) := fun a b a' b' w h h' => nearest_any a b _ a' b' _ w h h' (pow2_bd k).1
  generalize hE : nea (n / d) (2 ^ k) = E at C4 ⊢
  clear hE
  have kz : ((k : Int) == 0) = false := by simp; omega
  go_enter Try.func62, Try.ntmps62
  go_wp2_with fail
  refine (C1.out _).mono ?_
  rintro e w1 ⟨rfl, hb1⟩
  have n1 := Lib.hid hb1.size
  go_wp2_with fail
  refine (Of_any 1 _ (by omega) (by omega)).mono ?_
  rintro e w2 ⟨oa, ob, rfl, ho, hb2⟩
  go_wp2_with fail
  refine (C2.out _ _ _ ho).mono ?_
  rintro e w3 ⟨ua, ub, rfl, hu, hb3⟩
  have Q1 : Box4 w3 w.heap.size (.int .i64 ha) (.int .u64 la) (.int .i64 h') (.int .u64 l') := (by (repeat (first | with_reducible assumption | (focus ((with_reducible refine Box.new ?_); simp; done)) | (focus ((with_reducible refine Box4.new ?_); simp; done)) | (with_reducible refine Box.alloc ?_ _) | (with_reducible refine Box4.alloc ?_ _) | (with_reducible refine Box.drew ?_) | (with_reducible refine Box4.drew ?_) | (with_reducible refine Box.put ?_) | (focus ((with_reducible refine Box.set ?_ _ ?_); rotate_left; omega)) | (focus ((with_reducible refine Box4.set ?_ _ ?_); rotate_left; omega)) | (focus ((with_reducible apply HasBox.of); with_reducible assumption)) | (focus ((with_reducible refine HasBox.new ?_); simp; done)) | (with_reducible refine HasBox.set ?_ _ _) | (with_reducible refine HasBox.drew ?_) | (with_reducible refine HasBox.alloc ?_ _) | (with_reducible refine Box.call ?_ hb3) | (with_reducible refine Box4.call ?_ hb3) | (with_reducible refine HasBox.call ?_ hb3) | (with_reducible refine Box.call ?_ hb2) | (with_reducible refine Box4.call ?_ hb2) | (with_reducible refine HasBox.call ?_ hb2) | (with_reducible refine Box.call ?_ hb1) | (with_reducible refine Box4.call ?_ hb1) | (with_reducible refine HasBox.call ?_ hb1))))
  have R1 : Box w3 (w.heap.size + 1) (.int .i64 0) (.int .u64 0) := (by (repeat (first | with_reducible assumption | (focus ((with_reducible refine Box.new ?_); simp; done)) | (focus ((with_reducible refine Box4.new ?_); simp; done)) | (with_reducible refine Box.alloc ?_ _) | (with_reducible refine Box4.alloc ?_ _) | (with_reducible refine Box.drew ?_) | (with_reducible refine Box4.drew ?_) | (with_reducible refine Box.put ?_) | (focus ((with_reducible refine Box.set ?_ _ ?_); rotate_left; omega)) | (focus ((with_reducible refine Box4.set ?_ _ ?_); rotate_left; omega)) | (focus ((with_reducible apply HasBox.of); with_reducible assumption)) | (focus ((with_reducible refine HasBox.new ?_); simp; done)) | (with_reducible refine HasBox.set ?_ _ _) | (with_reducible refine HasBox.drew ?_) | (with_reducible refine HasBox.alloc ?_ _) | (with_reducible refine Box.call ?_ hb3) | (with_reducible refine Box4.call ?_ hb3) | (with_reducible refine HasBox.call ?_ hb3) | (with_reducible refine Box.call ?_ hb2) | (with_reducible refine Box4.call ?_ hb2) | (with_reducible refine HasBox.call ?_ hb2) | (with_reducible refine Box.call ?_ hb1) | (with_reducible refine Box4.call ?_ hb1) | (with_reducible refine HasBox.call ?_ hb1))))
  have bl3 : Below w.heap.size w w3 := (by (repeat (first | (with_reducible exact Below.refl _ _) | with_reducible assumption | (with_reducible refine below_alloc ?_ _) | (focus ((with_reducible refine below_set ?_ _ _ _ ?_); rotate_left; omega)) | (with_reducible refine Below.drew ?_) | (with_reducible refine below_call ?_ hb3) | (with_reducible refine below_call ?_ hb2) | (with_reducible refine below_call ?_ hb1))))
  clear hb1 hb2 hb3 n1
  have l1 := Q1.lt; have l2 := R1.lt
  have e1 : ¬ (w.heap.size = w3.heap.size) := by omega
  have e2 : ¬ (w.heap.size + 1 = w3.heap.size) := by omega
  have e3 : ¬ (w3.heap.size = w.heap.size) := by omega
  have e4 : ¬ (w3.heap.size = w.heap.size + 1) := by omega
  have e5 : ¬ (w.heap.size + 1 = w.heap.size) := by omega
  obtain ⟨⟨p0, p1, p2, p3⟩, q0, q1, q2, q3⟩ := id Q1
  go_wp2_with fail
  have U0 : Box (w3.alloc (.cells #[.int .i64 ua, .int .u64 ub] 39)).drew w3.heap.size (.int .i64 ua) (.int .u64 ub) := (by (repeat (first | with_reducible assumption | (focus ((with_reducible refine Box.new ?_); simp; done)) | (focus ((with_reducible refine Box4.new ?_); simp; done)) | (with_reducible refine Box.alloc ?_ _) | (with_reducible refine Box4.alloc ?_ _) | (with_reducible refine Box.drew ?_) | (with_reducible refine Box4.drew ?_) | (with_reducible refine Box.put ?_) | (focus ((with_reducible refine Box.set ?_ _ ?_); rotate_left; omega)) | (focus ((with_reducible refine Box4.set ?_ _ ?_); rotate_left; omega)) | (focus ((with_reducible apply HasBox.of); with_reducible assumption)) | (focus ((with_reducible refine HasBox.new ?_); simp; done)) | (with_reducible refine HasBox.set ?_ _ _) | (with_reducible refine HasBox.drew ?_) | (with_reducible refine HasBox.alloc ?_ _))))
  have Q2 := (Q1.alloc (.cells #[.int .i64 ua, .int .u64 ub] 39)).drew
  have R2 := (R1.alloc (.cells #[.int .i64 ua, .int .u64 ub] 39)).drew
  go_region_held3 (fun w' => (w'.cell? ⟨w.heap.size, 0, none⟩ = some (.int .i64 ha) ∧ w'.cell? ⟨w.heap.size, 1, none⟩ = some (.int .u64 la) ∧ w'.cell? ⟨w.heap.size, 2, none⟩ = some (.int .i64 h') ∧ w'.cell? ⟨w.heap.size, 3, none⟩ = some (.int .u64 l')) ∧ (w'.cell? ⟨w3.heap.size, 0, none⟩ = some (.int .i64 ua) ∧ w'.cell? ⟨w3.heap.size, 1, none⟩ = some (.int .u64 ub)))
    (first | (refine And.intro (Box4.cs ?_) (Box.both ?_) <;> ((repeat (first | with_reducible assumption | (focus ((with_reducible refine Box.new ?_); simp; done)) | (focus ((with_reducible refine Box4.new ?_); simp; done)) | (with_reducible refine Box.alloc ?_ _) | (with_reducible refine Box4.alloc ?_ _) | (with_reducible refine Box.drew ?_) | (with_reducible refine Box4.drew ?_) | (with_reducible refine Box.put ?_) | (focus ((with_reducible refine Box.set ?_ _ ?_); rotate_left; omega)) | (focus ((with_reducible refine Box4.set ?_ _ ?_); rotate_left; omega)) | (focus ((with_reducible apply HasBox.of); with_reducible assumption)) | (focus ((with_reducible refine HasBox.new ?_); simp; done)) | (with_reducible refine HasBox.set ?_ _ _) | (with_reducible refine HasBox.drew ?_) | (with_reducible refine HasBox.alloc ?_ _) | (with_reducible refine Box.call ?_ hb5) | (with_reducible refine Box4.call ?_ hb5) | (with_reducible refine HasBox.call ?_ hb5) | (with_reducible refine Box.call ?_ hb4) | (with_reducible refine Box4.call ?_ hb4) | (with_reducible refine HasBox.call ?_ hb4))); done)) | go_keep)
    (first
      | (go_at_call 73; ((with_reducible refine (C3.out _).mono ?_); rintro e w4 ⟨fa, fb, rfl, hf, hb4⟩))
      | (go_at_call 71; ((with_reducible refine (C4.out _ _ _ _ _ hf hu).mono ?_); rintro e w5 ⟨ra, rb, rfl, hr, hb5⟩; have R5 := (R2.call hb4).call hb5; obtain ⟨⟨t0, t1⟩, t2, t3⟩ := id R5)))
  all_goals
    go_wp2_with fail
    refine bodyPost_ret (v := .tuple #[.agg #[.int .i64 ra, .int .u64 rb], .bool true]) (by simp only [results, Try.results62]; go_simp) rfl ⟨_, _, rfl, hr, ?_⟩
    (repeat (first | (with_reducible exact Below.refl _ _) | with_reducible assumption | (with_reducible refine below_alloc ?_ _) | (focus ((with_reducible refine below_set ?_ _ _ _ ?_); rotate_left; omega)) | (with_reducible refine Below.drew ?_) | (with_reducible refine below_call ?_ hb5) | (with_reducible refine below_call ?_ hb4)))
theorem Snap_yes (ha la n h' l' d : Int) (k : Nat) (w : World) (H : IsW ha la n) (H' : IsW h' l' d) (hd : 0 < d) (k1 : k ≤ 100) : Calls Try.prog 62 #[.agg #[.int .i64 ha, .int .u64 la, .int .i64 h', .int .u64 l'], .int .i64 k] w (RWT (sna n d k) w) := by
  unfold sna
  rcases k with _ | k
  · rw [if_pos rfl]; exact Snap_zero ha la n h' l' d w H H' hd
  · rw [if_neg (by omega)]; exact Snap_pos ha la n h' l' d (k + 1) w H H' hd (by omega) k1
end Go.Proofs.Ytljkapolljgbiaa
namespace Go.Proofs.Ytljkapolljgbiaa
open Go.RowKit
set_option linter.unusedVariables false
attribute [local go_sem ↓] Go.wp_at_zero Go.wp_at_succ

/-- two rows of two Ints come back. -/
def RBoth (q0 q1 r0 r1 : Int) (w : World) (e : Ending) (w' : World) : Prop := ∃ a b c d x y z t, e = .returned (.tuple #[.agg #[.int .i64 a, .int .u64 b, .int .i64 c, .int .u64 d], .agg #[.int .i64 x, .int .u64 y, .int .i64 z, .int .u64 t]]) ∧ IsW a b q0 ∧ IsW c d q1 ∧ IsW x y r0 ∧ IsW z t r1 ∧ Below w.heap.size w w'
theorem wpAt' {P : Program} {c : Code} {Q : Exit → Act → World → Prop} {a : Act} {W : World} (h : ∀ W', W' = W → c.wp P Q a W') : c.wp P Q a W := h W rfl
end Go.Proofs.Ytljkapolljgbiaa
namespace Go.Proofs.Ytljkapolljgbiaa
open Go.RowKit
set_option linter.unusedVariables false
attribute [local go_sem ↓] Go.wp_at_zero Go.wp_at_succ

theorem icmp_sub (a b c d : Int) (h : a - b = c - d) : icmp a b = icmp c d := by
  unfold icmp
  repeat' split
  all_goals omega
theorem cmp_whole {N0 N1 D0 D1 q0 q1 r0 r1 : Int} (h0 : D0 * q0 + r0 = N0) (h1 : D1 * q1 + r1 = N1) (p0 : 0 < D0) (p1 : 0 < D1) (a0 : 0 ≤ r0) (a1 : r0 < D0) (b0 : 0 ≤ r1) (b1 : r1 < D1) (hq : q0 < q1) : N0 * D1 < N1 * D0 := by
  have k1 : N0 * D1 < (D0 * (q0 + 1)) * D1 := Int.mul_lt_mul_of_pos_right (by rw [Int.mul_add]; omega) p1
  have k2 : (D1 * q1) * D0 ≤ N1 * D0 := Int.mul_le_mul_of_nonneg_right (by omega) (by omega)
  have k3 : (q0 + 1) * (D0 * D1) ≤ q1 * (D0 * D1) := Int.mul_le_mul_of_nonneg_right (by omega) (Int.le_of_lt (Int.mul_pos p0 p1))
  have e1 : (D0 * (q0 + 1)) * D1 = (q0 + 1) * (D0 * D1) := by rw [Int.mul_comm D0 (q0 + 1), Int.mul_assoc]
  have e2 : (D1 * q1) * D0 = q1 * (D0 * D1) := by rw [Int.mul_comm D1 q1, Int.mul_assoc, Int.mul_comm D1 D0]
  omega
theorem cmp_q {N0 N1 D0 D1 : Int} (p0 : 0 < D0) (p1 : 0 < D1) (hq : N0 / D0 ≠ N1 / D1) : icmp (N0 * D1) (N1 * D0) = icmp (N0 / D0) (N1 / D1) := by
  have h0 := Int.mul_ediv_add_emod N0 D0; have h1 := Int.mul_ediv_add_emod N1 D1
  have a0 := Int.emod_nonneg N0 (show D0 ≠ 0 by omega); have a1 := Int.emod_lt_of_pos N0 p0
  have b0 := Int.emod_nonneg N1 (show D1 ≠ 0 by omega); have b1 := Int.emod_lt_of_pos N1 p1
  rcases Int.lt_or_lt_of_ne hq with q | q
  · rw [icmp_lt q, icmp_lt (cmp_whole h0 h1 p0 p1 a0 a1 b0 b1 q)]
  · rw [icmp_gt q, icmp_gt (cmp_whole h1 h0 p1 p0 b0 b1 a0 a1 q)]
theorem cmp_r {N0 N1 D0 D1 : Int} (hq : N0 / D0 = N1 / D1) : icmp (N0 * D1) (N1 * D0) = icmp (D1 * (N0 % D0)) (D0 * (N1 % D1)) := by
  have h0 := Int.mul_ediv_add_emod N0 D0; have h1 := Int.mul_ediv_add_emod N1 D1
  apply icmp_sub
  generalize N0 % D0 = r0 at *
  generalize N1 % D1 = r1 at *
  rw [hq] at h0
  generalize N1 / D1 = q at *
  have e1 : N0 * D1 = q * (D0 * D1) + D1 * r0 := by rw [← h0, Int.add_mul, Int.mul_comm r0 D1, Int.mul_comm D0 q, Int.mul_assoc]
  have e2 : N1 * D0 = q * (D0 * D1) + D0 * r1 := by rw [← h1, Int.add_mul, Int.mul_comm r1 D0, Int.mul_comm D1 q, Int.mul_assoc, Int.mul_comm D1 D0]
  omega
theorem cmp_z {D0 D1 r0 r1 : Int} (p0 : 0 < D0) (p1 : 0 < D1) (a0 : 0 ≤ r0) (b0 : 0 ≤ r1) (h : r0 = 0 ∨ r1 = 0) : icmp (D1 * r0) (D0 * r1) = icmp r0 r1 := by
  rcases Int.lt_or_eq_of_le a0 with q | q
  · have e : r1 = 0 := by omega
    have := Int.mul_pos p1 q
    rw [e, Int.mul_zero, icmp_gt q, icmp_gt this]
  · rw [← q, Int.mul_zero]
    rcases Int.lt_or_eq_of_le b0 with s | s
    · have := Int.mul_pos p0 s
      rw [icmp_lt s, icmp_lt this]
    · rw [← s, Int.mul_zero]
theorem Box4.put4 {W : World} {b : Nat} {u v x y u' v' x' y' : Value} (h : Box4 W b u v x y) : Box4 ((((W.setCell ⟨b, 0, none⟩ u').setCell ⟨b, 1, none⟩ v').setCell ⟨b, 2, none⟩ x').setCell ⟨b, 3, none⟩ y') b u' v' x' y' := (h.put01).put23
/-- what Cmp keeps from round to round: g, g': the two rows' blocks; C: what is to be told; k: what bounds the rounds. -/
def CmpR (w : World) (g g' : Nat) (C : Int) (k : Nat) (W : World) : Prop := ∃ a0 b0 n0 a1 b1 n1 c0 e0 d0 c1 e1 d1 : Int,
  Box4 W g (.int .i64 a0) (.int .u64 b0) (.int .i64 a1) (.int .u64 b1) ∧ Box4 W g' (.int .i64 c0) (.int .u64 e0) (.int .i64 c1) (.int .u64 e1) ∧ (IsW a0 b0 n0 ∧ IsW a1 b1 n1 ∧ IsW c0 e0 d0 ∧ IsW c1 e1 d1) ∧ (0 < d0 ∧ 0 < d1 ∧ d0 + d1 ≤ k) ∧ icmp (n0 * d1) (n1 * d0) = C ∧ Below w.heap.size w W
/-- two rows in new blocks. -/
def CmpC (w : World) (C : Int) (k : Nat) (s t : Value) (W : World) : Prop := ∃ g g', s = .pointer (some ⟨g, 0, none⟩) ∧ t = .pointer (some ⟨g', 0, none⟩) ∧ g ≠ g' ∧ w.heap.size < g ∧ w.heap.size < g' ∧ CmpR w g g' C k W
/-- what Cmp tells. -/
def cmpv (n0 d0 n1 d1 : Int) : Int := if 0 < d0 ∧ 0 < d1 then icmp (n0 * d1) (n1 * d0) else 0
end Go.Proofs.Ytljkapolljgbiaa
namespace Go.Proofs.Ytljkapolljgbiaa
open Go.RowKit
set_option linter.unusedVariables false
set_option linter.unusedSimpArgs false
attribute [local go_sem ↓] Go.wp_at_zero Go.wp_at_succ

theorem IsN.lenW {w : World} {neg : Bool} {A : Option Addr} {l c : Nat} {n : Int} (h : IsN w neg A l c n) (hf : fits n = true) : l ≤ 10 := by
  unfold fits at hf
  rw [decide_eq_true_eq] at hf
  exact h.len10 (by omega) (by omega)
theorem lenF {w : World} {neg : Bool} {A : Option Addr} {l c : Nat} {n : Int} (h : IsN w neg A l c n) (hf : fits n = true) {k : Nat} (hk : 10 ≤ k) : l ≤ k := Nat.le_trans (h.lenW hf) hk
theorem icmp_self (n : Int) : icmp n n = 0 := icmp_eq rfl
theorem eq_of {a b c d n : Int} (h : IsW a b n) (k : IsW c d n) : eqW a b c d = true := by rw [h.eqW k]; exact decide_eq_true rfl
/-- four Ints' halves compared. -/
def eqF (a b c d a' b' c' d' : Int) : Bool := eqW a b a' b' && eqW c d c' d'
theorem eqF_in (a b c d a' b' c' d' : Int) (w : World) : (Op.equalIn 10000 41 (.agg #[.int .i64 a, .int .u64 b, .int .i64 c, .int .u64 d]) (.agg #[.int .i64 a', .int .u64 b', .int .i64 c', .int .u64 d'])).run Try.prog w = .ok (eqF a b c d a' b' c' d') w := by
  unfold eqF eqW
  go_simp
  by_cases h1 : a = a' <;> by_cases h2 : b = b' <;> by_cases h3 : c = c' <;> by_cases h4 : d = d' <;> simp [h1, h2, h3, h4]
@[go_sem ↓ high] theorem eqlF (a b c d a' b' c' d' : Int) (w : World) : (binOp .eql 41 (.agg #[.int .i64 a, .int .u64 b, .int .i64 c, .int .u64 d]) (.agg #[.int .i64 a', .int .u64 b', .int .i64 c', .int .u64 d'])).run Try.prog w = .ok (.bool (eqF a b c d a' b' c' d')) w := by
  rw [run_eql_struct, eqF_in]; rfl
@[go_sem ↓ high] theorem neqF (a b c d a' b' c' d' : Int) (w : World) : (binOp .neq 41 (.agg #[.int .i64 a, .int .u64 b, .int .i64 c, .int .u64 d]) (.agg #[.int .i64 a', .int .u64 b', .int .i64 c', .int .u64 d'])).run Try.prog w = .ok (.bool (!eqF a b c d a' b' c' d')) w := by
  rw [run_neq_struct, eqF_in]; rfl
theorem eqF_of {a b c d a' b' c' d' n m : Int} (h1 : IsW a b n) (h2 : IsW a' b' n) (h3 : IsW c d m) (h4 : IsW c' d' m) : eqF a b c d a' b' c' d' = true := by unfold eqF; rw [eq_of h1 h2, eq_of h3 h4]; rfl
/-- blocks of four cells and of two that the walk holds on to. -/
structure AlW (w : World) (g g' : Nat) (a b c d s t : Int) (W : World) : Prop where
  f : Box4 W g (.int .i64 a) (.int .u64 b) (.int .i64 c) (.int .u64 d)
  s : Box W g' (.int .i64 s) (.int .u64 t)
  below : Below w.heap.size w W
section
variable {w W w1 : World} {g g' : Nat} {a b c d s t : Int}
theorem AlW.call (h : AlW w g g' a b c d s t W) (hb : Below W.heap.size W w1) : AlW w g g' a b c d s t w1 := ⟨h.f.call hb, h.s.call hb, below_call h.below hb⟩
theorem AlW.k (h : AlW w g g' a b c d s t W) : (W.cell? ⟨g, 0, none⟩ = some (.int .i64 a) ∧ W.cell? ⟨g, 1, none⟩ = some (.int .u64 b) ∧ W.cell? ⟨g, 2, none⟩ = some (.int .i64 c) ∧ W.cell? ⟨g, 3, none⟩ = some (.int .u64 d)) ∧ (W.cell? ⟨g', 0, none⟩ = some (.int .i64 s) ∧ W.cell? ⟨g', 1, none⟩ = some (.int .u64 t)) := ⟨h.f.1, h.s.1⟩
end
end Go.Proofs.Ytljkapolljgbiaa
