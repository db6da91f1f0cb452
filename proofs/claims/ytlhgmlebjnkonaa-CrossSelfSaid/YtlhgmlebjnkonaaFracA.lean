/-
  Contracts of package frac: Right, Floor, Make, Of. My own text.
  Contracts of package frac: Floor, nearest, Of, Make. My own text.
  Contracts of package frac: Of, Make, Snap. My own text.
  Contracts of package frac: Snap. My own text.
  Contracts of package frac: divBoth. My own text.
  Contracts of package frac: Cmp. My own text.
  The statements' own calls of layer 2: num, alive; what their walks hold on to. My own text.
-/
import Derived.Test.YtlhgmlebjnkonaaDivD
import Derived.Test.YtlhgmlebjnkonaaRefO
import Derived.Test.YtlhgmlebjnkonaaWideC
import Derived.Deep.DrawnRows
import Derived.RegionTactic
import Derived.Deep.LoopGhost
import Derived.Deep.DeepCutAuto
namespace Go.Proofs.Ytlhgmlebjnkonaa
open Go.RowKit
set_option linter.unusedVariables false

/-- four cells of a block, and that they may be written. -/
def Box4 (w : World) (b : Nat) (u v x y : Value) : Prop := (w.cell? ⟨b, 0, none⟩ = some u ∧ w.cell? ⟨b, 1, none⟩ = some v ∧ w.cell? ⟨b, 2, none⟩ = some x ∧ w.cell? ⟨b, 3, none⟩ = some y) ∧ (w.frozen? ⟨b, 0, none⟩ = false ∧ w.frozen? ⟨b, 1, none⟩ = false ∧ w.frozen? ⟨b, 2, none⟩ = false ∧ w.frozen? ⟨b, 3, none⟩ = false)
section
variable {w W w1 : World} {b g : Nat} {u v x y q : Value}
theorem Box4.lt (h : Box4 w b u v x y) : b < w.heap.size := World.block_lt_of_cell? w _ h.1.1
theorem Box4.call (h : Box4 W b u v x y) (hb : Below W.heap.size W w1) : Box4 w1 b u v x y := by
  have hl := h.lt
  obtain ⟨⟨h1, h2, h3, h4⟩, k1, k2, k3, k4⟩ := h
  exact ⟨⟨(hb.cell (p := ⟨b, 0, none⟩) hl).trans h1, (hb.cell (p := ⟨b, 1, none⟩) hl).trans h2, (hb.cell (p := ⟨b, 2, none⟩) hl).trans h3, (hb.cell (p := ⟨b, 3, none⟩) hl).trans h4⟩, (hb.frozen (p := ⟨b, 0, none⟩) hl).trans k1, (hb.frozen (p := ⟨b, 1, none⟩) hl).trans k2, (hb.frozen (p := ⟨b, 2, none⟩) hl).trans k3, (hb.frozen (p := ⟨b, 3, none⟩) hl).trans k4⟩
theorem Box4.alloc (h : Box4 W b u v x y) (o : Obj) : Box4 (W.alloc o) b u v x y := h.call ((Below.refl _ _).alloc (Nat.le_refl _) o)
theorem Box4.drew (h : Box4 W b u v x y) : Box4 W.drew b u v x y := h.call ((Below.refl _ _).drew)
theorem Box4.new {t : TypeId} (e : b = W.heap.size) : Box4 (W.alloc (.cells #[u, v, x, y] t)) b u v x y := by
  subst e
  unfold Box4
  go_simp
theorem Box4.set (h : Box4 W b u v x y) (o : Nat) (ne : g ≠ b) : Box4 (W.setCell ⟨g, o, none⟩ q) b u v x y := by
  obtain ⟨⟨h1, h2, h3, h4⟩, k1, k2, k3, k4⟩ := h
  have n0 : ∀ i, (⟨g, o, none⟩ : Addr) ≠ ⟨b, i, none⟩ := fun i e => ne (congrArg Addr.block e)
  refine ⟨⟨?_, ?_, ?_, ?_⟩, ?_, ?_, ?_, ?_⟩
  · rw [World.cell?_setCell_other _ _ _ _ (n0 0)]; exact h1
  · rw [World.cell?_setCell_other _ _ _ _ (n0 1)]; exact h2
  · rw [World.cell?_setCell_other _ _ _ _ (n0 2)]; exact h3
  · rw [World.cell?_setCell_other _ _ _ _ (n0 3)]; exact h4
  · go_simp
  · go_simp
  · go_simp
  · go_simp
end
section
variable {W : World} {b : Nat} {u v x y u' v' : Value}
theorem Box4.put01 (h : Box4 W b u v x y) : Box4 ((W.setCell ⟨b, 0, none⟩ u').setCell ⟨b, 1, none⟩ v') b u' v' x y := by
  obtain ⟨⟨h1, h2, h3, h4⟩, k1, k2, k3, k4⟩ := h
  unfold Box4
  go_simp
theorem Box4.put23 (h : Box4 W b u v x y) : Box4 ((W.setCell ⟨b, 2, none⟩ u').setCell ⟨b, 3, none⟩ v') b u v u' v' := by
  obtain ⟨⟨h1, h2, h3, h4⟩, k1, k2, k3, k4⟩ := h
  unfold Box4
  go_simp
end
/-- the whole part of n over d; 0, where d is not above 0. -/
def flo (n d : Int) : Int := if 0 < d then n / d else 0
theorem icmp_pos (d : Int) : decide (0 < icmp d 0) = decide (0 < d) := by
  unfold icmp
  rw [Bool.eq_iff_iff]
  simp only [decide_eq_true_eq]
  repeat' split
  all_goals omega
set_option maxHeartbeats 400000 in
theorem Right_any (h l h' l' d : Int) (w : World) (H : IsW h' l' d) : Calls Try.prog 21 #[.agg #[.int .i64 h, .int .u64 l, .int .i64 h', .int .u64 l']] w (RV (.bool (decide (0 < d))) w) := by
  have HI := Lib.hid (icmp_pos d)
  go_enter Try.func21, Try.ntmps21
  go_wp2_with (go_at_call 45; ((with_reducible refine (Sign_any _ _ _ _ H).mono ?_); rintro e w1 ⟨rfl, hb⟩))
  go_ret
  exact ⟨ret_bool HI.out, by (repeat (first | (with_reducible exact Below.refl _ _) | with_reducible assumption | (with_reducible refine below_alloc ?_ _) | (focus ((with_reducible refine below_set ?_ _ _ _ ?_); rotate_left; omega)) | (with_reducible refine Below.drew ?_) | (with_reducible refine below_call ?_ hb)))⟩
end Go.Proofs.Ytlhgmlebjnkonaa
namespace Go.Proofs.Ytlhgmlebjnkonaa
open Go.RowKit
set_option linter.unusedVariables false
attribute [local go_sem ↓] Go.wp_at_zero Go.wp_at_succ

theorem Box.both {w : World} {b : Nat} {u v : Value} (h : Box w b u v) : w.cell? ⟨b, 0, none⟩ = some u ∧ w.cell? ⟨b, 1, none⟩ = some v := h.1
/-- the whole number nearest to n over d, of a half the upper one. -/
def nea (n d : Int) : Int := if n % d < d - n % d then n / d else n / d + 1
theorem near_fits {n d : Int} (hn : fits n = true) (hd : 0 < d) (hdf : fits d = true) : fits (d - n % d) = true ∧ (d - n % d ≤ n % d → fits (n / d + 1) = true) := by
  unfold fits at *
  rw [decide_eq_true_eq] at hn hdf
  have h0 := Int.emod_nonneg n (show d ≠ 0 by omega)
  have h1 := Int.emod_lt_of_pos n hd
  have h2 := Int.mul_ediv_add_emod n d
  rw [decide_eq_true_eq, decide_eq_true_eq]
  refine ⟨by omega, fun hle => ?_⟩
  have hd2 : 2 ≤ d := by omega
  have q1 : n / d * 2 ≤ 170141183460469231731687303715884105727 ∧ -170141183460469231731687303715884105728 ≤ n / d := by
    refine ⟨?_, ?_⟩
    · rcases Int.lt_or_le (n / d) 0 with q | q
      · omega
      · have : n / d * 2 ≤ n / d * d := Int.mul_le_mul_of_nonneg_left hd2 q
        rw [Int.mul_comm (n / d) d] at this
        omega
    · rcases Int.lt_or_le (n / d) 0 with q | q
      · have : d * (n / d + 1) ≤ 1 * (n / d + 1) := Int.mul_le_mul_of_nonpos_right (by omega) (by omega)
        rw [Int.mul_add] at this
        omega
      · omega
  omega
end Go.Proofs.Ytlhgmlebjnkonaa
namespace Go.Proofs.Ytlhgmlebjnkonaa
open Go.RowKit
set_option linter.unusedVariables false
attribute [local go_sem ↓] Go.wp_at_zero Go.wp_at_succ

/-- a fraction comes back. -/
def RF (n d : Int) (w : World) (e : Ending) (w' : World) : Prop := ∃ a b c f, e = .returned (.agg #[.int .i64 a, .int .u64 b, .int .i64 c, .int .u64 f]) ∧ IsW a b n ∧ IsW c f d ∧ Below w.heap.size w w'
/-- a fraction, and whether there is one. -/
def RFB (is : Bool) (n d : Int) (w : World) (e : Ending) (w' : World) : Prop := ∃ a b c f, e = .returned (.tuple #[.agg #[.int .i64 a, .int .u64 b, .int .i64 c, .int .u64 f], .bool is]) ∧ IsW a b n ∧ IsW c f d ∧ Below w.heap.size w w'
set_option maxHeartbeats 400000 in
theorem fOf_any (k : Int) (w : World) (h0 : -9223372036854775808 ≤ k) (h1 : k < 9223372036854775808) : Calls Try.prog 20 #[.int .i64 k] w (RF k 1 w) := by
  have C0 := Lib.hid (fun w => Of_any k w h0 h1)
  clear h0 h1
  go_enter Try.func20, Try.ntmps20
  go_wp2_with fail
  refine (C0.out _).mono ?_
  rintro e w1 ⟨a, b, rfl, ha, hb1⟩
  go_wp2_with fail
  refine (Of_any 1 _ (by omega) (by omega)).mono ?_
  rintro e w2 ⟨c, f, rfl, hc, hb2⟩
  have B0 : Box4 w2 w.heap.size (.int .i64 0) (.int .u64 0) (.int .i64 0) (.int .u64 0) := by (repeat (first | with_reducible assumption | (focus ((with_reducible refine Box.new ?_); simp; done)) | (focus ((with_reducible refine Box4.new ?_); simp; done)) | (with_reducible refine Box.alloc ?_ _) | (with_reducible refine Box4.alloc ?_ _) | (with_reducible refine Box.drew ?_) | (with_reducible refine Box4.drew ?_) | (with_reducible refine Box.put ?_) | (focus ((with_reducible refine Box.set ?_ _ ?_); rotate_left; omega)) | (focus ((with_reducible refine Box4.set ?_ _ ?_); rotate_left; omega)) | (focus ((with_reducible apply HasBox.of); with_reducible assumption)) | (focus ((with_reducible refine HasBox.new ?_); simp; done)) | (with_reducible refine HasBox.set ?_ _ _) | (with_reducible refine HasBox.drew ?_) | (with_reducible refine HasBox.alloc ?_ _) | (with_reducible refine Box.call ?_ hb2) | (with_reducible refine Box4.call ?_ hb2) | (with_reducible refine HasBox.call ?_ hb2) | (with_reducible refine Box.call ?_ hb1) | (with_reducible refine Box4.call ?_ hb1) | (with_reducible refine HasBox.call ?_ hb1)))
  obtain ⟨⟨p0, p1, p2, p3⟩, q0, q1, q2, q3⟩ := id B0
  go_wp2_with fail
  refine bodyPost_ret (v := .agg #[.int .i64 a, .int .u64 b, .int .i64 c, .int .u64 f]) (by simp only [results, Try.results20]; go_simp) rfl ⟨_, _, _, _, rfl, ha, hc, ?_⟩
  (repeat (first | (with_reducible exact Below.refl _ _) | with_reducible assumption | (with_reducible refine below_alloc ?_ _) | (focus ((with_reducible refine below_set ?_ _ _ _ ?_); rotate_left; omega)) | (with_reducible refine Below.drew ?_) | (with_reducible refine below_call ?_ hb2) | (with_reducible refine below_call ?_ hb1)))
/-- what Make answers. -/
def mkIs (n d : Int) : Bool := decide (0 < d) || (decide (d < 0) && fits (-n) && fits (-d))
set_option maxHeartbeats 1000000 in
theorem Make_pos (h l n h' l' d : Int) (w : World) (H : IsW h l n) (H' : IsW h' l' d) (hd : 0 < d) : Calls Try.prog 51 #[.agg #[.int .i64 h, .int .u64 l], .agg #[.int .i64 h', .int .u64 l']] w (RFB true n d w) := by
  have C0 : Hid (∀ w, Calls Try.prog 45 #[.agg #[.int .i64 h', .int .u64 l']] w (RV (.int .i64 1) w)) := fun w => by have := Sign_any h' l' d w H'; rw [icmp_gt hd] at this; exact this
  go_enter Try.func51, Try.ntmps51
  go_wp2_with fail
  refine (C0.out _).mono ?_
  rintro e w1 ⟨rfl, hb1⟩
  have B_w1_0 : Box w1 (w.heap.size) (.int .i64 h) (.int .u64 l) := (by (repeat (first | with_reducible assumption | (focus ((with_reducible refine Box.new ?_); simp; done)) | (with_reducible refine Box.alloc ?_ _) | (with_reducible refine Box.drew ?_) | (with_reducible refine Box.put ?_) | (focus ((with_reducible refine Box.set ?_ _ ?_); rotate_left; omega)) | (focus ((with_reducible apply HasBox.of); with_reducible assumption)) | (focus ((with_reducible refine HasBox.new ?_); simp; done)) | (with_reducible refine HasBox.set ?_ _ _) | (with_reducible refine HasBox.drew ?_) | (with_reducible refine HasBox.alloc ?_ _) | (with_reducible refine Box.call ?_ hb1) | (with_reducible refine HasBox.call ?_ hb1)))); obtain ⟨⟨c_w1_0, d_w1_0⟩, f_w1_0, g_w1_0⟩ := id B_w1_0; have B_w1_1 : Box w1 (w.heap.size + 1) (.int .i64 h') (.int .u64 l') := (by (repeat (first | with_reducible assumption | (focus ((with_reducible refine Box.new ?_); simp; done)) | (with_reducible refine Box.alloc ?_ _) | (with_reducible refine Box.drew ?_) | (with_reducible refine Box.put ?_) | (focus ((with_reducible refine Box.set ?_ _ ?_); rotate_left; omega)) | (focus ((with_reducible apply HasBox.of); with_reducible assumption)) | (focus ((with_reducible refine HasBox.new ?_); simp; done)) | (with_reducible refine HasBox.set ?_ _ _) | (with_reducible refine HasBox.drew ?_) | (with_reducible refine HasBox.alloc ?_ _) | (with_reducible refine Box.call ?_ hb1) | (with_reducible refine HasBox.call ?_ hb1)))); obtain ⟨⟨c_w1_1, d_w1_1⟩, f_w1_1, g_w1_1⟩ := id B_w1_1
  have B0 : Box4 w1 (w.heap.size + 1 + 1) (.int .i64 0) (.int .u64 0) (.int .i64 0) (.int .u64 0) := by (repeat (first | with_reducible assumption | (focus ((with_reducible refine Box.new ?_); simp; done)) | (focus ((with_reducible refine Box4.new ?_); simp; done)) | (with_reducible refine Box.alloc ?_ _) | (with_reducible refine Box4.alloc ?_ _) | (with_reducible refine Box.drew ?_) | (with_reducible refine Box4.drew ?_) | (with_reducible refine Box.put ?_) | (focus ((with_reducible refine Box.set ?_ _ ?_); rotate_left; omega)) | (focus ((with_reducible refine Box4.set ?_ _ ?_); rotate_left; omega)) | (focus ((with_reducible apply HasBox.of); with_reducible assumption)) | (focus ((with_reducible refine HasBox.new ?_); simp; done)) | (with_reducible refine HasBox.set ?_ _ _) | (with_reducible refine HasBox.drew ?_) | (with_reducible refine HasBox.alloc ?_ _) | (with_reducible refine Box.call ?_ hb1) | (with_reducible refine Box4.call ?_ hb1) | (with_reducible refine HasBox.call ?_ hb1)))
  obtain ⟨⟨p0, p1, p2, p3⟩, q0, q1, q2, q3⟩ := id B0
  go_wp2_with fail
  refine bodyPost_ret (v := .tuple #[.agg #[.int .i64 h, .int .u64 l, .int .i64 h', .int .u64 l'], .bool true]) (by simp only [results, Try.results51]; go_simp) rfl ⟨_, _, _, _, rfl, H, H', ?_⟩
  (repeat (first | (with_reducible exact Below.refl _ _) | with_reducible assumption | (with_reducible refine below_alloc ?_ _) | (focus ((with_reducible refine below_set ?_ _ _ _ ?_); rotate_left; omega)) | (with_reducible refine Below.drew ?_) | (with_reducible refine below_call ?_ hb1)))
set_option maxHeartbeats 1000000 in
theorem Make_zero (h l n h' l' : Int) (w : World) (H : IsW h l n) (H' : IsW h' l' 0) : Calls Try.prog 51 #[.agg #[.int .i64 h, .int .u64 l], .agg #[.int .i64 h', .int .u64 l']] w (RFB false 0 0 w) := by
  have C0 : Hid (∀ w, Calls Try.prog 45 #[.agg #[.int .i64 h', .int .u64 l']] w (RV (.int .i64 0) w)) := fun w => by have := Sign_any h' l' 0 w H'; rw [icmp_eq rfl] at this; exact this
  go_enter Try.func51, Try.ntmps51
  go_wp2_with fail
  refine (C0.out _).mono ?_
  rintro e w1 ⟨rfl, hb1⟩
  have B0 : Box4 w1 (w.heap.size + 1 + 1) (.int .i64 0) (.int .u64 0) (.int .i64 0) (.int .u64 0) := by (repeat (first | with_reducible assumption | (focus ((with_reducible refine Box.new ?_); simp; done)) | (focus ((with_reducible refine Box4.new ?_); simp; done)) | (with_reducible refine Box.alloc ?_ _) | (with_reducible refine Box4.alloc ?_ _) | (with_reducible refine Box.drew ?_) | (with_reducible refine Box4.drew ?_) | (with_reducible refine Box.put ?_) | (focus ((with_reducible refine Box.set ?_ _ ?_); rotate_left; omega)) | (focus ((with_reducible refine Box4.set ?_ _ ?_); rotate_left; omega)) | (focus ((with_reducible apply HasBox.of); with_reducible assumption)) | (focus ((with_reducible refine HasBox.new ?_); simp; done)) | (with_reducible refine HasBox.set ?_ _ _) | (with_reducible refine HasBox.drew ?_) | (with_reducible refine HasBox.alloc ?_ _) | (with_reducible refine Box.call ?_ hb1) | (with_reducible refine Box4.call ?_ hb1) | (with_reducible refine HasBox.call ?_ hb1)))
  obtain ⟨⟨p0, p1, p2, p3⟩, q0, q1, q2, q3⟩ := id B0
  go_wp2_with fail
  refine bodyPost_ret (v := .tuple #[.agg #[.int .i64 0, .int .u64 0, .int .i64 0, .int .u64 0], .bool false]) (by simp only [results, Try.results51]; go_simp) rfl ⟨_, _, _, _, rfl, isW0, isW0, ?_⟩
  (repeat (first | (with_reducible exact Below.refl _ _) | with_reducible assumption | (with_reducible refine below_alloc ?_ _) | (focus ((with_reducible refine below_set ?_ _ _ _ ?_); rotate_left; omega)) | (with_reducible refine Below.drew ?_) | (with_reducible refine below_call ?_ hb1)))
/-- what Make answers, of a d below 0. -/
def RFM (n d : Int) (w : World) (e : Ending) (w' : World) : Prop := RFB (fits (-n) && fits (-d)) (if (fits (-n) && fits (-d)) = true then -n else 0) (if (fits (-n) && fits (-d)) = true then -d else 0) w e w'
theorem rfm_yes {n d : Int} {w w' : World} {a b c f : Int} (f1 : fits (-n) = true) (f2 : fits (-d) = true) (h1 : IsW a b (-n)) (h2 : IsW c f (-d)) (hb : Below w.heap.size w w') : RFM n d w (.returned (.tuple #[.agg #[.int .i64 a, .int .u64 b, .int .i64 c, .int .u64 f], .bool true])) w' := by
  unfold RFM; rw [f1, f2]; exact ⟨a, b, c, f, rfl, h1, h2, hb⟩
theorem rfm_no {n d : Int} {w w' : World} (h : (fits (-n) && fits (-d)) = false) (hb : Below w.heap.size w w') : RFM n d w (.returned (.tuple #[.agg #[.int .i64 0, .int .u64 0, .int .i64 0, .int .u64 0], .bool false])) w' := by
  unfold RFM; rw [h]; exact ⟨0, 0, 0, 0, rfl, isW0, isW0, hb⟩
set_option maxHeartbeats 1000000 in
theorem Make_neg (ha la n h' l' d : Int) (w : World) (H : IsW ha la n) (H' : IsW h' l' d) (hd : d < 0) :
    Calls Try.prog 51 #[.agg #[.int .i64 ha, .int .u64 la], .agg #[.int .i64 h', .int .u64 l']] w (RFM n d w) := by
  have C0 : Hid (∀ w, Calls Try.prog 45 #[.agg #[.int .i64 h', .int .u64 l']] w (RV (.int .i64 (-1)) w)) := fun w => by have := Sign_any h' l' d w H'; rw [icmp_lt hd] at this; exact this
  have hm0 := isW0
  go_enter Try.func51, Try.ntmps51
  go_wp2_with fail
  refine (C0.out _).mono ?_
  rintro e w1 ⟨rfl, hb1⟩
  have B_w1_0 : Box w1 (w.heap.size) (.int .i64 ha) (.int .u64 la) := (by (repeat (first | with_reducible assumption | (focus ((with_reducible refine Box.new ?_); simp; done)) | (with_reducible refine Box.alloc ?_ _) | (with_reducible refine Box.drew ?_) | (with_reducible refine Box.put ?_) | (focus ((with_reducible refine Box.set ?_ _ ?_); rotate_left; omega)) | (focus ((with_reducible apply HasBox.of); with_reducible assumption)) | (focus ((with_reducible refine HasBox.new ?_); simp; done)) | (with_reducible refine HasBox.set ?_ _ _) | (with_reducible refine HasBox.drew ?_) | (with_reducible refine HasBox.alloc ?_ _) | (with_reducible refine Box.call ?_ hb1) | (with_reducible refine HasBox.call ?_ hb1)))); obtain ⟨⟨c_w1_0, d_w1_0⟩, f_w1_0, g_w1_0⟩ := id B_w1_0; have B_w1_1 : Box w1 (w.heap.size + 1) (.int .i64 h') (.int .u64 l') := (by (repeat (first | with_reducible assumption | (focus ((with_reducible refine Box.new ?_); simp; done)) | (with_reducible refine Box.alloc ?_ _) | (with_reducible refine Box.drew ?_) | (with_reducible refine Box.put ?_) | (focus ((with_reducible refine Box.set ?_ _ ?_); rotate_left; omega)) | (focus ((with_reducible apply HasBox.of); with_reducible assumption)) | (focus ((with_reducible refine HasBox.new ?_); simp; done)) | (with_reducible refine HasBox.set ?_ _ _) | (with_reducible refine HasBox.drew ?_) | (with_reducible refine HasBox.alloc ?_ _) | (with_reducible refine Box.call ?_ hb1) | (with_reducible refine HasBox.call ?_ hb1)))); obtain ⟨⟨c_w1_1, d_w1_1⟩, f_w1_1, g_w1_1⟩ := id B_w1_1; have hz_hb1 := Below.size hb1; (try simp at hz_hb1); have ne_hb1_0 : ¬ w1.heap.size = w.heap.size := (by omega); have ne_hb1_1 : ¬ w1.heap.size = w.heap.size + 1 := (by omega); have ne_hb1_2 : ¬ w1.heap.size = w.heap.size + 1 + 1 := (by omega); have en_hb1_0 : ¬ w.heap.size = w1.heap.size := (by omega); have en_hb1_1 : ¬ w.heap.size + 1 = w1.heap.size := (by omega); have en_hb1_2 : ¬ w.heap.size + 1 + 1 = w1.heap.size := (by omega); have lt_hb1_0 : w.heap.size < w1.heap.size := (by omega); have lt_hb1_1 : w.heap.size + 1 < w1.heap.size := (by omega); have lt_hb1_2 : w.heap.size + 1 + 1 < w1.heap.size := (by omega)
  go_wp2_with fail
  refine (Neg_any _ _ _ _ H).mono ?_
  rintro e w2 ⟨na, nb, rfl, hn, hb2⟩
  have B_w2_0 : Box w2 (w.heap.size + 1) (.int .i64 h') (.int .u64 l') := (by (repeat (first | with_reducible assumption | (focus ((with_reducible refine Box.new ?_); simp; done)) | (with_reducible refine Box.alloc ?_ _) | (with_reducible refine Box.drew ?_) | (with_reducible refine Box.put ?_) | (focus ((with_reducible refine Box.set ?_ _ ?_); rotate_left; omega)) | (focus ((with_reducible apply HasBox.of); with_reducible assumption)) | (focus ((with_reducible refine HasBox.new ?_); simp; done)) | (with_reducible refine HasBox.set ?_ _ _) | (with_reducible refine HasBox.drew ?_) | (with_reducible refine HasBox.alloc ?_ _) | (with_reducible refine Box.call ?_ hb2) | (with_reducible refine HasBox.call ?_ hb2) | (with_reducible refine Box.call ?_ hb1) | (with_reducible refine HasBox.call ?_ hb1)))); obtain ⟨⟨c_w2_0, d_w2_0⟩, f_w2_0, g_w2_0⟩ := id B_w2_0; have hz_hb2 := Below.size hb2; (try simp at hz_hb2); have ne_hb2_0 : ¬ w2.heap.size = w.heap.size := (by omega); have ne_hb2_1 : ¬ w2.heap.size = w.heap.size + 1 := (by omega); have ne_hb2_2 : ¬ w2.heap.size = w.heap.size + 1 + 1 := (by omega); have en_hb2_0 : ¬ w.heap.size = w2.heap.size := (by omega); have en_hb2_1 : ¬ w.heap.size + 1 = w2.heap.size := (by omega); have en_hb2_2 : ¬ w.heap.size + 1 + 1 = w2.heap.size := (by omega); have lt_hb2_0 : w.heap.size < w2.heap.size := (by omega); have lt_hb2_1 : w.heap.size + 1 < w2.heap.size := (by omega); have lt_hb2_2 : w.heap.size + 1 + 1 < w2.heap.size := (by omega)
  go_wp2_with fail
  refine (Neg_any _ _ _ _ H').mono ?_
  rintro e w3 ⟨da, db, rfl, hdd, hb3⟩
  have B_w3_0 : Box w3 (w2.heap.size) (.int .i64 na) (.int .u64 nb) := (by (repeat (first | with_reducible assumption | (focus ((with_reducible refine Box.new ?_); simp; done)) | (with_reducible refine Box.alloc ?_ _) | (with_reducible refine Box.drew ?_) | (with_reducible refine Box.put ?_) | (focus ((with_reducible refine Box.set ?_ _ ?_); rotate_left; omega)) | (focus ((with_reducible apply HasBox.of); with_reducible assumption)) | (focus ((with_reducible refine HasBox.new ?_); simp; done)) | (with_reducible refine HasBox.set ?_ _ _) | (with_reducible refine HasBox.drew ?_) | (with_reducible refine HasBox.alloc ?_ _) | (with_reducible refine Box.call ?_ hb3) | (with_reducible refine HasBox.call ?_ hb3) | (with_reducible refine Box.call ?_ hb2) | (with_reducible refine HasBox.call ?_ hb2) | (with_reducible refine Box.call ?_ hb1) | (with_reducible refine HasBox.call ?_ hb1)))); obtain ⟨⟨c_w3_0, d_w3_0⟩, f_w3_0, g_w3_0⟩ := id B_w3_0; have hz_hb3 := Below.size hb3; (try simp at hz_hb3); have ne_hb3_0 : ¬ w3.heap.size = w.heap.size := (by omega); have ne_hb3_1 : ¬ w3.heap.size = w.heap.size + 1 := (by omega); have ne_hb3_2 : ¬ w3.heap.size = w.heap.size + 1 + 1 := (by omega); have en_hb3_0 : ¬ w.heap.size = w3.heap.size := (by omega); have en_hb3_1 : ¬ w.heap.size + 1 = w3.heap.size := (by omega); have en_hb3_2 : ¬ w.heap.size + 1 + 1 = w3.heap.size := (by omega); have lt_hb3_0 : w.heap.size < w3.heap.size := (by omega); have lt_hb3_1 : w.heap.size + 1 < w3.heap.size := (by omega); have lt_hb3_2 : w.heap.size + 1 + 1 < w3.heap.size := (by omega)
  have B0 : Box4 w3 (w.heap.size + 1 + 1) (.int .i64 0) (.int .u64 0) (.int .i64 0) (.int .u64 0) := by (repeat (first | with_reducible assumption | (focus ((with_reducible refine Box.new ?_); simp; done)) | (focus ((with_reducible refine Box4.new ?_); simp; done)) | (with_reducible refine Box.alloc ?_ _) | (with_reducible refine Box4.alloc ?_ _) | (with_reducible refine Box.drew ?_) | (with_reducible refine Box4.drew ?_) | (with_reducible refine Box.put ?_) | (focus ((with_reducible refine Box.set ?_ _ ?_); rotate_left; omega)) | (focus ((with_reducible refine Box4.set ?_ _ ?_); rotate_left; omega)) | (focus ((with_reducible apply HasBox.of); with_reducible assumption)) | (focus ((with_reducible refine HasBox.new ?_); simp; done)) | (with_reducible refine HasBox.set ?_ _ _) | (with_reducible refine HasBox.drew ?_) | (with_reducible refine HasBox.alloc ?_ _) | (with_reducible refine Box.call ?_ hb3) | (with_reducible refine Box4.call ?_ hb3) | (with_reducible refine HasBox.call ?_ hb3) | (with_reducible refine Box.call ?_ hb2) | (with_reducible refine Box4.call ?_ hb2) | (with_reducible refine HasBox.call ?_ hb2) | (with_reducible refine Box.call ?_ hb1) | (with_reducible refine Box4.call ?_ hb1) | (with_reducible refine HasBox.call ?_ hb1)))
  obtain ⟨⟨p0, p1, p2, p3⟩, q0, q1, q2, q3⟩ := id B0
  have l2 := Box.lt B_w3_0; have l3 := Nat.ne_of_lt (Box.lt B_w3_0); have l4 := Nat.ne_of_gt (Box.lt B_w3_0)
  have l5 := B0.lt; have l6 := Nat.ne_of_lt B0.lt; have l7 := Nat.ne_of_gt B0.lt
  by_cases f1 : fits (-n) = true
  · by_cases f2 : fits (-d) = true
    · rw [if_pos f1] at hn
      rw [if_pos f2] at hdd
      have G1 := Lib.hid f1
      have G2 := Lib.hid f2
      rw [f1, f2]
      clear f1 f2
      go_wp2_with fail
      refine bodyPost_ret (v := .tuple #[.agg #[.int .i64 na, .int .u64 nb, .int .i64 da, .int .u64 db], .bool true]) (by simp only [results, Try.results51]; go_simp) rfl (rfm_yes G1.out G2.out hn hdd ?_)
      (repeat (first | (with_reducible exact Below.refl _ _) | with_reducible assumption | (with_reducible refine below_alloc ?_ _) | (focus ((with_reducible refine below_set ?_ _ _ _ ?_); rotate_left; omega)) | (with_reducible refine Below.drew ?_) | (with_reducible refine below_call ?_ hb3) | (with_reducible refine below_call ?_ hb2) | (with_reducible refine below_call ?_ hb1)))
    · have f2' : fits (-d) = false := by simpa using f2
      have G : Hid ((fits (-n) && fits (-d)) = false) := by unfold Hid; rw [f2', Bool.and_false]
      rw [f1, f2']
      clear f1 f2 f2' hn hdd
      go_wp2_with fail
      refine bodyPost_ret (v := .tuple #[.agg #[.int .i64 0, .int .u64 0, .int .i64 0, .int .u64 0], .bool false]) (by simp only [results, Try.results51]; go_simp) rfl (rfm_no G.out ?_)
      (repeat (first | (with_reducible exact Below.refl _ _) | with_reducible assumption | (with_reducible refine below_alloc ?_ _) | (focus ((with_reducible refine below_set ?_ _ _ _ ?_); rotate_left; omega)) | (with_reducible refine Below.drew ?_) | (with_reducible refine below_call ?_ hb3) | (with_reducible refine below_call ?_ hb2) | (with_reducible refine below_call ?_ hb1)))
  · have f1' : fits (-n) = false := by simpa using f1
    have G : Hid ((fits (-n) && fits (-d)) = false) := by unfold Hid; rw [f1', Bool.false_and]
    rw [f1']
    clear f1 f1' hn hdd
    go_wp2_with fail
    refine bodyPost_ret (v := .tuple #[.agg #[.int .i64 0, .int .u64 0, .int .i64 0, .int .u64 0], .bool false]) (by simp only [results, Try.results51]; go_simp) rfl (rfm_no G.out ?_)
    (repeat (first | (with_reducible exact Below.refl _ _) | with_reducible assumption | (with_reducible refine below_alloc ?_ _) | (focus ((with_reducible refine below_set ?_ _ _ _ ?_); rotate_left; omega)) | (with_reducible refine Below.drew ?_) | (with_reducible refine below_call ?_ hb3) | (with_reducible refine below_call ?_ hb2) | (with_reducible refine below_call ?_ hb1)))
end Go.Proofs.Ytlhgmlebjnkonaa
namespace Go.Proofs.Ytlhgmlebjnkonaa
open Go.RowKit
set_option linter.unusedVariables false
attribute [local go_sem ↓] Go.wp_at_zero Go.wp_at_succ

theorem Box4.cs {w : World} {b : Nat} {u v x y : Value} (h : Box4 w b u v x y) : w.cell? ⟨b, 0, none⟩ = some u ∧ w.cell? ⟨b, 1, none⟩ = some v ∧ w.cell? ⟨b, 2, none⟩ = some x ∧ w.cell? ⟨b, 3, none⟩ = some y := h.1
/-- the Int n comes back, and true. -/
def RWT (n : Int) (w : World) (e : Ending) (w' : World) : Prop := ∃ H L, e = .returned (.tuple #[.agg #[.int .i64 H, .int .u64 L], .bool true]) ∧ IsW H L n ∧ Below w.heap.size w w'
/-- what Snap tells. -/
def sna (n d : Int) (k : Nat) : Int := if k = 0 then nea n d else nea (n / d) (2 ^ k)
theorem pow100 {k : Nat} (h : k ≤ 100) : fits ((2 : Int) ^ k) = true := by
  have h1 := Nat.pow_le_pow_right (show 0 < 2 by decide) h
  rw [show (2 : Nat) ^ 100 = 1267650600228229401496703205376 by decide] at h1
  have h2 := (pow2_bd k).1
  have e : ((2 : Int) ^ k) = ((2 ^ k : Nat) : Int) := by simp
  unfold fits
  rw [e, decide_eq_true_eq]
  generalize (2 : Nat) ^ k = P at *
  omega
end Go.Proofs.Ytlhgmlebjnkonaa
namespace Go.Proofs.Ytlhgmlebjnkonaa
open Go.RowKit
set_option linter.unusedVariables false
attribute [local go_sem ↓] Go.wp_at_zero Go.wp_at_succ

/-- two rows of two Ints come back. -/
def RBoth (q0 q1 r0 r1 : Int) (w : World) (e : Ending) (w' : World) : Prop := ∃ a b c d x y z t, e = .returned (.tuple #[.agg #[.int .i64 a, .int .u64 b, .int .i64 c, .int .u64 d], .agg #[.int .i64 x, .int .u64 y, .int .i64 z, .int .u64 t]]) ∧ IsW a b q0 ∧ IsW c d q1 ∧ IsW x y r0 ∧ IsW z t r1 ∧ Below w.heap.size w w'
theorem wpAt' {P : Program} {c : Code} {Q : Exit → Act → World → Prop} {a : Act} {W : World} (h : ∀ W', W' = W → c.wp P Q a W') : c.wp P Q a W := h W rfl
set_option maxHeartbeats 2000000 in
set_option maxRecDepth 100000 in
theorem divBoth_any (a0 b0 n0 a1 b1 n1 c0 e0 d0 c1 e1 d1 : Int) (w : World) (H0 : IsW a0 b0 n0) (H1 : IsW a1 b1 n1) (G0 : IsW c0 e0 d0) (G1 : IsW c1 e1 d1) (p0 : 0 < d0) (p1 : 0 < d1) :
    Calls Try.prog 43 #[.agg #[.int .i64 a0, .int .u64 b0, .int .i64 a1, .int .u64 b1], .agg #[.int .i64 c0, .int .u64 e0, .int .i64 c1, .int .u64 e1]] w (RBoth (n0 / d0) (n1 / d1) (n0 % d0) (n1 % d1) w) := by
  have C0 := Lib.hid (fun w => Div_yes a0 b0 n0 c0 e0 d0 w H0 G0 p0)
  have C1 := Lib.hid (fun w => Div_yes a1 b1 n1 c1 e1 d1 w H1 G1 p1)
  go_enter Try.func43, Try.ntmps43
  go_wp2_with fail
  refine wp_loop_rounds 3 ?_
  rw [rounds_succ]
  go_wp2_with fail
  have N1 : ¬ (w.heap.size + 1 = w.heap.size) := by omega
  have N2 : ¬ (w.heap.size + 1 + 1 = w.heap.size) := by omega
  have N3 : ¬ (w.heap.size + 1 + 1 + 1 = w.heap.size) := by omega
  refine wpAt' ?_
  intro W hW
  have Z0 : Box4 W w.heap.size (.int .i64 a0) (.int .u64 b0) (.int .i64 a1) (.int .u64 b1) := by rw [hW]; (repeat (first | with_reducible assumption | (focus ((with_reducible refine Box.new ?_); simp; done)) | (focus ((with_reducible refine Box4.new ?_); simp; done)) | (with_reducible refine Box.alloc ?_ _) | (with_reducible refine Box4.alloc ?_ _) | (with_reducible refine Box.drew ?_) | (with_reducible refine Box4.drew ?_) | (with_reducible refine Box.put ?_) | (focus ((with_reducible refine Box.set ?_ _ ?_); rotate_left; omega)) | (focus ((with_reducible refine Box4.set ?_ _ ?_); rotate_left; omega)) | (focus ((with_reducible apply HasBox.of); with_reducible assumption)) | (focus ((with_reducible refine HasBox.new ?_); simp; done)) | (with_reducible refine HasBox.set ?_ _ _) | (with_reducible refine HasBox.drew ?_) | (with_reducible refine HasBox.alloc ?_ _)))
  have Z1 : Box4 W (w.heap.size + 1) (.int .i64 c0) (.int .u64 e0) (.int .i64 c1) (.int .u64 e1) := by rw [hW]; (repeat (first | with_reducible assumption | (focus ((with_reducible refine Box.new ?_); simp; done)) | (focus ((with_reducible refine Box4.new ?_); simp; done)) | (with_reducible refine Box.alloc ?_ _) | (with_reducible refine Box4.alloc ?_ _) | (with_reducible refine Box.drew ?_) | (with_reducible refine Box4.drew ?_) | (with_reducible refine Box.put ?_) | (focus ((with_reducible refine Box.set ?_ _ ?_); rotate_left; omega)) | (focus ((with_reducible refine Box4.set ?_ _ ?_); rotate_left; omega)) | (focus ((with_reducible apply HasBox.of); with_reducible assumption)) | (focus ((with_reducible refine HasBox.new ?_); simp; done)) | (with_reducible refine HasBox.set ?_ _ _) | (with_reducible refine HasBox.drew ?_) | (with_reducible refine HasBox.alloc ?_ _)))
  have Z2 : Box4 W (w.heap.size + 1 + 1) (.int .i64 0) (.int .u64 0) (.int .i64 0) (.int .u64 0) := by rw [hW]; (repeat (first | with_reducible assumption | (focus ((with_reducible refine Box.new ?_); simp; done)) | (focus ((with_reducible refine Box4.new ?_); simp; done)) | (with_reducible refine Box.alloc ?_ _) | (with_reducible refine Box4.alloc ?_ _) | (with_reducible refine Box.drew ?_) | (with_reducible refine Box4.drew ?_) | (with_reducible refine Box.put ?_) | (focus ((with_reducible refine Box.set ?_ _ ?_); rotate_left; omega)) | (focus ((with_reducible refine Box4.set ?_ _ ?_); rotate_left; omega)) | (focus ((with_reducible apply HasBox.of); with_reducible assumption)) | (focus ((with_reducible refine HasBox.new ?_); simp; done)) | (with_reducible refine HasBox.set ?_ _ _) | (with_reducible refine HasBox.drew ?_) | (with_reducible refine HasBox.alloc ?_ _)))
  have Z3 : Box4 W (w.heap.size + 1 + 1 + 1) (.int .i64 0) (.int .u64 0) (.int .i64 0) (.int .u64 0) := by rw [hW]; (repeat (first | with_reducible assumption | (focus ((with_reducible refine Box.new ?_); simp; done)) | (focus ((with_reducible refine Box4.new ?_); simp; done)) | (with_reducible refine Box.alloc ?_ _) | (with_reducible refine Box4.alloc ?_ _) | (with_reducible refine Box.drew ?_) | (with_reducible refine Box4.drew ?_) | (with_reducible refine Box.put ?_) | (focus ((with_reducible refine Box.set ?_ _ ?_); rotate_left; omega)) | (focus ((with_reducible refine Box4.set ?_ _ ?_); rotate_left; omega)) | (focus ((with_reducible apply HasBox.of); with_reducible assumption)) | (focus ((with_reducible refine HasBox.new ?_); simp; done)) | (with_reducible refine HasBox.set ?_ _ _) | (with_reducible refine HasBox.drew ?_) | (with_reducible refine HasBox.alloc ?_ _)))
  have bl : Below w.heap.size w W := by rw [hW]; (repeat (first | (with_reducible exact Below.refl _ _) | with_reducible assumption | (with_reducible refine below_alloc ?_ _) | (focus ((with_reducible refine below_set ?_ _ _ _ ?_); rotate_left; omega)) | (with_reducible refine Below.drew ?_)))
  clear hW
  obtain ⟨⟨x0, x1, x2, x3⟩, y0, y1, y2, y3⟩ := id Z0
  obtain ⟨⟨x4, x5, x6, x7⟩, y4, y5, y6, y7⟩ := id Z1
  have V0 := Z0.drew; have V1 := Z1.drew; have V2 := Z2.drew; have V3 := Z3.drew
  go_region_held3 (fun w' => (w'.cell? ⟨w.heap.size, 0, none⟩ = some (.int .i64 a0) ∧ w'.cell? ⟨w.heap.size, 1, none⟩ = some (.int .u64 b0) ∧ w'.cell? ⟨w.heap.size, 2, none⟩ = some (.int .i64 a1) ∧ w'.cell? ⟨w.heap.size, 3, none⟩ = some (.int .u64 b1)) ∧ (w'.cell? ⟨w.heap.size + 1, 0, none⟩ = some (.int .i64 c0) ∧ w'.cell? ⟨w.heap.size + 1, 1, none⟩ = some (.int .u64 e0) ∧ w'.cell? ⟨w.heap.size + 1, 2, none⟩ = some (.int .i64 c1) ∧ w'.cell? ⟨w.heap.size + 1, 3, none⟩ = some (.int .u64 e1)))
    (first | (refine And.intro (Box4.cs ?_) (Box4.cs ?_) <;> ((repeat (first | with_reducible assumption | (focus ((with_reducible refine Box.new ?_); simp; done)) | (focus ((with_reducible refine Box4.new ?_); simp; done)) | (with_reducible refine Box.alloc ?_ _) | (with_reducible refine Box4.alloc ?_ _) | (with_reducible refine Box.drew ?_) | (with_reducible refine Box4.drew ?_) | (with_reducible refine Box.put ?_) | (focus ((with_reducible refine Box.set ?_ _ ?_); rotate_left; omega)) | (focus ((with_reducible refine Box4.set ?_ _ ?_); rotate_left; omega)) | (focus ((with_reducible apply HasBox.of); with_reducible assumption)) | (focus ((with_reducible refine HasBox.new ?_); simp; done)) | (with_reducible refine HasBox.set ?_ _ _) | (with_reducible refine HasBox.drew ?_) | (with_reducible refine HasBox.alloc ?_ _) | (with_reducible refine Box.call ?_ hb1) | (with_reducible refine Box4.call ?_ hb1) | (with_reducible refine HasBox.call ?_ hb1))); done)) | go_keep)
    (first | (go_at_call 59; ((with_reducible refine (C0.out _).mono ?_); rintro e w1 ⟨qa, qb, ra, rb, rfl, hq, hr, hb1⟩; have U2 := V2.call hb1; have U3 := V3.call hb1; obtain ⟨⟨t0, t1, t2, t3⟩, t4, t5, t6, t7⟩ := id U2; obtain ⟨⟨v0, v1, v2, v3⟩, v4, v5, v6, v7⟩ := id U3)))
  go_wp2_with fail
  rw [rounds_succ]
  go_wp2_with fail
  refine wpAt' ?_
  intro X hX
  have P0 : Box4 X w.heap.size (.int .i64 a0) (.int .u64 b0) (.int .i64 a1) (.int .u64 b1) := by rw [hX]; (repeat (first | with_reducible assumption | (focus ((with_reducible refine Box.new ?_); simp; done)) | (focus ((with_reducible refine Box4.new ?_); simp; done)) | (with_reducible refine Box.alloc ?_ _) | (with_reducible refine Box4.alloc ?_ _) | (with_reducible refine Box.drew ?_) | (with_reducible refine Box4.drew ?_) | (with_reducible refine Box.put ?_) | (focus ((with_reducible refine Box.set ?_ _ ?_); rotate_left; omega)) | (focus ((with_reducible refine Box4.set ?_ _ ?_); rotate_left; omega)) | (focus ((with_reducible apply HasBox.of); with_reducible assumption)) | (focus ((with_reducible refine HasBox.new ?_); simp; done)) | (with_reducible refine HasBox.set ?_ _ _) | (with_reducible refine HasBox.drew ?_) | (with_reducible refine HasBox.alloc ?_ _) | (with_reducible refine Box.call ?_ hb1) | (with_reducible refine Box4.call ?_ hb1) | (with_reducible refine HasBox.call ?_ hb1)))
  have P1 : Box4 X (w.heap.size + 1) (.int .i64 c0) (.int .u64 e0) (.int .i64 c1) (.int .u64 e1) := by rw [hX]; (repeat (first | with_reducible assumption | (focus ((with_reducible refine Box.new ?_); simp; done)) | (focus ((with_reducible refine Box4.new ?_); simp; done)) | (with_reducible refine Box.alloc ?_ _) | (with_reducible refine Box4.alloc ?_ _) | (with_reducible refine Box.drew ?_) | (with_reducible refine Box4.drew ?_) | (with_reducible refine Box.put ?_) | (focus ((with_reducible refine Box.set ?_ _ ?_); rotate_left; omega)) | (focus ((with_reducible refine Box4.set ?_ _ ?_); rotate_left; omega)) | (focus ((with_reducible apply HasBox.of); with_reducible assumption)) | (focus ((with_reducible refine HasBox.new ?_); simp; done)) | (with_reducible refine HasBox.set ?_ _ _) | (with_reducible refine HasBox.drew ?_) | (with_reducible refine HasBox.alloc ?_ _) | (with_reducible refine Box.call ?_ hb1) | (with_reducible refine Box4.call ?_ hb1) | (with_reducible refine HasBox.call ?_ hb1)))
  have P2 : Box4 X (w.heap.size + 1 + 1) (.int .i64 qa) (.int .u64 qb) (.int .i64 0) (.int .u64 0) := by rw [hX]; exact ((U2.put01).set _ (by omega)).set _ (by omega)
  have P3 : Box4 X (w.heap.size + 1 + 1 + 1) (.int .i64 ra) (.int .u64 rb) (.int .i64 0) (.int .u64 0) := by rw [hX]; exact ((U3.set _ (by omega)).set _ (by omega)).put01
  have blX : Below w.heap.size w X := by rw [hX]; (repeat (first | (with_reducible exact Below.refl _ _) | with_reducible assumption | (with_reducible refine below_alloc ?_ _) | (focus ((with_reducible refine below_set ?_ _ _ _ ?_); rotate_left; omega)) | (with_reducible refine Below.drew ?_) | (with_reducible refine below_call ?_ hb1)))
  clear hX hb1 U2 U3 V0 V1 V2 V3 Z0 Z1 Z2 Z3 bl t0 t1 t2 t3 t4 t5 t6 t7 v0 v1 v2 v3 v4 v5 v6 v7 x0 x1 x2 x3 x4 x5 x6 x7 y0 y1 y2 y3 y4 y5 y6 y7
  obtain ⟨⟨x0, x1, x2, x3⟩, y0, y1, y2, y3⟩ := id P0
  obtain ⟨⟨x4, x5, x6, x7⟩, y4, y5, y6, y7⟩ := id P1
  have V0 := P0.drew; have V1 := P1.drew; have V2 := P2.drew; have V3 := P3.drew
  go_region_held3 (fun w' => (w'.cell? ⟨w.heap.size, 0, none⟩ = some (.int .i64 a0) ∧ w'.cell? ⟨w.heap.size, 1, none⟩ = some (.int .u64 b0) ∧ w'.cell? ⟨w.heap.size, 2, none⟩ = some (.int .i64 a1) ∧ w'.cell? ⟨w.heap.size, 3, none⟩ = some (.int .u64 b1)) ∧ (w'.cell? ⟨w.heap.size + 1, 0, none⟩ = some (.int .i64 c0) ∧ w'.cell? ⟨w.heap.size + 1, 1, none⟩ = some (.int .u64 e0) ∧ w'.cell? ⟨w.heap.size + 1, 2, none⟩ = some (.int .i64 c1) ∧ w'.cell? ⟨w.heap.size + 1, 3, none⟩ = some (.int .u64 e1)))
    (first | (refine And.intro (Box4.cs ?_) (Box4.cs ?_) <;> ((repeat (first | with_reducible assumption | (focus ((with_reducible refine Box.new ?_); simp; done)) | (focus ((with_reducible refine Box4.new ?_); simp; done)) | (with_reducible refine Box.alloc ?_ _) | (with_reducible refine Box4.alloc ?_ _) | (with_reducible refine Box.drew ?_) | (with_reducible refine Box4.drew ?_) | (with_reducible refine Box.put ?_) | (focus ((with_reducible refine Box.set ?_ _ ?_); rotate_left; omega)) | (focus ((with_reducible refine Box4.set ?_ _ ?_); rotate_left; omega)) | (focus ((with_reducible apply HasBox.of); with_reducible assumption)) | (focus ((with_reducible refine HasBox.new ?_); simp; done)) | (with_reducible refine HasBox.set ?_ _ _) | (with_reducible refine HasBox.drew ?_) | (with_reducible refine HasBox.alloc ?_ _) | (with_reducible refine Box.call ?_ hb2) | (with_reducible refine Box4.call ?_ hb2) | (with_reducible refine HasBox.call ?_ hb2))); done)) | go_keep)
    (first | (go_at_call 59; ((with_reducible refine (C1.out _).mono ?_); rintro e w2 ⟨sa, sb, ta, tb, rfl, hs, ht, hb2⟩; have U2 := V2.call hb2; have U3 := V3.call hb2; obtain ⟨⟨t0, t1, t2, t3⟩, t4, t5, t6, t7⟩ := id U2; obtain ⟨⟨v0, v1, v2, v3⟩, v4, v5, v6, v7⟩ := id U3)))
  go_wp2_with fail
  rw [rounds_succ]
  go_wp2_with fail
  refine wpAt' ?_
  intro Y hY
  have Q2 : Box4 Y (w.heap.size + 1 + 1) (.int .i64 qa) (.int .u64 qb) (.int .i64 sa) (.int .u64 sb) := by rw [hY]; exact ((U2.put23).set _ (by omega)).set _ (by omega)
  have Q3 : Box4 Y (w.heap.size + 1 + 1 + 1) (.int .i64 ra) (.int .u64 rb) (.int .i64 ta) (.int .u64 tb) := by rw [hY]; exact ((U3.set _ (by omega)).set _ (by omega)).put23
  have blY : Below w.heap.size w Y := by rw [hY]; (repeat (first | (with_reducible exact Below.refl _ _) | with_reducible assumption | (with_reducible refine below_alloc ?_ _) | (focus ((with_reducible refine below_set ?_ _ _ _ ?_); rotate_left; omega)) | (with_reducible refine Below.drew ?_) | (with_reducible refine below_call ?_ hb2)))
  clear hY hb2 U2 U3 V0 V1 V2 V3 P0 P1 P2 P3 blX t0 t1 t2 t3 t4 t5 t6 t7 v0 v1 v2 v3 v4 v5 v6 v7 x0 x1 x2 x3 x4 x5 x6 x7 y0 y1 y2 y3 y4 y5 y6 y7
  obtain ⟨⟨x0, x1, x2, x3⟩, y0, y1, y2, y3⟩ := id Q2
  obtain ⟨⟨x4, x5, x6, x7⟩, y4, y5, y6, y7⟩ := id Q3
  have N4 : ¬ (w.heap.size + 1 + 1 + 1 = w.heap.size + 1 + 1) := by omega
  go_region
  all_goals
    go_wp2_with fail
    refine bodyPost_ret (v := .tuple #[.agg #[.int .i64 qa, .int .u64 qb, .int .i64 sa, .int .u64 sb], .agg #[.int .i64 ra, .int .u64 rb, .int .i64 ta, .int .u64 tb]]) (by simp only [results, Try.results43]; go_simp) rfl ⟨_, _, _, _, _, _, _, _, rfl, hq, hs, hr, ht, ?_⟩
    (repeat (first | (with_reducible exact Below.refl _ _) | with_reducible assumption | (with_reducible refine below_alloc ?_ _) | (focus ((with_reducible refine below_set ?_ _ _ _ ?_); rotate_left; omega)) | (with_reducible refine Below.drew ?_)))
end Go.Proofs.Ytlhgmlebjnkonaa
namespace Go.Proofs.Ytlhgmlebjnkonaa
open Go.RowKit
set_option linter.unusedVariables false
attribute [local go_sem ↓] Go.wp_at_zero Go.wp_at_succ

theorem icmp_sub (a b c d : Int) (h : a - b = c - d) : icmp a b = icmp c d := by
  unfold icmp
  repeat' split
  all_goals omega
theorem cmp_whole {N0 N1 D0 D1 q0 q1 r0 r1 : Int} (h0 : D0 * q0 + r0 = N0) (h1 : D1 * q1 + r1 = N1) (p0 : 0 < D0) (p1 : 0 < D1) (a0 : 0 ≤ r0) (a1 : r0 < D0) (b0 : 0 ≤ r1) (b1 : r1 < D1) (hq : q0 < q1) : N0 * D1 < N1 * D0 := by
  have k1 : N0 * D1 < (D0 * (q0 + 1)) * D1 := Int.mul_lt_mul_of_pos_right (by rw [Int.mul_add]; omega) p1
  have k2 : (D1 * q1) * D0 ≤ N1 * D0 := Int.mul_le_mul_of_nonneg_right (by omega) (by omega)
  have k3 : (q0 + 1) * (D0 * D1) ≤ q1 * (D0 * D1) := Int.mul_le_mul_of_nonneg_right (by omega) (Int.le_of_lt (Int.mul_pos p0 p1))
  have e1 : (D0 * (q0 + 1)) * D1 = (q0 + 1) * (D0 * D1) := by rw [Int.mul_comm D0 (q0 + 1), Int.mul_assoc]
  have e2 : (D1 * q1) * D0 = q1 * (D0 * D1) := by rw [Int.mul_comm D1 q1, Int.mul_assoc, Int.mul_comm D1 D0]
  omega
theorem cmp_q {N0 N1 D0 D1 : Int} (p0 : 0 < D0) (p1 : 0 < D1) (hq : N0 / D0 ≠ N1 / D1) : icmp (N0 * D1) (N1 * D0) = icmp (N0 / D0) (N1 / D1) := by
  have h0 := Int.mul_ediv_add_emod N0 D0; have h1 := Int.mul_ediv_add_emod N1 D1
  have a0 := Int.emod_nonneg N0 (show D0 ≠ 0 by omega); have a1 := Int.emod_lt_of_pos N0 p0
  have b0 := Int.emod_nonneg N1 (show D1 ≠ 0 by omega); have b1 := Int.emod_lt_of_pos N1 p1
  rcases Int.lt_or_lt_of_ne hq with q | q
  · rw [icmp_lt q, icmp_lt (cmp_whole h0 h1 p0 p1 a0 a1 b0 b1 q)]
  · rw [icmp_gt q, icmp_gt (cmp_whole h1 h0 p1 p0 b0 b1 a0 a1 q)]
theorem cmp_r {N0 N1 D0 D1 : Int} (hq : N0 / D0 = N1 / D1) : icmp (N0 * D1) (N1 * D0) = icmp (D1 * (N0 % D0)) (D0 * (N1 % D1)) := by
  have h0 := Int.mul_ediv_add_emod N0 D0; have h1 := Int.mul_ediv_add_emod N1 D1
  apply icmp_sub
  generalize N0 % D0 = r0 at *
  generalize N1 % D1 = r1 at *
  rw [hq] at h0
  generalize N1 / D1 = q at *
  have e1 : N0 * D1 = q * (D0 * D1) + D1 * r0 := by rw [← h0, Int.add_mul, Int.mul_comm r0 D1, Int.mul_comm D0 q, Int.mul_assoc]
  have e2 : N1 * D0 = q * (D0 * D1) + D0 * r1 := by rw [← h1, Int.add_mul, Int.mul_comm r1 D0, Int.mul_comm D1 q, Int.mul_assoc, Int.mul_comm D1 D0]
  omega
theorem cmp_z {D0 D1 r0 r1 : Int} (p0 : 0 < D0) (p1 : 0 < D1) (a0 : 0 ≤ r0) (b0 : 0 ≤ r1) (h : r0 = 0 ∨ r1 = 0) : icmp (D1 * r0) (D0 * r1) = icmp r0 r1 := by
  rcases Int.lt_or_eq_of_le a0 with q | q
  · have e : r1 = 0 := by omega
    have := Int.mul_pos p1 q
    rw [e, Int.mul_zero, icmp_gt q, icmp_gt this]
  · rw [← q, Int.mul_zero]
    rcases Int.lt_or_eq_of_le b0 with s | s
    · have := Int.mul_pos p0 s
      rw [icmp_lt s, icmp_lt this]
    · rw [← s, Int.mul_zero]
theorem Box4.put4 {W : World} {b : Nat} {u v x y u' v' x' y' : Value} (h : Box4 W b u v x y) : Box4 ((((W.setCell ⟨b, 0, none⟩ u').setCell ⟨b, 1, none⟩ v').setCell ⟨b, 2, none⟩ x').setCell ⟨b, 3, none⟩ y') b u' v' x' y' := (h.put01).put23
/-- what Cmp keeps from round to round: g, g': the two rows' blocks; C: what is to be told; k: what bounds the rounds. -/
def CmpR (w : World) (g g' : Nat) (C : Int) (k : Nat) (W : World) : Prop := ∃ a0 b0 n0 a1 b1 n1 c0 e0 d0 c1 e1 d1 : Int,
  Box4 W g (.int .i64 a0) (.int .u64 b0) (.int .i64 a1) (.int .u64 b1) ∧ Box4 W g' (.int .i64 c0) (.int .u64 e0) (.int .i64 c1) (.int .u64 e1) ∧ (IsW a0 b0 n0 ∧ IsW a1 b1 n1 ∧ IsW c0 e0 d0 ∧ IsW c1 e1 d1) ∧ (0 < d0 ∧ 0 < d1 ∧ d0 + d1 ≤ k) ∧ icmp (n0 * d1) (n1 * d0) = C ∧ Below w.heap.size w W
/-- two rows in new blocks. -/
def CmpC (w : World) (C : Int) (k : Nat) (s t : Value) (W : World) : Prop := ∃ g g', s = .pointer (some ⟨g, 0, none⟩) ∧ t = .pointer (some ⟨g', 0, none⟩) ∧ g ≠ g' ∧ w.heap.size < g ∧ w.heap.size < g' ∧ CmpR w g g' C k W
set_option maxHeartbeats 2000000 in
set_option maxRecDepth 100000 in
theorem fCmp_yes (a0 b0 n0 c0 e0 d0 a1 b1 n1 c1 e1 d1 : Int) (w : World) (H0 : IsW a0 b0 n0) (G0 : IsW c0 e0 d0) (H1 : IsW a1 b1 n1) (G1 : IsW c1 e1 d1) (p0 : 0 < d0) (p1 : 0 < d1) :
    Calls Try.prog 19 #[.agg #[.int .i64 a0, .int .u64 b0, .int .i64 c0, .int .u64 e0], .agg #[.int .i64 a1, .int .u64 b1, .int .i64 c1, .int .u64 e1]] w (RV (.int .i64 (icmp (n0 * d1) (n1 * d0))) w) := by
  have R0 : Hid (∀ w, Calls Try.prog 21 #[.agg #[.int .i64 a0, .int .u64 b0, .int .i64 c0, .int .u64 e0]] w (RV (.bool true) w)) := fun w => by have := Right_any a0 b0 c0 e0 d0 w G0; rw [decide_eq_true p0] at this; exact this
  have R1 : Hid (∀ w, Calls Try.prog 21 #[.agg #[.int .i64 a1, .int .u64 b1, .int .i64 c1, .int .u64 e1]] w (RV (.bool true) w)) := fun w => by have := Right_any a1 b1 c1 e1 d1 w G1; rw [decide_eq_true p1] at this; exact this
  generalize hC : icmp (n0 * d1) (n1 * d0) = C
  have HC := Lib.hid hC
  clear hC
  go_enter Try.func19, Try.ntmps19
  go_wp2_with fail
  refine (R0.out _).mono ?_
  rintro e w1 ⟨rfl, hb1⟩
  have Q1 : Box4 w1 (w.heap.size + 1) (.int .i64 a1) (.int .u64 b1) (.int .i64 c1) (.int .u64 e1) := (by (repeat (first | with_reducible assumption | (focus ((with_reducible refine Box.new ?_); simp; done)) | (focus ((with_reducible refine Box4.new ?_); simp; done)) | (with_reducible refine Box.alloc ?_ _) | (with_reducible refine Box4.alloc ?_ _) | (with_reducible refine Box.drew ?_) | (with_reducible refine Box4.drew ?_) | (with_reducible refine Box.put ?_) | (focus ((with_reducible refine Box.set ?_ _ ?_); rotate_left; omega)) | (focus ((with_reducible refine Box4.set ?_ _ ?_); rotate_left; omega)) | (focus ((with_reducible apply HasBox.of); with_reducible assumption)) | (focus ((with_reducible refine HasBox.new ?_); simp; done)) | (with_reducible refine HasBox.set ?_ _ _) | (with_reducible refine HasBox.drew ?_) | (with_reducible refine HasBox.alloc ?_ _) | (with_reducible refine Box.call ?_ hb1) | (with_reducible refine Box4.call ?_ hb1) | (with_reducible refine HasBox.call ?_ hb1))))
  obtain ⟨⟨x0, x1, x2, x3⟩, x4⟩ := id Q1
  go_wp2_with fail
  refine (R1.out _).mono ?_
  rintro e w2 ⟨rfl, hb2⟩
  have Z0 : Box4 w2 w.heap.size (.int .i64 a0) (.int .u64 b0) (.int .i64 c0) (.int .u64 e0) := (by (repeat (first | with_reducible assumption | (focus ((with_reducible refine Box.new ?_); simp; done)) | (focus ((with_reducible refine Box4.new ?_); simp; done)) | (with_reducible refine Box.alloc ?_ _) | (with_reducible refine Box4.alloc ?_ _) | (with_reducible refine Box.drew ?_) | (with_reducible refine Box4.drew ?_) | (with_reducible refine Box.put ?_) | (focus ((with_reducible refine Box.set ?_ _ ?_); rotate_left; omega)) | (focus ((with_reducible refine Box4.set ?_ _ ?_); rotate_left; omega)) | (focus ((with_reducible apply HasBox.of); with_reducible assumption)) | (focus ((with_reducible refine HasBox.new ?_); simp; done)) | (with_reducible refine HasBox.set ?_ _ _) | (with_reducible refine HasBox.drew ?_) | (with_reducible refine HasBox.alloc ?_ _) | (with_reducible refine Box.call ?_ hb2) | (with_reducible refine Box4.call ?_ hb2) | (with_reducible refine HasBox.call ?_ hb2) | (with_reducible refine Box.call ?_ hb1) | (with_reducible refine Box4.call ?_ hb1) | (with_reducible refine HasBox.call ?_ hb1))))
  have Z1 : Box4 w2 (w.heap.size + 1) (.int .i64 a1) (.int .u64 b1) (.int .i64 c1) (.int .u64 e1) := (by (repeat (first | with_reducible assumption | (focus ((with_reducible refine Box.new ?_); simp; done)) | (focus ((with_reducible refine Box4.new ?_); simp; done)) | (with_reducible refine Box.alloc ?_ _) | (with_reducible refine Box4.alloc ?_ _) | (with_reducible refine Box.drew ?_) | (with_reducible refine Box4.drew ?_) | (with_reducible refine Box.put ?_) | (focus ((with_reducible refine Box.set ?_ _ ?_); rotate_left; omega)) | (focus ((with_reducible refine Box4.set ?_ _ ?_); rotate_left; omega)) | (focus ((with_reducible apply HasBox.of); with_reducible assumption)) | (focus ((with_reducible refine HasBox.new ?_); simp; done)) | (with_reducible refine HasBox.set ?_ _ _) | (with_reducible refine HasBox.drew ?_) | (with_reducible refine HasBox.alloc ?_ _) | (with_reducible refine Box.call ?_ hb2) | (with_reducible refine Box4.call ?_ hb2) | (with_reducible refine HasBox.call ?_ hb2) | (with_reducible refine Box.call ?_ hb1) | (with_reducible refine Box4.call ?_ hb1) | (with_reducible refine HasBox.call ?_ hb1))))
  have bl : Below w.heap.size w w2 := (by (repeat (first | (with_reducible exact Below.refl _ _) | with_reducible assumption | (with_reducible refine below_alloc ?_ _) | (focus ((with_reducible refine below_set ?_ _ _ _ ?_); rotate_left; omega)) | (with_reducible refine Below.drew ?_) | (with_reducible refine below_call ?_ hb2) | (with_reducible refine below_call ?_ hb1))))
  clear hb1 hb2 Q1 x0 x1 x2 x3 x4
  have l0 := Z0.lt; have l1 := Z1.lt
  obtain ⟨⟨x0, x1, x2, x3⟩, y0, y1, y2, y3⟩ := id Z0
  obtain ⟨⟨x4, x5, x6, x7⟩, y4, y5, y6, y7⟩ := id Z1
  go_upto_region 3 with fail
  go_cut [5, 6] (fun s5 s6 wx => CmpC w C (d0 + d1).toNat s5 s6 wx)
  case first =>
    go_region_held3 (fun w' => (w'.cell? ⟨w.heap.size, 0, none⟩ = some (.int .i64 a0) ∧ w'.cell? ⟨w.heap.size, 1, none⟩ = some (.int .u64 b0) ∧ w'.cell? ⟨w.heap.size, 2, none⟩ = some (.int .i64 c0) ∧ w'.cell? ⟨w.heap.size, 3, none⟩ = some (.int .u64 e0)) ∧ (w'.cell? ⟨w.heap.size + 1, 0, none⟩ = some (.int .i64 a1) ∧ w'.cell? ⟨w.heap.size + 1, 1, none⟩ = some (.int .u64 b1) ∧ w'.cell? ⟨w.heap.size + 1, 2, none⟩ = some (.int .i64 c1) ∧ w'.cell? ⟨w.heap.size + 1, 3, none⟩ = some (.int .u64 e1)))
      (first | (refine And.intro (Box4.cs ?_) (Box4.cs ?_) <;> ((repeat (first | with_reducible assumption | (focus ((with_reducible refine Box.new ?_); simp; done)) | (focus ((with_reducible refine Box4.new ?_); simp; done)) | (with_reducible refine Box.alloc ?_ _) | (with_reducible refine Box4.alloc ?_ _) | (with_reducible refine Box.drew ?_) | (with_reducible refine Box4.drew ?_) | (with_reducible refine Box.put ?_) | (focus ((with_reducible refine Box.set ?_ _ ?_); rotate_left; omega)) | (focus ((with_reducible refine Box4.set ?_ _ ?_); rotate_left; omega)) | (focus ((with_reducible apply HasBox.of); with_reducible assumption)) | (focus ((with_reducible refine HasBox.new ?_); simp; done)) | (with_reducible refine HasBox.set ?_ _ _) | (with_reducible refine HasBox.drew ?_) | (with_reducible refine HasBox.alloc ?_ _))); done)) | go_keep) (fail)
    all_goals
      go_wp2_with fail
      go_meet
      refine ⟨_, _, rfl, rfl, by omega, by omega, by omega, a0, b0, n0, a1, b1, n1, c0, e0, d0, c1, e1, d1, ?_, ?_, ⟨H0, H1, G0, G1⟩, ⟨p0, p1, by omega⟩, HC.out, ?_⟩
      · (repeat (first | with_reducible assumption | (focus ((with_reducible refine Box.new ?_); simp; done)) | (focus ((with_reducible refine Box4.new ?_); simp; done)) | (with_reducible refine Box.alloc ?_ _) | (with_reducible refine Box4.alloc ?_ _) | (with_reducible refine Box.drew ?_) | (with_reducible refine Box4.drew ?_) | (with_reducible refine Box.put ?_) | (focus ((with_reducible refine Box.set ?_ _ ?_); rotate_left; omega)) | (focus ((with_reducible refine Box4.set ?_ _ ?_); rotate_left; omega)) | (focus ((with_reducible apply HasBox.of); with_reducible assumption)) | (focus ((with_reducible refine HasBox.new ?_); simp; done)) | (with_reducible refine HasBox.set ?_ _ _) | (with_reducible refine HasBox.drew ?_) | (with_reducible refine HasBox.alloc ?_ _)))
      · (repeat (first | with_reducible assumption | (focus ((with_reducible refine Box.new ?_); simp; done)) | (focus ((with_reducible refine Box4.new ?_); simp; done)) | (with_reducible refine Box.alloc ?_ _) | (with_reducible refine Box4.alloc ?_ _) | (with_reducible refine Box.drew ?_) | (with_reducible refine Box4.drew ?_) | (with_reducible refine Box.put ?_) | (focus ((with_reducible refine Box.set ?_ _ ?_); rotate_left; omega)) | (focus ((with_reducible refine Box4.set ?_ _ ?_); rotate_left; omega)) | (focus ((with_reducible apply HasBox.of); with_reducible assumption)) | (focus ((with_reducible refine HasBox.new ?_); simp; done)) | (with_reducible refine HasBox.set ?_ _ _) | (with_reducible refine HasBox.drew ?_) | (with_reducible refine HasBox.alloc ?_ _)))
      · (repeat (first | (with_reducible exact Below.refl _ _) | with_reducible assumption | (with_reducible refine below_alloc ?_ _) | (focus ((with_reducible refine below_set ?_ _ _ _ ?_); rotate_left; omega)) | (with_reducible refine Below.drew ?_)))
  case rest =>
    obtain ⟨g5, g6, rfl, rfl, h56, hg5, hg6, hR⟩ := hcut
    clear x0 x1 x2 x3 x4 x5 x6 x7 y0 y1 y2 y3 y4 y5 y6 y7 Z0 Z1 bl l0 l1 H0 H1 G0 G1 p0 p1 R0 R1 HC
    have n1' : ¬ (g5 = g6) := h56
    have n2' : ¬ (g6 = g5) := fun e => h56 e.symm
    go_wp2_with fail
    go_loopg [] (d0 + d1).toNat (fun gk wr => CmpR w g5 g6 C gk wr)
    case atStart => exact hR
    case round =>
      obtain ⟨a0, b0, n0, a1, b1, n1, c0, e0, d0, c1, e1, d1, Z0, Z1, ⟨H0, H1, G0, G1⟩, ⟨p0, p1, hgk⟩, hC, bl⟩ := hrel
      clear hR
      have HC := Lib.hid hC
      have HK := Lib.hid hgk
      clear hC hgk
      have l0 := Z0.lt; have l1 := Z1.lt
      obtain ⟨⟨x0, x1, x2, x3⟩, y0, y1, y2, y3⟩ := id Z0
      obtain ⟨⟨x4, x5, x6, x7⟩, y4, y5, y6, y7⟩ := id Z1
      have r0 := Int.emod_nonneg n0 (show d0 ≠ 0 by omega); have r0' := Int.emod_lt_of_pos n0 p0
      have r1 := Int.emod_nonneg n1 (show d1 ≠ 0 by omega); have r1' := Int.emod_lt_of_pos n1 p1
      go_wp2_with fail
      refine (divBoth_any _ _ _ _ _ _ _ _ _ _ _ _ _ H0 H1 G0 G1 p0 p1).mono ?_
      rintro e w1 ⟨q0, q1, q2, q3, s0, s1, s2, s3, rfl, hq0, hq1, hs0, hs1, hb1⟩
      have Y0 := Z0.call hb1; have Y1 := Z1.call hb1
      have bl1 := below_call bl hb1
      clear hb1 x0 x1 x2 x3 x4 x5 x6 x7 y0 y1 y2 y3 y4 y5 y6 y7 Z0 Z1 l0 l1 bl
      have l0 := Y0.lt; have l1 := Y1.lt
      have Q0 : Box4 ((w1.alloc (.cells #[.int .i64 q0, .int .u64 q1, .int .i64 q2, .int .u64 q3] 76)).alloc (.cells #[.int .i64 s0, .int .u64 s1, .int .i64 s2, .int .u64 s3] 76)) (w1.heap.size + 1) (.int .i64 s0) (.int .u64 s1) (.int .i64 s2) (.int .u64 s3) := (by (repeat (first | with_reducible assumption | (focus ((with_reducible refine Box.new ?_); simp; done)) | (focus ((with_reducible refine Box4.new ?_); simp; done)) | (with_reducible refine Box.alloc ?_ _) | (with_reducible refine Box4.alloc ?_ _) | (with_reducible refine Box.drew ?_) | (with_reducible refine Box4.drew ?_) | (with_reducible refine Box.put ?_) | (focus ((with_reducible refine Box.set ?_ _ ?_); rotate_left; omega)) | (focus ((with_reducible refine Box4.set ?_ _ ?_); rotate_left; omega)) | (focus ((with_reducible apply HasBox.of); with_reducible assumption)) | (focus ((with_reducible refine HasBox.new ?_); simp; done)) | (with_reducible refine HasBox.set ?_ _ _) | (with_reducible refine HasBox.drew ?_) | (with_reducible refine HasBox.alloc ?_ _))))
      have Y2 := (Y0.alloc (.cells #[.int .i64 q0, .int .u64 q1, .int .i64 q2, .int .u64 q3] 76)).alloc (.cells #[.int .i64 s0, .int .u64 s1, .int .i64 s2, .int .u64 s3] 76)
      have Y3 := (Y1.alloc (.cells #[.int .i64 q0, .int .u64 q1, .int .i64 q2, .int .u64 q3] 76)).alloc (.cells #[.int .i64 s0, .int .u64 s1, .int .i64 s2, .int .u64 s3] 76)
      have bl2 := below_alloc (below_alloc bl1 (.cells #[.int .i64 q0, .int .u64 q1, .int .i64 q2, .int .u64 q3] 76)) (.cells #[.int .i64 s0, .int .u64 s1, .int .i64 s2, .int .u64 s3] 76)
      go_wp2_with fail
      refine (Cmp_any _ _ _ _ _ _ _ hq0 hq1).mono ?_
      rintro e w2 ⟨rfl, hb2⟩
      replace Q0 := Q0.call hb2; replace Y2 := Y2.call hb2; replace Y3 := Y3.call hb2; replace bl2 := below_call bl2 hb2
      clear hb2
      have m0 := Q0.lt
      by_cases hq : n0 / d0 = n1 / d1
      · rw [icmp_eq hq]
        have hr := cmp_r (N0 := n0) (N1 := n1) (D0 := d0) (D1 := d1) hq
        rw [HC.out] at hr
        have HR := Lib.hid hr
        clear hr
        obtain ⟨⟨t0, t1, t2, t3⟩, t4⟩ := id Q0
        generalize hR0 : n0 % d0 = R0 at *
        generalize hR1 : n1 % d1 = R1 at *
        clear hR0 hR1
        by_cases z0 : R0 = 0
        · have fz := Lib.hid (cmp_z (D0 := d0) (D1 := d1) p0 p1 r0 r1 (.inl z0))
          have S0 : Hid (∀ w, Calls Try.prog 45 #[.agg #[.int .i64 s0, .int .u64 s1]] w (RV (.int .i64 0) w)) := fun w => by have := Sign_any s0 s1 _ w hs0; rw [icmp_eq z0] at this; exact this
          clear z0
          go_wp2_with fail
          refine (S0.out _).mono ?_
          rintro e w3 ⟨rfl, hb3⟩
          replace Q0 := Q0.call hb3; replace bl2 := below_call bl2 hb3
          clear hb3 t0 t1 t2 t3 t4
          obtain ⟨⟨t0, t1, t2, t3⟩, t4⟩ := id Q0
          go_wp2_with fail
          refine (Cmp_any _ _ _ _ _ _ _ hs0 hs1).mono ?_
          rintro e w4 ⟨rfl, hb4⟩
          go_wp2_with fail
          go_ret
          exact ⟨ret_int (by rw [← fz.out]; exact HR.out.symm), below_call bl2 hb4⟩
        · have i0 : 0 < R0 := by omega
          have S0 : Hid (∀ w, Calls Try.prog 45 #[.agg #[.int .i64 s0, .int .u64 s1]] w (RV (.int .i64 1) w)) := fun w => by have := Sign_any s0 s1 _ w hs0; rw [icmp_gt i0] at this; exact this
          go_wp2_with fail
          refine (S0.out _).mono ?_
          rintro e w3 ⟨rfl, hb3⟩
          replace Q0 := Q0.call hb3; replace Y2 := Y2.call hb3; replace Y3 := Y3.call hb3; replace bl2 := below_call bl2 hb3
          clear hb3 t0 t1 t2 t3 t4
          obtain ⟨⟨t0, t1, t2, t3⟩, t4⟩ := id Q0
          by_cases z1 : R1 = 0
          · have fz := Lib.hid (cmp_z (D0 := d0) (D1 := d1) p0 p1 r0 r1 (.inr z1))
            have S1 : Hid (∀ w, Calls Try.prog 45 #[.agg #[.int .i64 s2, .int .u64 s3]] w (RV (.int .i64 0) w)) := fun w => by have := Sign_any s2 s3 _ w hs1; rw [icmp_eq z1] at this; exact this
            clear z1
            go_wp2_with fail
            refine (S1.out _).mono ?_
            rintro e w4 ⟨rfl, hb4⟩
            replace Q0 := Q0.call hb4; replace bl2 := below_call bl2 hb4
            clear hb4 t0 t1 t2 t3 t4
            obtain ⟨⟨t0, t1, t2, t3⟩, t4⟩ := id Q0
            go_wp2_with fail
            refine (Cmp_any _ _ _ _ _ _ _ hs0 hs1).mono ?_
            rintro e w5 ⟨rfl, hb5⟩
            go_wp2_with fail
            go_ret
            exact ⟨ret_int (by rw [← fz.out]; exact HR.out.symm), below_call bl2 hb5⟩
          · have i1 : 0 < R1 := by omega
            have S1 : Hid (∀ w, Calls Try.prog 45 #[.agg #[.int .i64 s2, .int .u64 s3]] w (RV (.int .i64 1) w)) := fun w => by have := Sign_any s2 s3 _ w hs1; rw [icmp_gt i1] at this; exact this
            go_wp2_with fail
            refine (S1.out _).mono ?_
            rintro e w4 ⟨rfl, hb4⟩
            replace Q0 := Q0.call hb4; replace Y2 := Y2.call hb4; replace Y3 := Y3.call hb4; replace bl2 := below_call bl2 hb4
            clear hb4 t0 t1 t2 t3 t4
            obtain ⟨⟨t0, t1, t2, t3⟩, t4, t5, t6, t7⟩ := id Q0
            obtain ⟨⟨x0, x1, x2, x3⟩, y0, y1, y2, y3⟩ := id Y2
            obtain ⟨⟨x4, x5, x6, x7⟩, y4, y5, y6, y7⟩ := id Y3
            have u1 : ¬ (g5 = w1.heap.size + 1) := by omega
            have u2 : ¬ (g6 = w1.heap.size + 1) := by omega
            have u3 : ¬ (w1.heap.size + 1 = g5) := by omega
            have u4 : ¬ (w1.heap.size + 1 = g6) := by omega
            go_wp2_with fail
            go_region
            all_goals
              go_wp2_with fail
              go_roundg (R0 + R1).toNat
              case measure => have := HK.out; omega
              case rel =>
                refine ⟨_, _, d1, _, _, d0, _, _, R1, _, _, R0, ?_, ?_, ⟨G1, G0, hs1, hs0⟩, ⟨i1, i0, by omega⟩, HR.out.symm, ?_⟩
                · with_reducible exact (((((Y2.put4).set _ n2').set _ n2').set _ n2').set _ n2').drew
                · with_reducible exact (((((Y3.set _ n1').set _ n1').set _ n1').set _ n1').put4).drew
                · (repeat (first | (with_reducible exact Below.refl _ _) | with_reducible assumption | (with_reducible refine below_alloc ?_ _) | (focus ((with_reducible refine below_set ?_ _ _ _ ?_); rotate_left; omega)) | (with_reducible refine Below.drew ?_)))
      · have hC := cmp_q (N0 := n0) (N1 := n1) p0 p1 hq
        rw [HC.out] at hC
        have HD := Lib.hid hC
        have hz : (icmp (n0 / d0) (n1 / d1) != 0) = true := by
          rcases Int.lt_or_lt_of_ne hq with q | q
          · rw [icmp_lt q]; rfl
          · rw [icmp_gt q]; rfl
        clear hC
        generalize icmp (n0 / d0) (n1 / d1) = cc at *
        go_wp2_with fail
        go_ret
        exact ⟨ret_int HD.out.symm, bl2⟩
/-- what Cmp tells. -/
def cmpv (n0 d0 n1 d1 : Int) : Int := if 0 < d0 ∧ 0 < d1 then icmp (n0 * d1) (n1 * d0) else 0
set_option maxHeartbeats 1000000 in
theorem fCmp_no0 (a0 b0 c0 e0 d0 a1 b1 c1 e1 : Int) (w : World) (G0 : IsW c0 e0 d0) (p0 : ¬ 0 < d0) :
    Calls Try.prog 19 #[.agg #[.int .i64 a0, .int .u64 b0, .int .i64 c0, .int .u64 e0], .agg #[.int .i64 a1, .int .u64 b1, .int .i64 c1, .int .u64 e1]] w (RV (.int .i64 0) w) := by
  have R0 : Hid (∀ w, Calls Try.prog 21 #[.agg #[.int .i64 a0, .int .u64 b0, .int .i64 c0, .int .u64 e0]] w (RV (.bool false) w)) := fun w => by have := Right_any a0 b0 c0 e0 d0 w G0; rw [decide_eq_false p0] at this; exact this
  go_enter Try.func19, Try.ntmps19
  go_wp2_with (go_at_call 21; ((with_reducible refine (R0.out _).mono ?_); rintro e w1 ⟨rfl, hb1⟩))
  go_ret
  exact ⟨rfl, by (repeat (first | (with_reducible exact Below.refl _ _) | with_reducible assumption | (with_reducible refine below_alloc ?_ _) | (focus ((with_reducible refine below_set ?_ _ _ _ ?_); rotate_left; omega)) | (with_reducible refine Below.drew ?_) | (with_reducible refine below_call ?_ hb1)))⟩
set_option maxHeartbeats 1000000 in
theorem fCmp_no1 (a0 b0 c0 e0 d0 a1 b1 c1 e1 d1 : Int) (w : World) (G0 : IsW c0 e0 d0) (G1 : IsW c1 e1 d1) (p0 : 0 < d0) (p1 : ¬ 0 < d1) :
    Calls Try.prog 19 #[.agg #[.int .i64 a0, .int .u64 b0, .int .i64 c0, .int .u64 e0], .agg #[.int .i64 a1, .int .u64 b1, .int .i64 c1, .int .u64 e1]] w (RV (.int .i64 0) w) := by
  have R0 : Hid (∀ w, Calls Try.prog 21 #[.agg #[.int .i64 a0, .int .u64 b0, .int .i64 c0, .int .u64 e0]] w (RV (.bool true) w)) := fun w => by have := Right_any a0 b0 c0 e0 d0 w G0; rw [decide_eq_true p0] at this; exact this
  have R1 : Hid (∀ w, Calls Try.prog 21 #[.agg #[.int .i64 a1, .int .u64 b1, .int .i64 c1, .int .u64 e1]] w (RV (.bool false) w)) := fun w => by have := Right_any a1 b1 c1 e1 d1 w G1; rw [decide_eq_false p1] at this; exact this
  clear p0 p1
  go_enter Try.func19, Try.ntmps19
  go_wp2_with fail
  refine (R0.out _).mono ?_
  rintro e w1 ⟨rfl, hb1⟩
  have Q1 : Box4 w1 (w.heap.size + 1) (.int .i64 a1) (.int .u64 b1) (.int .i64 c1) (.int .u64 e1) := (by (repeat (first | with_reducible assumption | (focus ((with_reducible refine Box.new ?_); simp; done)) | (focus ((with_reducible refine Box4.new ?_); simp; done)) | (with_reducible refine Box.alloc ?_ _) | (with_reducible refine Box4.alloc ?_ _) | (with_reducible refine Box.drew ?_) | (with_reducible refine Box4.drew ?_) | (with_reducible refine Box.put ?_) | (focus ((with_reducible refine Box.set ?_ _ ?_); rotate_left; omega)) | (focus ((with_reducible refine Box4.set ?_ _ ?_); rotate_left; omega)) | (focus ((with_reducible apply HasBox.of); with_reducible assumption)) | (focus ((with_reducible refine HasBox.new ?_); simp; done)) | (with_reducible refine HasBox.set ?_ _ _) | (with_reducible refine HasBox.drew ?_) | (with_reducible refine HasBox.alloc ?_ _) | (with_reducible refine Box.call ?_ hb1) | (with_reducible refine Box4.call ?_ hb1) | (with_reducible refine HasBox.call ?_ hb1))))
  obtain ⟨⟨x0, x1, x2, x3⟩, x4⟩ := id Q1
  go_wp2_with fail
  refine (R1.out _).mono ?_
  rintro e w2 ⟨rfl, hb2⟩
  go_wp2_with fail
  go_ret
  exact ⟨rfl, by (repeat (first | (with_reducible exact Below.refl _ _) | with_reducible assumption | (with_reducible refine below_alloc ?_ _) | (focus ((with_reducible refine below_set ?_ _ _ _ ?_); rotate_left; omega)) | (with_reducible refine Below.drew ?_) | (with_reducible refine below_call ?_ hb2) | (with_reducible refine below_call ?_ hb1)))⟩
theorem fCmp_any (a0 b0 n0 c0 e0 d0 a1 b1 n1 c1 e1 d1 : Int) (w : World) (H0 : IsW a0 b0 n0) (G0 : IsW c0 e0 d0) (H1 : IsW a1 b1 n1) (G1 : IsW c1 e1 d1) :
    Calls Try.prog 19 #[.agg #[.int .i64 a0, .int .u64 b0, .int .i64 c0, .int .u64 e0], .agg #[.int .i64 a1, .int .u64 b1, .int .i64 c1, .int .u64 e1]] w (RV (.int .i64 (cmpv n0 d0 n1 d1)) w) := by
  unfold cmpv
  by_cases p0 : 0 < d0
  · by_cases p1 : 0 < d1
    · rw [if_pos ⟨p0, p1⟩]; exact fCmp_yes a0 b0 n0 c0 e0 d0 a1 b1 n1 c1 e1 d1 w H0 G0 H1 G1 p0 p1
    · rw [if_neg (fun h => p1 h.2)]; exact fCmp_no1 a0 b0 c0 e0 d0 a1 b1 c1 e1 d1 w G0 G1 p0 p1
  · rw [if_neg (fun h => p0 h.1)]; exact fCmp_no0 a0 b0 c0 e0 d0 a1 b1 c1 e1 w G0 p0
end Go.Proofs.Ytlhgmlebjnkonaa
namespace Go.Proofs.Ytlhgmlebjnkonaa
open Go.RowKit
set_option linter.unusedVariables false
set_option linter.unusedSimpArgs false
attribute [local go_sem ↓] Go.wp_at_zero Go.wp_at_succ

theorem IsN.lenW {w : World} {neg : Bool} {A : Option Addr} {l c : Nat} {n : Int} (h : IsN w neg A l c n) (hf : fits n = true) : l ≤ 10 := by
  unfold fits at hf
  rw [decide_eq_true_eq] at hf
  exact h.len10 (by omega) (by omega)
theorem lenF {w : World} {neg : Bool} {A : Option Addr} {l c : Nat} {n : Int} (h : IsN w neg A l c n) (hf : fits n = true) {k : Nat} (hk : 10 ≤ k) : l ≤ k := Nat.le_trans (h.lenW hf) hk
theorem icmp_self (n : Int) : icmp n n = 0 := icmp_eq rfl
theorem eq_of {a b c d n : Int} (h : IsW a b n) (k : IsW c d n) : eqW a b c d = true := by rw [h.eqW k]; exact decide_eq_true rfl
set_option maxHeartbeats 400000 in
theorem num_any (h l n : Int) (w : World) (H : IsW h l n) : Calls Try.prog 53 #[.agg #[.int .i64 h, .int .u64 l]] w (RN n w) := by
  go_enter Try.func53, Try.ntmps53
  go_wp2_with (go_at_call 69; ((with_reducible refine (Wide_any _ _ _ _ H).mono ?_); rintro e w1 ⟨x1, A1, l1, c1, rfl, h1, hb⟩; have c_hb_0_0 := Below.cell hb (p := ⟨w.heap.size, 0, none⟩) (by first | (simp; done) | (simp; omega)); have f_hb_0_0 := Below.frozen hb (p := ⟨w.heap.size, 0, none⟩) (by first | (simp; done) | (simp; omega)); have c_hb_0_1 := Below.cell hb (p := ⟨w.heap.size, 1, none⟩) (by first | (simp; done) | (simp; omega)); have f_hb_0_1 := Below.frozen hb (p := ⟨w.heap.size, 1, none⟩) (by first | (simp; done) | (simp; omega)); have c_hb_1_0 := Below.cell hb (p := ⟨w.heap.size + 1, 0, none⟩) (by first | (simp; done) | (simp; omega)); have f_hb_1_0 := Below.frozen hb (p := ⟨w.heap.size + 1, 0, none⟩) (by first | (simp; done) | (simp; omega)); have c_hb_1_1 := Below.cell hb (p := ⟨w.heap.size + 1, 1, none⟩) (by first | (simp; done) | (simp; omega)); have f_hb_1_1 := Below.frozen hb (p := ⟨w.heap.size + 1, 1, none⟩) (by first | (simp; done) | (simp; omega)); have hz_hb := Below.size hb; (try simp at hz_hb); have ne_hb_0 : ¬ w1.heap.size = w.heap.size := (by omega); have ne_hb_1 : ¬ w1.heap.size = w.heap.size + 1 := (by omega)))
  refine bodyPost_ret (v := .agg #[.bool x1, .slice A1 l1 c1]) (by simp only [results, Try.results53]; go_simp) rfl ⟨_, _, _, _, rfl, ?_, ?_⟩
  · (repeat (first | with_reducible assumption | (with_reducible refine IsN.alloc ?_ _) | (with_reducible refine IsN.drew ?_) | (with_reducible refine IsN.put ?_ ?_) | (with_reducible refine HasBB.put ?_) | (focus ((with_reducible apply HasBB.of); with_reducible assumption)) | (focus ((with_reducible refine HasBB.new ?_); simp; done)) | (with_reducible refine HasBB.drew ?_) | (with_reducible refine HasBB.alloc ?_ _) | (focus ((with_reducible refine HasBB.set ?_ _ ?_); rotate_left; omega)) | (with_reducible refine IsN.call ?_ hb) | (with_reducible refine HasBB.call ?_ hb)))
  · (repeat (first | (with_reducible exact Below.refl _ _) | with_reducible assumption | (with_reducible refine below_alloc ?_ _) | (focus ((with_reducible refine below_set ?_ _ _ _ ?_); rotate_left; omega)) | (with_reducible refine Below.drew ?_) | (with_reducible refine below_call ?_ hb)))
/-- four Ints' halves compared. -/
def eqF (a b c d a' b' c' d' : Int) : Bool := eqW a b a' b' && eqW c d c' d'
theorem eqF_in (a b c d a' b' c' d' : Int) (w : World) : (Op.equalIn 10000 29 (.agg #[.int .i64 a, .int .u64 b, .int .i64 c, .int .u64 d]) (.agg #[.int .i64 a', .int .u64 b', .int .i64 c', .int .u64 d'])).run Try.prog w = .ok (eqF a b c d a' b' c' d') w := by
  unfold eqF eqW
  go_simp
  by_cases h1 : a = a' <;> by_cases h2 : b = b' <;> by_cases h3 : c = c' <;> by_cases h4 : d = d' <;> simp [h1, h2, h3, h4]
@[go_sem ↓ high] theorem eqlF (a b c d a' b' c' d' : Int) (w : World) : (binOp .eql 29 (.agg #[.int .i64 a, .int .u64 b, .int .i64 c, .int .u64 d]) (.agg #[.int .i64 a', .int .u64 b', .int .i64 c', .int .u64 d'])).run Try.prog w = .ok (.bool (eqF a b c d a' b' c' d')) w := by
  rw [run_eql_struct, eqF_in]; rfl
@[go_sem ↓ high] theorem neqF (a b c d a' b' c' d' : Int) (w : World) : (binOp .neq 29 (.agg #[.int .i64 a, .int .u64 b, .int .i64 c, .int .u64 d]) (.agg #[.int .i64 a', .int .u64 b', .int .i64 c', .int .u64 d'])).run Try.prog w = .ok (.bool (!eqF a b c d a' b' c' d')) w := by
  rw [run_neq_struct, eqF_in]; rfl
theorem eqF_of {a b c d a' b' c' d' n m : Int} (h1 : IsW a b n) (h2 : IsW a' b' n) (h3 : IsW c d m) (h4 : IsW c' d' m) : eqF a b c d a' b' c' d' = true := by unfold eqF; rw [eq_of h1 h2, eq_of h3 h4]; rfl
/-- blocks of four cells and of two that the walk holds on to. -/
structure AlW (w : World) (g g' : Nat) (a b c d s t : Int) (W : World) : Prop where
  f : Box4 W g (.int .i64 a) (.int .u64 b) (.int .i64 c) (.int .u64 d)
  s : Box W g' (.int .i64 s) (.int .u64 t)
  below : Below w.heap.size w W
section
variable {w W w1 : World} {g g' : Nat} {a b c d s t : Int}
theorem AlW.call (h : AlW w g g' a b c d s t W) (hb : Below W.heap.size W w1) : AlW w g g' a b c d s t w1 := ⟨h.f.call hb, h.s.call hb, below_call h.below hb⟩
theorem AlW.k (h : AlW w g g' a b c d s t W) : (W.cell? ⟨g, 0, none⟩ = some (.int .i64 a) ∧ W.cell? ⟨g, 1, none⟩ = some (.int .u64 b) ∧ W.cell? ⟨g, 2, none⟩ = some (.int .i64 c) ∧ W.cell? ⟨g, 3, none⟩ = some (.int .u64 d)) ∧ (W.cell? ⟨g', 0, none⟩ = some (.int .i64 s) ∧ W.cell? ⟨g', 1, none⟩ = some (.int .u64 t)) := ⟨h.f.1, h.s.1⟩
end
end Go.Proofs.Ytlhgmlebjnkonaa
