/-
  Contracts of package grid: snapNear, At. My own text.
-/
import Derived.Test.YtinjgiigmlikpaaGridB
namespace Go.Proofs.Ytinjgiigmlikpaa
open Go.RowKit
set_option linter.unusedVariables false
set_option linter.unusedSimpArgs false
attribute [local go_sem ↓] Go.wp_at_zero Go.wp_at_succ

/-- the Int z comes back, and s. -/
def RWB (s : Bool) (z : Int) (w : World) (e : Ending) (w' : World) : Prop := ∃ H L, e = .returned (.tuple #[.agg #[.int .i64 H, .int .u64 L], .bool s]) ∧ IsW H L z ∧ Below w.heap.size w w'
/-- a number comes back, and b. -/
def RT2 (v : Int) (b : Bool) (w : World) (e : Ending) (w' : World) : Prop := e = .returned (.tuple #[.int .i64 v, .bool b]) ∧ Below w.heap.size w w'
/-- behind the first statement: what was snapped, in a block of its own. -/
def SnC (w : World) (s : Bool) (z : Int) (u v : Value) (W : World) : Prop := ∃ g ga gb, u = .pointer (some ⟨g, 0, none⟩) ∧ v = .bool s ∧ IsW ga gb z ∧ Box W g (.int .i64 ga) (.int .u64 gb) ∧ Below w.heap.size w W
set_option maxHeartbeats 2000000 in
theorem snapNear_core (ha la h' l' k : Int) (r : Nat) (s : Bool) (z v : Int) (b : Bool) (w : World) (h : IsR k r)
    (HS0 : ∀ w, Calls Try.prog 23 #[.agg #[.int .i64 ha, .int .u64 la, .int .i64 h', .int .u64 l'], .int .i64 r] w (RWB s z w))
    (hv : (s = false ∧ v = 0 ∧ b = false) ∨ (s = true ∧ small z = false ∧ v = 0 ∧ b = false) ∨ (s = true ∧ small z = true ∧ wi (134217728 / 2 ^ r) z = false ∧ v = 0 ∧ b = false) ∨ (s = true ∧ small z = true ∧ wi (134217728 / 2 ^ r) z = true ∧ v = z ∧ b = true)) :
    Calls Try.prog 61 #[.agg #[.int .i64 ha, .int .u64 la, .int .i64 h', .int .u64 l'], .int .i64 k] w (RT2 v b w) := by
  have HN := Lib.hid (fun w => nearestRung_any k r w h)
  have HF := Lib.hid (fun w => notTooFar_any k r w h)
  have HS := Lib.hid HS0
  obtain ⟨m0, m1⟩ := far_bd r
  clear h HS0
  generalize (134217728 : Int) / 2 ^ r = M at *
  have HX := Lib.hid m0
  have HY := Lib.hid m1
  have HV := Lib.hid hv
  clear m0 m1 hv
  go_enter Try.func61, Try.ntmps61
  go_upto_region 1 with fail
  have Z0 : Box4 (w.alloc (.cells #[.int .i64 ha, .int .u64 la, .int .i64 h', .int .u64 l'] 26)) w.heap.size (.int .i64 ha) (.int .u64 la) (.int .i64 h') (.int .u64 l') := (by (repeat (first | with_reducible assumption | (focus ((with_reducible refine Box.new ?_); simp; done)) | (focus ((with_reducible refine Box4.new ?_); simp; done)) | (with_reducible refine Box.alloc ?_ _) | (with_reducible refine Box4.alloc ?_ _) | (with_reducible refine Box.drew ?_) | (with_reducible refine Box4.drew ?_) | (with_reducible refine Box.put ?_) | (focus ((with_reducible refine Box.set ?_ _ ?_); rotate_left; omega)) | (focus ((with_reducible refine Box4.set ?_ _ ?_); rotate_left; omega)) | (focus ((with_reducible apply HasBox.of); with_reducible assumption)) | (focus ((with_reducible refine HasBox.new ?_); simp; done)) | (with_reducible refine HasBox.set ?_ _ _) | (with_reducible refine HasBox.drew ?_) | (with_reducible refine HasBox.alloc ?_ _))))
  have bl0 : Below w.heap.size w (w.alloc (.cells #[.int .i64 ha, .int .u64 la, .int .i64 h', .int .u64 l'] 26)) := (by (repeat (first | (with_reducible exact Below.refl _ _) | with_reducible assumption | (with_reducible refine below_alloc ?_ _) | (focus ((with_reducible refine below_set ?_ _ _ _ ?_); rotate_left; omega)) | (with_reducible refine Below.drew ?_))))
  go_cut [6, 7] (fun u v wx => SnC w s z u v wx)
  case first =>
    clear HV HF
    go_region_held3 (fun w' => w'.cell? ⟨w.heap.size, 0, none⟩ = some (.int .i64 ha) ∧ w'.cell? ⟨w.heap.size, 1, none⟩ = some (.int .u64 la) ∧ w'.cell? ⟨w.heap.size, 2, none⟩ = some (.int .i64 h') ∧ w'.cell? ⟨w.heap.size, 3, none⟩ = some (.int .u64 l'))
      (first | ((refine Box4.cs ?_); ((repeat (first | with_reducible assumption | (focus ((with_reducible refine Box.new ?_); simp; done)) | (focus ((with_reducible refine Box4.new ?_); simp; done)) | (with_reducible refine Box.alloc ?_ _) | (with_reducible refine Box4.alloc ?_ _) | (with_reducible refine Box.drew ?_) | (with_reducible refine Box4.drew ?_) | (with_reducible refine Box.put ?_) | (focus ((with_reducible refine Box.set ?_ _ ?_); rotate_left; omega)) | (focus ((with_reducible refine Box4.set ?_ _ ?_); rotate_left; omega)) | (focus ((with_reducible apply HasBox.of); with_reducible assumption)) | (focus ((with_reducible refine HasBox.new ?_); simp; done)) | (with_reducible refine HasBox.set ?_ _ _) | (with_reducible refine HasBox.drew ?_) | (with_reducible refine HasBox.alloc ?_ _) | (with_reducible refine Box.call ?_ hb2) | (with_reducible refine Box4.call ?_ hb2) | (with_reducible refine HasBox.call ?_ hb2) | (with_reducible refine Box.call ?_ hb1) | (with_reducible refine Box4.call ?_ hb1) | (with_reducible refine HasBox.call ?_ hb1))); done)) | go_keep)
      (first
        | (go_at_call 60; ((with_reducible refine (HN.out _).mono ?_); rintro e w1 ⟨rfl, hb1⟩; have hy1 := Below.size hb1; (try simp at hy1)))
        | (go_at_call 23; ((with_reducible refine (HS.out _).mono ?_); rintro e w2 ⟨ua, ub, rfl, hu, hb2⟩; have hy2 := Below.size hb2; (try simp at hy2); (try ((refine cutIn (p := Box w2 (w.heap.size + 1) (.int .i64 0) (.int .u64 0)) ?_ ?_); (repeat (first | with_reducible assumption | (focus ((with_reducible refine Box.new ?_); simp; done)) | (with_reducible refine Box.alloc ?_ _) | (with_reducible refine Box.drew ?_) | (with_reducible refine Box.put ?_) | (focus ((with_reducible refine Box.set ?_ _ ?_); rotate_left; omega)) | (focus ((with_reducible apply HasBox.of); with_reducible assumption)) | (focus ((with_reducible refine HasBox.new ?_); simp; done)) | (with_reducible refine HasBox.set ?_ _ _) | (with_reducible refine HasBox.drew ?_) | (with_reducible refine HasBox.alloc ?_ _) | (with_reducible refine Box.call ?_ hb2) | (with_reducible refine HasBox.call ?_ hb2) | (with_reducible refine Box.call ?_ hb1) | (with_reducible refine HasBox.call ?_ hb1))); intro B_w2x_0; obtain ⟨⟨c_w2x_0, d_w2x_0⟩, f_w2x_0, g_w2x_0⟩ := id B_w2x_0; have l_w2x_0 := Box.lt B_w2x_0; have n_w2x_0 := Nat.ne_of_gt (Box.lt B_w2x_0); have m_w2x_0 := Nat.ne_of_lt (Box.lt B_w2x_0))); (try ((refine cutIn (p := Box w2 (w1.heap.size) (.int .i64 0) (.int .u64 0)) ?_ ?_); (repeat (first | with_reducible assumption | (focus ((with_reducible refine Box.new ?_); simp; done)) | (with_reducible refine Box.alloc ?_ _) | (with_reducible refine Box.drew ?_) | (with_reducible refine Box.put ?_) | (focus ((with_reducible refine Box.set ?_ _ ?_); rotate_left; omega)) | (focus ((with_reducible apply HasBox.of); with_reducible assumption)) | (focus ((with_reducible refine HasBox.new ?_); simp; done)) | (with_reducible refine HasBox.set ?_ _ _) | (with_reducible refine HasBox.drew ?_) | (with_reducible refine HasBox.alloc ?_ _) | (with_reducible refine Box.call ?_ hb2) | (with_reducible refine HasBox.call ?_ hb2) | (with_reducible refine Box.call ?_ hb1) | (with_reducible refine HasBox.call ?_ hb1))); intro B_w2x_1; obtain ⟨⟨c_w2x_1, d_w2x_1⟩, f_w2x_1, g_w2x_1⟩ := id B_w2x_1; have l_w2x_1 := Box.lt B_w2x_1; have n_w2x_1 := Nat.ne_of_gt (Box.lt B_w2x_1); have m_w2x_1 := Nat.ne_of_lt (Box.lt B_w2x_1))))))
    all_goals
      go_wp2_with fail
      go_meet
      refine ⟨_, ua, ub, rfl, rfl, hu, ?_, ?_⟩
      · (repeat (first | with_reducible assumption | (focus ((with_reducible refine Box.new ?_); simp; done)) | (focus ((with_reducible refine Box4.new ?_); simp; done)) | (with_reducible refine Box.alloc ?_ _) | (with_reducible refine Box4.alloc ?_ _) | (with_reducible refine Box.drew ?_) | (with_reducible refine Box4.drew ?_) | (with_reducible refine Box.put ?_) | (focus ((with_reducible refine Box.set ?_ _ ?_); rotate_left; omega)) | (focus ((with_reducible refine Box4.set ?_ _ ?_); rotate_left; omega)) | (focus ((with_reducible apply HasBox.of); with_reducible assumption)) | (focus ((with_reducible refine HasBox.new ?_); simp; done)) | (with_reducible refine HasBox.set ?_ _ _) | (with_reducible refine HasBox.drew ?_) | (with_reducible refine HasBox.alloc ?_ _) | (with_reducible refine Box.call ?_ hb2) | (with_reducible refine Box4.call ?_ hb2) | (with_reducible refine HasBox.call ?_ hb2) | (with_reducible refine Box.call ?_ hb1) | (with_reducible refine Box4.call ?_ hb1) | (with_reducible refine HasBox.call ?_ hb1)))
      · (repeat (first | (with_reducible exact Below.refl _ _) | with_reducible assumption | (with_reducible refine below_alloc ?_ _) | (focus ((with_reducible refine below_set ?_ _ _ _ ?_); rotate_left; omega)) | (with_reducible refine Below.drew ?_) | (with_reducible refine below_call ?_ hb2) | (with_reducible refine below_call ?_ hb1)))
  case rest =>
    obtain ⟨g, ga, gb, rfl, rfl, hg, hG, hL⟩ := hcut
    clear Z0 bl0 HS HN
    obtain ⟨⟨x0, x1⟩, x2, x3⟩ := id hG
    rcases HV.out with ⟨rfl, rfl, rfl⟩ | ⟨rfl, q, rfl, rfl⟩ | ⟨rfl, q, q', rfl, rfl⟩ | ⟨rfl, q, q', rfl, rfl⟩
    · clear HV
      go_wp2
      go_ret2
      exact ⟨rfl, by (repeat (first | (with_reducible exact Below.refl _ _) | with_reducible assumption | (with_reducible refine below_alloc ?_ _) | (focus ((with_reducible refine below_set ?_ _ _ _ ?_); rotate_left; omega)) | (with_reducible refine Below.drew ?_)))⟩
    · have HM : Hid (∀ w, Calls Try.prog 76 #[.agg #[.int .i64 ga, .int .u64 gb]] w (RT2 0 false w)) := fun w => (Small_any ga gb z w hg).mono fun e w' k => by unfold RSm at k; rw [q] at k; exact k
      clear HV q
      go_wp2_with (first
        | (go_at_call 76; ((with_reducible refine (HM.out _).mono ?_); rintro e w4 ⟨rfl, hb4⟩)))
      go_ret2
      exact ⟨rfl, by (repeat (first | (with_reducible exact Below.refl _ _) | with_reducible assumption | (with_reducible refine below_alloc ?_ _) | (focus ((with_reducible refine below_set ?_ _ _ _ ?_); rotate_left; omega)) | (with_reducible refine Below.drew ?_) | (with_reducible refine below_call ?_ hb4)))⟩
    · have HM : Hid (∀ w, Calls Try.prog 76 #[.agg #[.int .i64 ga, .int .u64 gb]] w (RT2 z true w)) := fun w => (Small_any ga gb z w hg).mono fun e w' k => by unfold RSm at k; rw [q] at k; exact k
      have HB : Hid (∀ b w, w.cell? ⟨b, 0, none⟩ = some (.int .i64 M) → Calls Try.prog 77 #[.int .i64 z, .pointer (some ⟨b, 0, none⟩)] w (RV (.bool false) w)) := fun b w hc => by have := near_any b M z w hc HX.out HY.out; rw [q'] at this; exact this
      clear HV q q'
      go_wp2_with (first
        | (go_at_call 76; ((with_reducible refine (HM.out _).mono ?_); rintro e w4 ⟨rfl, hb4⟩))
        | (go_at_call 64; ((with_reducible refine (HF.out _).mono ?_); rintro e w5 ⟨b, rfl, hc, hb5⟩))
        | (go_at_call 77; ((with_reducible refine (HB.out _ _ hc).mono ?_); rintro e w6 ⟨rfl, hb6⟩)))
      go_ret2
      exact ⟨rfl, by (repeat (first | (with_reducible exact Below.refl _ _) | with_reducible assumption | (with_reducible refine below_alloc ?_ _) | (focus ((with_reducible refine below_set ?_ _ _ _ ?_); rotate_left; omega)) | (with_reducible refine Below.drew ?_) | (with_reducible refine below_call ?_ hb6) | (with_reducible refine below_call ?_ hb5) | (with_reducible refine below_call ?_ hb4)))⟩
    · have HM : Hid (∀ w, Calls Try.prog 76 #[.agg #[.int .i64 ga, .int .u64 gb]] w (RT2 v true w)) := fun w => (Small_any ga gb v w hg).mono fun e w' k => by unfold RSm at k; rw [q] at k; exact k
      have HB : Hid (∀ b w, w.cell? ⟨b, 0, none⟩ = some (.int .i64 M) → Calls Try.prog 77 #[.int .i64 v, .pointer (some ⟨b, 0, none⟩)] w (RV (.bool true) w)) := fun b w hc => by have := near_any b M v w hc HX.out HY.out; rw [q'] at this; exact this
      clear HV q q'
      go_wp2_with (first
        | (go_at_call 76; ((with_reducible refine (HM.out _).mono ?_); rintro e w4 ⟨rfl, hb4⟩))
        | (go_at_call 64; ((with_reducible refine (HF.out _).mono ?_); rintro e w5 ⟨b, rfl, hc, hb5⟩))
        | (go_at_call 77; ((with_reducible refine (HB.out _ _ hc).mono ?_); rintro e w6 ⟨rfl, hb6⟩)))
      go_ret2
      exact ⟨rfl, by (repeat (first | (with_reducible exact Below.refl _ _) | with_reducible assumption | (with_reducible refine below_alloc ?_ _) | (focus ((with_reducible refine below_set ?_ _ _ _ ?_); rotate_left; omega)) | (with_reducible refine Below.drew ?_) | (with_reducible refine below_call ?_ hb6) | (with_reducible refine below_call ?_ hb5) | (with_reducible refine below_call ?_ hb4)))⟩
theorem wi_small {r : Nat} {z : Int} (h : wi (134217728 / 2 ^ r) z = true) : small z = true := by
  obtain ⟨m0, m1⟩ := far_bd r
  unfold wi at h
  rw [Bool.and_eq_true, decide_eq_true_eq, decide_eq_true_eq] at h
  unfold small
  rw [decide_eq_true_eq]
  omega
theorem snapNear_bad (ha la n h' l' d k : Int) (r : Nat) (w : World) (h : IsR k r) (H : IsW ha la n) (H' : IsW h' l' d) (hd : ¬ (0 < d)) :
    Calls Try.prog 61 #[.agg #[.int .i64 ha, .int .u64 la, .int .i64 h', .int .u64 l'], .int .i64 k] w (RT2 0 false w) :=
  snapNear_core ha la h' l' k r false 0 0 false w h (fun w => (Snap_no ha la n h' l' d r w H H' (.inl hd)).mono fun e w' ⟨he, hb⟩ => ⟨0, 0, he, isW0, hb⟩) (.inl ⟨rfl, rfl, rfl⟩)
theorem snapNear_far (ha la n h' l' d k : Int) (r : Nat) (w : World) (h : IsR k r) (H : IsW ha la n) (H' : IsW h' l' d) (hd : 0 < d) (hf : wi (134217728 / 2 ^ r) (sna n d r) = false) :
    Calls Try.prog 61 #[.agg #[.int .i64 ha, .int .u64 la, .int .i64 h', .int .u64 l'], .int .i64 k] w (RT2 0 false w) :=
  snapNear_core ha la h' l' k r true (sna n d r) 0 false w h (fun w => (Snap_yes ha la n h' l' d r w H H' hd (by have := h.1; omega)).mono fun e w' k => k)
    (by
      cases hs : small (sna n d r)
      · exact .inr (.inl ⟨rfl, rfl, rfl, rfl⟩)
      · exact .inr (.inr (.inl ⟨rfl, rfl, hf, rfl, rfl⟩)))
theorem snapNear_yes (ha la n h' l' d k : Int) (r : Nat) (w : World) (h : IsR k r) (H : IsW ha la n) (H' : IsW h' l' d) (hd : 0 < d) (hf : wi (134217728 / 2 ^ r) (sna n d r) = true) :
    Calls Try.prog 61 #[.agg #[.int .i64 ha, .int .u64 la, .int .i64 h', .int .u64 l'], .int .i64 k] w (RT2 (sna n d r) true w) :=
  snapNear_core ha la h' l' k r true (sna n d r) _ true w h (fun w => (Snap_yes ha la n h' l' d r w H H' hd (by have := h.1; omega)).mono fun e w' k => k)
    (.inr (.inr (.inr ⟨rfl, wi_small hf, hf, rfl, rfl⟩)))
end Go.Proofs.Ytinjgiigmlikpaa
