/-
  Contracts of the statements' own calls: num, same. My own text.
-/
import Derived.Test.YtdmjccbpghilcaaDoorRefR
namespace Go.Proofs.YtdmjccbpghilcaaDoor
open Go.RowKit
set_option linter.unusedVariables false
attribute [local go_sem ↓] Go.wp_at_zero Go.wp_at_succ

theorem IsN.lenW {w : World} {neg : Bool} {A : Option Addr} {l c : Nat} {n : Int} (h : IsN w neg A l c n) (hf : fits n = true) : l ≤ 10 := by
  unfold fits at hf
  rw [decide_eq_true_eq] at hf
  exact h.len10 (by omega) (by omega)
set_option maxHeartbeats 400000 in
theorem num_any (h l n : Int) (w : World) (H : IsW h l n) : Calls Tryd.prog 12 #[.agg #[.int .i64 h, .int .u64 l]] w (RN n w) := by
  go_enter Tryd.func12, Tryd.ntmps12
  go_wp2_with (go_at_call 35; ((with_reducible refine (Wide_any _ _ _ _ H).mono ?_); rintro e w1 ⟨x1, A1, l1, c1, rfl, h1, hb⟩; have c_hb_0_0 := Below.cell hb (p := ⟨w.heap.size, 0, none⟩) (by first | (simp; done) | (simp; omega)); have f_hb_0_0 := Below.frozen hb (p := ⟨w.heap.size, 0, none⟩) (by first | (simp; done) | (simp; omega)); have c_hb_0_1 := Below.cell hb (p := ⟨w.heap.size, 1, none⟩) (by first | (simp; done) | (simp; omega)); have f_hb_0_1 := Below.frozen hb (p := ⟨w.heap.size, 1, none⟩) (by first | (simp; done) | (simp; omega)); have c_hb_1_0 := Below.cell hb (p := ⟨w.heap.size + 1, 0, none⟩) (by first | (simp; done) | (simp; omega)); have f_hb_1_0 := Below.frozen hb (p := ⟨w.heap.size + 1, 0, none⟩) (by first | (simp; done) | (simp; omega)); have c_hb_1_1 := Below.cell hb (p := ⟨w.heap.size + 1, 1, none⟩) (by first | (simp; done) | (simp; omega)); have f_hb_1_1 := Below.frozen hb (p := ⟨w.heap.size + 1, 1, none⟩) (by first | (simp; done) | (simp; omega)); have hz_hb := Below.size hb; (try simp at hz_hb); have ne_hb_0 : ¬ w1.heap.size = w.heap.size := (by omega); have ne_hb_1 : ¬ w1.heap.size = w.heap.size + 1 := (by omega)))
  refine bodyPost_ret (v := .agg #[.bool x1, .slice A1 l1 c1]) (by simp only [results, Tryd.results12]; go_simp) rfl ⟨_, _, _, _, rfl, ?_, ?_⟩
  · (repeat (first | with_reducible assumption | (with_reducible refine IsN.alloc ?_ _) | (with_reducible refine IsN.drew ?_) | (with_reducible refine IsN.put ?_ ?_) | (with_reducible refine HasBB.put ?_) | (focus ((with_reducible apply HasBB.of); with_reducible assumption)) | (focus ((with_reducible refine HasBB.new ?_); simp; done)) | (with_reducible refine HasBB.drew ?_) | (with_reducible refine HasBB.alloc ?_ _) | (focus ((with_reducible refine HasBB.set ?_ _ ?_); rotate_left; omega)) | (with_reducible refine IsN.call ?_ hb) | (with_reducible refine HasBB.call ?_ hb)))
  · (repeat (first | (with_reducible exact Below.refl _ _) | with_reducible assumption | (with_reducible refine below_alloc ?_ _) | (focus ((with_reducible refine below_set ?_ _ _ _ ?_); rotate_left; omega)) | (with_reducible refine Below.drew ?_) | (with_reducible refine below_call ?_ hb)))
set_option maxHeartbeats 1000000 in
set_option maxRecDepth 100000 in
theorem same_no (h l : Int) (x : Bool) (A : Option Addr) (k c : Nat) (n : Int) (w : World) (H : IsW h l 0) (N : IsN w x A k c n) (hk : k ≤ 400) (hf : fits n = false) :
    Calls Tryd.prog 17 #[.agg #[.int .i64 h, .int .u64 l], .bool false, .agg #[.bool x, .slice A k c]] w (RV (.bool true) w) := by
  have E := H.eqW isW0
  replace E : eqW h l 0 0 = true := by rw [E]; rfl
  go_enter Tryd.func17, Tryd.ntmps17
  go_wp2_with (go_at_call 38; ((with_reducible refine (Fits_any _ _ _ _ _ _ ((N.alloc _).alloc _) hk).mono ?_); rintro e w1 ⟨rfl, hb⟩; have c_hb_0_0 := Below.cell hb (p := ⟨w.heap.size, 0, none⟩) (by first | (simp; done) | (simp; omega)); have f_hb_0_0 := Below.frozen hb (p := ⟨w.heap.size, 0, none⟩) (by first | (simp; done) | (simp; omega)); have c_hb_0_1 := Below.cell hb (p := ⟨w.heap.size, 1, none⟩) (by first | (simp; done) | (simp; omega)); have f_hb_0_1 := Below.frozen hb (p := ⟨w.heap.size, 1, none⟩) (by first | (simp; done) | (simp; omega)); have c_hb_1_0 := Below.cell hb (p := ⟨w.heap.size + 1, 0, none⟩) (by first | (simp; done) | (simp; omega)); have f_hb_1_0 := Below.frozen hb (p := ⟨w.heap.size + 1, 0, none⟩) (by first | (simp; done) | (simp; omega)); have c_hb_1_1 := Below.cell hb (p := ⟨w.heap.size + 1, 1, none⟩) (by first | (simp; done) | (simp; omega)); have f_hb_1_1 := Below.frozen hb (p := ⟨w.heap.size + 1, 1, none⟩) (by first | (simp; done) | (simp; omega)); have hz_hb := Below.size hb; (try simp at hz_hb); have ne_hb_0 : ¬ w1.heap.size = w.heap.size := (by omega); have ne_hb_1 : ¬ w1.heap.size = w.heap.size + 1 := (by omega)))
  go_ret
  exact ⟨rfl, by (repeat (first | (with_reducible exact Below.refl _ _) | with_reducible assumption | (with_reducible refine below_alloc ?_ _) | (focus ((with_reducible refine below_set ?_ _ _ _ ?_); rotate_left; omega)) | (with_reducible refine Below.drew ?_) | (with_reducible refine below_call ?_ hb)))⟩
theorem icmp_self (n : Int) : icmp n n = 0 := icmp_eq rfl
structure SameW (w : World) (h l : Int) (x : Bool) (A : Option Addr) (k c : Nat) (n : Int) (W : World) : Prop where
  a : Box W w.heap.size (.int .i64 h) (.int .u64 l)
  b : Box W (w.heap.size + 1) (.bool x) (.slice A k c)
  n : IsN W x A k c n
  below : Below w.heap.size w W
section
variable {w W w1 : World} {h l : Int} {x : Bool} {A : Option Addr} {k c : Nat} {n : Int}
theorem SameW.call (q : SameW w h l x A k c n W) (hb : Below W.heap.size W w1) : SameW w h l x A k c n w1 := ⟨q.a.call hb, q.b.call hb, q.n.call hb, below_call q.below hb⟩
theorem SameW.s (q : SameW w h l x A k c n W) : (W.cell? ⟨w.heap.size, 0, none⟩ = some (.int .i64 h) ∧ W.cell? ⟨w.heap.size, 1, none⟩ = some (.int .u64 l)) ∧ (W.cell? ⟨w.heap.size + 1, 0, none⟩ = some (.bool x) ∧ W.cell? ⟨w.heap.size + 1, 1, none⟩ = some (.slice A k c)) := ⟨q.a.1, q.b.1⟩
end
set_option maxHeartbeats 1000000 in
set_option maxRecDepth 100000 in
theorem same_yes (h l : Int) (x : Bool) (A : Option Addr) (k c : Nat) (n : Int) (w : World) (H : IsW h l n) (N : IsN w x A k c n) (hk : k ≤ 400) :
    Calls Tryd.prog 17 #[.agg #[.int .i64 h, .int .u64 l], .bool true, .agg #[.bool x, .slice A k c]] w (RV (.bool true) w) := by
  have hf := H.fits
  have HF := Lib.hid hf
  have hk' : k ≤ 1000 := by omega
  go_enter Tryd.func17, Tryd.ntmps17
  go_wp2_with (go_at_call 38; ((with_reducible refine (Fits_any _ _ _ _ _ _ ((N.alloc _).alloc _) hk).mono ?_); rintro e w1 ⟨rfl, hb⟩; have c_hb_0_0 := Below.cell hb (p := ⟨w.heap.size, 0, none⟩) (by first | (simp; done) | (simp; omega)); have f_hb_0_0 := Below.frozen hb (p := ⟨w.heap.size, 0, none⟩) (by first | (simp; done) | (simp; omega)); have c_hb_0_1 := Below.cell hb (p := ⟨w.heap.size, 1, none⟩) (by first | (simp; done) | (simp; omega)); have f_hb_0_1 := Below.frozen hb (p := ⟨w.heap.size, 1, none⟩) (by first | (simp; done) | (simp; omega)); have c_hb_1_0 := Below.cell hb (p := ⟨w.heap.size + 1, 0, none⟩) (by first | (simp; done) | (simp; omega)); have f_hb_1_0 := Below.frozen hb (p := ⟨w.heap.size + 1, 0, none⟩) (by first | (simp; done) | (simp; omega)); have c_hb_1_1 := Below.cell hb (p := ⟨w.heap.size + 1, 1, none⟩) (by first | (simp; done) | (simp; omega)); have f_hb_1_1 := Below.frozen hb (p := ⟨w.heap.size + 1, 1, none⟩) (by first | (simp; done) | (simp; omega)); have hz_hb := Below.size hb; (try simp at hz_hb); have ne_hb_0 : ¬ w1.heap.size = w.heap.size := (by omega); have ne_hb_1 : ¬ w1.heap.size = w.heap.size + 1 := (by omega)))
  have A0 : SameW w h l x A k c n w1.drew := ⟨Box.drew (Box.call ((Box.new rfl).alloc _) hb), Box.drew (Box.call (Box.new (by simp)) hb), (((N.alloc _).alloc _).call hb).drew, by (repeat (first | (with_reducible exact Below.refl _ _) | with_reducible assumption | (with_reducible refine below_alloc ?_ _) | (focus ((with_reducible refine below_set ?_ _ _ _ ?_); rotate_left; omega)) | (with_reducible refine Below.drew ?_) | (with_reducible refine below_call ?_ hb)))⟩
  go_region_held3 (fun w' => (w'.cell? ⟨w.heap.size, 0, none⟩ = some (.int .i64 h) ∧ w'.cell? ⟨w.heap.size, 1, none⟩ = some (.int .u64 l)) ∧ (w'.cell? ⟨w.heap.size + 1, 0, none⟩ = some (.bool x) ∧ w'.cell? ⟨w.heap.size + 1, 1, none⟩ = some (.slice A k c)))
    (first | with_reducible exact A2.s | with_reducible exact A1.s | with_reducible exact A0.s)
    (first
      | (go_at_call 12; ((with_reducible refine (num_any _ _ _ _ H).mono ?_); rintro e w2 ⟨x2, A2', l2, c2, rfl, k2, hb2⟩; have A1 := A0.call hb2; clear hb2))
      | (go_at_call 27; ((with_reducible refine (rCmp_any _ _ _ _ _ _ _ _ _ _ _ k2 A1.n (Nat.le_trans (k2.lenW HF.out) (by omega)) hk').mono ?_); rintro e w3 ⟨rfl, hb3⟩; have A2 := A1.call hb3; clear hb3; rw [icmp_self])))
  go_wp2_with fail
  go_ret
  exact ⟨rfl, A2.below⟩
/-- what the program answers, told as the document tells it. -/
theorem same_any (h l : Int) (x : Bool) (A : Option Addr) (k c : Nat) (n : Int) (w : World) (H : IsW h l (if fits n then n else 0)) (N : IsN w x A k c n) (hk : k ≤ 400) :
    Calls Tryd.prog 17 #[.agg #[.int .i64 h, .int .u64 l], .bool (fits n), .agg #[.bool x, .slice A k c]] w (RV (.bool true) w) := by
  by_cases e : fits n = true
  · rw [if_pos e] at H
    rw [e]
    exact same_yes h l x A k c n w H N hk
  · rw [if_neg e] at H
    have e' : fits n = false := by simpa using e
    rw [e']
    exact same_no h l x A k c n w H N hk e'
end Go.Proofs.YtdmjccbpghilcaaDoor
