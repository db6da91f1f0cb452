/-
  Contracts of the statements' own calls: num, same. My own text.
-/
import Derived.Test.YtljkapolljgbiaaDoorRefO
namespace Go.Proofs.YtljkapolljgbiaaDoor
open Go.RowKit
set_option linter.unusedVariables false
attribute [local go_sem ↓] Go.wp_at_zero Go.wp_at_succ

theorem IsN.lenW {w : World} {neg : Bool} {A : Option Addr} {l c : Nat} {n : Int} (h : IsN w neg A l c n) (hf : fits n = true) : l ≤ 10 := by
  unfold fits at hf
  rw [decide_eq_true_eq] at hf
  exact h.len10 (by omega) (by omega)
set_option maxHeartbeats 400000 in
theorem num_any (h l n : Int) (w : World) (H : IsW h l n) : Calls Tryd.prog 6 #[.agg #[.int .i64 h, .int .u64 l]] w (RN n w) := by
  go_enter Tryd.func6, Tryd.ntmps6
  go_wp2_with (go_at_call 10; ((with_reducible refine (Wide_any _ _ _ _ H).mono ?_); rintro e w1 ⟨x1, A1, l1, c1, rfl, h1, hb⟩; have c_hb_0_0 := Below.cell hb (p := ⟨w.heap.size, 0, none⟩) (by first | (simp; done) | (simp; omega)); have f_hb_0_0 := Below.frozen hb (p := ⟨w.heap.size, 0, none⟩) (by first | (simp; done) | (simp; omega)); have c_hb_0_1 := Below.cell hb (p := ⟨w.heap.size, 1, none⟩) (by first | (simp; done) | (simp; omega)); have f_hb_0_1 := Below.frozen hb (p := ⟨w.heap.size, 1, none⟩) (by first | (simp; done) | (simp; omega)); have c_hb_1_0 := Below.cell hb (p := ⟨w.heap.size + 1, 0, none⟩) (by first | (simp; done) | (simp; omega)); have f_hb_1_0 := Below.frozen hb (p := ⟨w.heap.size + 1, 0, none⟩) (by first | (simp; done) | (simp; omega)); have c_hb_1_1 := Below.cell hb (p := ⟨w.heap.size + 1, 1, none⟩) (by first | (simp; done) | (simp; omega)); have f_hb_1_1 := Below.frozen hb (p := ⟨w.heap.size + 1, 1, none⟩) (by first | (simp; done) | (simp; omega)); have hz_hb := Below.size hb; (try simp at hz_hb); have ne_hb_0 : ¬ w1.heap.size = w.heap.size := (by omega); have ne_hb_1 : ¬ w1.heap.size = w.heap.size + 1 := (by omega)))
  refine bodyPost_ret (v := .agg #[.bool x1, .slice A1 l1 c1]) (by simp only [results, Tryd.results6]; go_simp) rfl ⟨_, _, _, _, rfl, ?_, ?_⟩
  · (repeat (first | with_reducible assumption | (with_reducible refine IsN.alloc ?_ _) | (with_reducible refine IsN.drew ?_) | (with_reducible refine IsN.put ?_ ?_) | (with_reducible refine HasBB.put ?_) | (focus ((with_reducible apply HasBB.of); with_reducible assumption)) | (focus ((with_reducible refine HasBB.new ?_); simp; done)) | (with_reducible refine HasBB.drew ?_) | (with_reducible refine HasBB.alloc ?_ _) | (focus ((with_reducible refine HasBB.set ?_ _ ?_); rotate_left; omega)) | (with_reducible refine IsN.call ?_ hb) | (with_reducible refine HasBB.call ?_ hb)))
  · (repeat (first | (with_reducible exact Below.refl _ _) | with_reducible assumption | (with_reducible refine below_alloc ?_ _) | (focus ((with_reducible refine below_set ?_ _ _ _ ?_); rotate_left; omega)) | (with_reducible refine Below.drew ?_) | (with_reducible refine below_call ?_ hb)))
theorem icmp_self (n : Int) : icmp n n = 0 := icmp_eq rfl
structure SameW (w : World) (h l : Int) (x : Bool) (A : Option Addr) (k c : Nat) (n : Int) (W : World) : Prop where
  a : Box W w.heap.size (.int .i64 h) (.int .u64 l)
  b : Box W (w.heap.size + 1) (.bool x) (.slice A k c)
  n : IsN W x A k c n
  below : Below w.heap.size w W
section
variable {w W w1 : World} {h l : Int} {x : Bool} {A : Option Addr} {k c : Nat} {n : Int}
theorem SameW.call (q : SameW w h l x A k c n W) (hb : Below W.heap.size W w1) : SameW w h l x A k c n w1 := ⟨q.a.call hb, q.b.call hb, q.n.call hb, below_call q.below hb⟩
theorem SameW.s (q : SameW w h l x A k c n W) : (W.cell? ⟨w.heap.size, 0, none⟩ = some (.int .i64 h) ∧ W.cell? ⟨w.heap.size, 1, none⟩ = some (.int .u64 l)) ∧ (W.cell? ⟨w.heap.size + 1, 0, none⟩ = some (.bool x) ∧ W.cell? ⟨w.heap.size + 1, 1, none⟩ = some (.slice A k c)) := ⟨q.a.1, q.b.1⟩
end
end Go.Proofs.YtljkapolljgbiaaDoor
