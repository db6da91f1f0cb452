/-
  The statements' own calls of layer 2: num, alive; what their walks hold on to. My own text.
-/
import Derived.Test.YtinjgiigmlikpaaFracF
namespace Go.Proofs.Ytinjgiigmlikpaa
open Go.RowKit
set_option linter.unusedVariables false
set_option linter.unusedSimpArgs false
attribute [local go_sem ↓] Go.wp_at_zero Go.wp_at_succ

theorem IsN.lenW {w : World} {neg : Bool} {A : Option Addr} {l c : Nat} {n : Int} (h : IsN w neg A l c n) (hf : fits n = true) : l ≤ 10 := by
  unfold fits at hf
  rw [decide_eq_true_eq] at hf
  exact h.len10 (by omega) (by omega)
theorem lenF {w : World} {neg : Bool} {A : Option Addr} {l c : Nat} {n : Int} (h : IsN w neg A l c n) (hf : fits n = true) {k : Nat} (hk : 10 ≤ k) : l ≤ k := Nat.le_trans (h.lenW hf) hk
theorem icmp_self (n : Int) : icmp n n = 0 := icmp_eq rfl
theorem eq_of {a b c d n : Int} (h : IsW a b n) (k : IsW c d n) : eqW a b c d = true := by rw [h.eqW k]; exact decide_eq_true rfl
set_option maxHeartbeats 400000 in
theorem num_any (h l n : Int) (w : World) (H : IsW h l n) : Calls Try.prog 14 #[.agg #[.int .i64 h, .int .u64 l]] w (RN n w) := by
  go_enter Try.func14, Try.ntmps14
  go_wp2_with (go_at_call 46; ((with_reducible refine (Wide_any _ _ _ _ H).mono ?_); rintro e w1 ⟨x1, A1, l1, c1, rfl, h1, hb⟩; have c_hb_0_0 := Below.cell hb (p := ⟨w.heap.size, 0, none⟩) (by first | (simp; done) | (simp; omega)); have f_hb_0_0 := Below.frozen hb (p := ⟨w.heap.size, 0, none⟩) (by first | (simp; done) | (simp; omega)); have c_hb_0_1 := Below.cell hb (p := ⟨w.heap.size, 1, none⟩) (by first | (simp; done) | (simp; omega)); have f_hb_0_1 := Below.frozen hb (p := ⟨w.heap.size, 1, none⟩) (by first | (simp; done) | (simp; omega)); have c_hb_1_0 := Below.cell hb (p := ⟨w.heap.size + 1, 0, none⟩) (by first | (simp; done) | (simp; omega)); have f_hb_1_0 := Below.frozen hb (p := ⟨w.heap.size + 1, 0, none⟩) (by first | (simp; done) | (simp; omega)); have c_hb_1_1 := Below.cell hb (p := ⟨w.heap.size + 1, 1, none⟩) (by first | (simp; done) | (simp; omega)); have f_hb_1_1 := Below.frozen hb (p := ⟨w.heap.size + 1, 1, none⟩) (by first | (simp; done) | (simp; omega)); have hz_hb := Below.size hb; (try simp at hz_hb); have ne_hb_0 : ¬ w1.heap.size = w.heap.size := (by omega); have ne_hb_1 : ¬ w1.heap.size = w.heap.size + 1 := (by omega)))
  refine bodyPost_ret (v := .agg #[.bool x1, .slice A1 l1 c1]) (by simp only [results, Try.results14]; go_simp) rfl ⟨_, _, _, _, rfl, ?_, ?_⟩
  · (repeat (first | with_reducible assumption | (with_reducible refine IsN.alloc ?_ _) | (with_reducible refine IsN.drew ?_) | (with_reducible refine IsN.put ?_ ?_) | (with_reducible refine HasBB.put ?_) | (focus ((with_reducible apply HasBB.of); with_reducible assumption)) | (focus ((with_reducible refine HasBB.new ?_); simp; done)) | (with_reducible refine HasBB.drew ?_) | (with_reducible refine HasBB.alloc ?_ _) | (focus ((with_reducible refine HasBB.set ?_ _ ?_); rotate_left; omega)) | (with_reducible refine IsN.call ?_ hb) | (with_reducible refine HasBB.call ?_ hb)))
  · (repeat (first | (with_reducible exact Below.refl _ _) | with_reducible assumption | (with_reducible refine below_alloc ?_ _) | (focus ((with_reducible refine below_set ?_ _ _ _ ?_); rotate_left; omega)) | (with_reducible refine Below.drew ?_) | (with_reducible refine below_call ?_ hb)))
/-- four Ints' halves compared. -/
def eqF (a b c d a' b' c' d' : Int) : Bool := eqW a b a' b' && eqW c d c' d'
theorem eqF_in (a b c d a' b' c' d' : Int) (w : World) : (Op.equalIn 10000 26 (.agg #[.int .i64 a, .int .u64 b, .int .i64 c, .int .u64 d]) (.agg #[.int .i64 a', .int .u64 b', .int .i64 c', .int .u64 d'])).run Try.prog w = .ok (eqF a b c d a' b' c' d') w := by
  unfold eqF eqW
  go_simp
  by_cases h1 : a = a' <;> by_cases h2 : b = b' <;> by_cases h3 : c = c' <;> by_cases h4 : d = d' <;> simp [h1, h2, h3, h4]
@[go_sem ↓ high] theorem eqlF (a b c d a' b' c' d' : Int) (w : World) : (binOp .eql 26 (.agg #[.int .i64 a, .int .u64 b, .int .i64 c, .int .u64 d]) (.agg #[.int .i64 a', .int .u64 b', .int .i64 c', .int .u64 d'])).run Try.prog w = .ok (.bool (eqF a b c d a' b' c' d')) w := by
  rw [run_eql_struct, eqF_in]; rfl
@[go_sem ↓ high] theorem neqF (a b c d a' b' c' d' : Int) (w : World) : (binOp .neq 26 (.agg #[.int .i64 a, .int .u64 b, .int .i64 c, .int .u64 d]) (.agg #[.int .i64 a', .int .u64 b', .int .i64 c', .int .u64 d'])).run Try.prog w = .ok (.bool (!eqF a b c d a' b' c' d')) w := by
  rw [run_neq_struct, eqF_in]; rfl
theorem eqF_of {a b c d a' b' c' d' n m : Int} (h1 : IsW a b n) (h2 : IsW a' b' n) (h3 : IsW c d m) (h4 : IsW c' d' m) : eqF a b c d a' b' c' d' = true := by unfold eqF; rw [eq_of h1 h2, eq_of h3 h4]; rfl
/-- blocks of four cells and of two that the walk holds on to. -/
structure AlW (w : World) (g g' : Nat) (a b c d s t : Int) (W : World) : Prop where
  f : Box4 W g (.int .i64 a) (.int .u64 b) (.int .i64 c) (.int .u64 d)
  s : Box W g' (.int .i64 s) (.int .u64 t)
  below : Below w.heap.size w W
section
variable {w W w1 : World} {g g' : Nat} {a b c d s t : Int}
theorem AlW.call (h : AlW w g g' a b c d s t W) (hb : Below W.heap.size W w1) : AlW w g g' a b c d s t w1 := ⟨h.f.call hb, h.s.call hb, below_call h.below hb⟩
theorem AlW.k (h : AlW w g g' a b c d s t W) : (W.cell? ⟨g, 0, none⟩ = some (.int .i64 a) ∧ W.cell? ⟨g, 1, none⟩ = some (.int .u64 b) ∧ W.cell? ⟨g, 2, none⟩ = some (.int .i64 c) ∧ W.cell? ⟨g, 3, none⟩ = some (.int .u64 d)) ∧ (W.cell? ⟨g', 0, none⟩ = some (.int .i64 s) ∧ W.cell? ⟨g', 1, none⟩ = some (.int .u64 t)) := ⟨h.f.1, h.s.1⟩
end
set_option maxHeartbeats 4000000 in
set_option maxRecDepth 100000 in
theorem alive_any (w : World) : Calls Try.prog 20 #[] w (RV (.bool true) w) := by
  have M1 : Hid (∀ a b c d w, IsW a b (-7) → IsW c d (-2) → Calls Try.prog 13 #[.agg #[.int .i64 a, .int .u64 b], .agg #[.int .i64 c, .int .u64 d]] w (RFB true 7 2 w)) := fun a b c d w h k => (Make_neg a b (-7) c d (-2) w h k (by omega)).mono fun e w' q => q
  have S1 : Hid (∀ a b c d w, IsW a b 7 → IsW c d 2 → Calls Try.prog 23 #[.agg #[.int .i64 a, .int .u64 b, .int .i64 c, .int .u64 d], .int .i64 1] w (RWT 2 w)) := fun a b c d w h k => (Snap_yes a b 7 c d 2 1 w h k (by omega) (by omega)).mono fun e w' q => q
  have R1 : Hid (∀ a b c d w, IsW c d 2 → Calls Try.prog 19 #[.agg #[.int .i64 a, .int .u64 b, .int .i64 c, .int .u64 d]] w (RV (.bool true) w)) := fun a b c d w k => Right_any a b c d 2 w k
  have R0 : Hid (∀ w, Calls Try.prog 19 #[.agg #[.int .i64 0, .int .u64 0, .int .i64 0, .int .u64 0]] w (RV (.bool false) w)) := fun w => Right_any 0 0 0 0 0 w isW0
  have L1 : Hid (∀ a b c d w, IsW a b 7 → IsW c d 2 → Calls Try.prog 50 #[.agg #[.int .i64 a, .int .u64 b, .int .i64 c, .int .u64 d]] w (RW 3 w)) := fun a b c d w h k => Floor_yes a b 7 c d 2 w h k (by omega)
  have K1 : Hid (∀ a b c d a' b' c' d' w, IsW a b 7 → IsW c d 2 → IsW a' b' 4 → IsW c' d' 1 → Calls Try.prog 28 #[.agg #[.int .i64 a, .int .u64 b, .int .i64 c, .int .u64 d], .agg #[.int .i64 a', .int .u64 b', .int .i64 c', .int .u64 d']] w (RV (.int .i64 (-1)) w)) := fun a b c d a' b' c' d' w h k h' k' => fCmp_yes a b 7 c d 2 a' b' 4 c' d' 1 w h k h' k' (by omega) (by omega)
  go_enter Try.func20, Try.ntmps20
  go_wp2_with fail
  refine (Of_any (-7) _ (by omega) (by omega)).mono ?_
  rintro e w1 ⟨a1, b1, rfl, h1, hb1⟩
  go_wp2_with fail
  refine (Of_any (-2) _ (by omega) (by omega)).mono ?_
  rintro e w2 ⟨a2, b2, rfl, h2, hb2⟩
  go_wp2_with fail
  refine (M1.out _ _ _ _ _ h1 h2).mono ?_
  rintro e w3 ⟨fa, fb, fc, fd, rfl, hn, hd, hb3⟩
  go_wp2_with fail
  refine (Of_any 1 _ (by omega) (by omega)).mono ?_
  rintro e w4 ⟨a4, b4, rfl, h4, hb4⟩
  go_wp2_with fail
  refine (Of_any 0 _ (by omega) (by omega)).mono ?_
  rintro e w5 ⟨a5, b5, rfl, h5, hb5⟩
  go_wp2_with fail
  refine (Make_zero _ _ _ _ _ _ h4 h5).mono ?_
  rintro e w6 ⟨ga, gb, gc, gd, rfl, hz1, hz2, hb6⟩
  have B6 : Box4 w6 w3.heap.size (.int .i64 fa) (.int .u64 fb) (.int .i64 fc) (.int .u64 fd) := (by (repeat (first | with_reducible assumption | (focus ((with_reducible refine Box.new ?_); simp; done)) | (focus ((with_reducible refine Box4.new ?_); simp; done)) | (with_reducible refine Box.alloc ?_ _) | (with_reducible refine Box4.alloc ?_ _) | (with_reducible refine Box.drew ?_) | (with_reducible refine Box4.drew ?_) | (with_reducible refine Box.put ?_) | (focus ((with_reducible refine Box.set ?_ _ ?_); rotate_left; omega)) | (focus ((with_reducible refine Box4.set ?_ _ ?_); rotate_left; omega)) | (focus ((with_reducible apply HasBox.of); with_reducible assumption)) | (focus ((with_reducible refine HasBox.new ?_); simp; done)) | (with_reducible refine HasBox.set ?_ _ _) | (with_reducible refine HasBox.drew ?_) | (with_reducible refine HasBox.alloc ?_ _) | (with_reducible refine Box.call ?_ hb6) | (with_reducible refine Box4.call ?_ hb6) | (with_reducible refine HasBox.call ?_ hb6) | (with_reducible refine Box.call ?_ hb5) | (with_reducible refine Box4.call ?_ hb5) | (with_reducible refine HasBox.call ?_ hb5) | (with_reducible refine Box.call ?_ hb4) | (with_reducible refine Box4.call ?_ hb4) | (with_reducible refine HasBox.call ?_ hb4))))
  have bl6 : Below w.heap.size w w6 := (by (repeat (first | (with_reducible exact Below.refl _ _) | with_reducible assumption | (with_reducible refine below_alloc ?_ _) | (focus ((with_reducible refine below_set ?_ _ _ _ ?_); rotate_left; omega)) | (with_reducible refine Below.drew ?_) | (with_reducible refine below_call ?_ hb6) | (with_reducible refine below_call ?_ hb5) | (with_reducible refine below_call ?_ hb4) | (with_reducible refine below_call ?_ hb3) | (with_reducible refine below_call ?_ hb2) | (with_reducible refine below_call ?_ hb1))))
  have l6 := B6.lt; have m6 := Nat.ne_of_lt B6.lt; have n6 := Nat.ne_of_gt B6.lt
  clear hb6 hb5 hb4 hb3 hb2 hb1
  obtain ⟨⟨x0, x1, x2, x3⟩, x4⟩ := id B6
  go_wp2_with fail
  refine (S1.out _ _ _ _ _ hn hd).mono ?_
  rintro e w7 ⟨sa, sb, rfl, hs, hb7⟩
  have A0 : AlW w w3.heap.size w7.heap.size fa fb fc fd sa sb (w7.alloc (.cells #[.int .i64 sa, .int .u64 sb] 24)).drew := ⟨(by (repeat (first | with_reducible assumption | (focus ((with_reducible refine Box.new ?_); simp; done)) | (focus ((with_reducible refine Box4.new ?_); simp; done)) | (with_reducible refine Box.alloc ?_ _) | (with_reducible refine Box4.alloc ?_ _) | (with_reducible refine Box.drew ?_) | (with_reducible refine Box4.drew ?_) | (with_reducible refine Box.put ?_) | (focus ((with_reducible refine Box.set ?_ _ ?_); rotate_left; omega)) | (focus ((with_reducible refine Box4.set ?_ _ ?_); rotate_left; omega)) | (focus ((with_reducible apply HasBox.of); with_reducible assumption)) | (focus ((with_reducible refine HasBox.new ?_); simp; done)) | (with_reducible refine HasBox.set ?_ _ _) | (with_reducible refine HasBox.drew ?_) | (with_reducible refine HasBox.alloc ?_ _) | (with_reducible refine Box.call ?_ hb7) | (with_reducible refine Box4.call ?_ hb7) | (with_reducible refine HasBox.call ?_ hb7)))), (by (repeat (first | with_reducible assumption | (focus ((with_reducible refine Box.new ?_); simp; done)) | (focus ((with_reducible refine Box4.new ?_); simp; done)) | (with_reducible refine Box.alloc ?_ _) | (with_reducible refine Box4.alloc ?_ _) | (with_reducible refine Box.drew ?_) | (with_reducible refine Box4.drew ?_) | (with_reducible refine Box.put ?_) | (focus ((with_reducible refine Box.set ?_ _ ?_); rotate_left; omega)) | (focus ((with_reducible refine Box4.set ?_ _ ?_); rotate_left; omega)) | (focus ((with_reducible apply HasBox.of); with_reducible assumption)) | (focus ((with_reducible refine HasBox.new ?_); simp; done)) | (with_reducible refine HasBox.set ?_ _ _) | (with_reducible refine HasBox.drew ?_) | (with_reducible refine HasBox.alloc ?_ _)))), (by (repeat (first | (with_reducible exact Below.refl _ _) | with_reducible assumption | (with_reducible refine below_alloc ?_ _) | (focus ((with_reducible refine below_set ?_ _ _ _ ?_); rotate_left; omega)) | (with_reducible refine Below.drew ?_) | (with_reducible refine below_call ?_ hb7))))⟩
  clear hb7 x0 x1 x2 x3 x4 B6 bl6
  go_wp2_with fail
  go_region_held3 (fun w' => (w'.cell? ⟨w3.heap.size, 0, none⟩ = some (.int .i64 fa) ∧ w'.cell? ⟨w3.heap.size, 1, none⟩ = some (.int .u64 fb) ∧ w'.cell? ⟨w3.heap.size, 2, none⟩ = some (.int .i64 fc) ∧ w'.cell? ⟨w3.heap.size, 3, none⟩ = some (.int .u64 fd)) ∧ (w'.cell? ⟨w7.heap.size, 0, none⟩ = some (.int .i64 sa) ∧ w'.cell? ⟨w7.heap.size, 1, none⟩ = some (.int .u64 sb)))
    (first | with_reducible exact A9.k | with_reducible exact A8.k | with_reducible exact A7.k | with_reducible exact A6.k | with_reducible exact A5.k | with_reducible exact A4.k | with_reducible exact A3.k | with_reducible exact A2.k | with_reducible exact A1.k | with_reducible exact A0.k)
    (first
      | (go_at_call 22; ((with_reducible refine (Of_any 7 _ (by omega) (by omega)).mono ?_); rintro e v1 ⟨o1, p1, rfl, i1, hb⟩; have A1 := A0.call hb; clear hb))
      | (go_at_call 22; have _t := A6; ((with_reducible refine (Of_any 2 _ (by omega) (by omega)).mono ?_); rintro e v7 ⟨o7, p7, rfl, i7, hb⟩; have A7 := A6.call hb; clear hb; have E7 := eq_of hs i7))
      | (go_at_call 22; ((with_reducible refine (Of_any 2 _ (by omega) (by omega)).mono ?_); rintro e v2 ⟨o2, p2, rfl, i2, hb⟩; have A2 := A1.call hb; clear hb; have E2 := eqF_of hn i1 hd i2))
      | (go_at_call 19; ((with_reducible refine (R0.out _).mono ?_); rintro e v4 ⟨rfl, hb⟩; have A4 := A3.call hb; clear hb))
      | (go_at_call 19; ((with_reducible refine (R1.out _ _ _ _ _ hd).mono ?_); rintro e v3 ⟨rfl, hb⟩; have A3 := A2.call hb; clear hb))
      | (go_at_call 50; ((with_reducible refine (L1.out _ _ _ _ _ hn hd).mono ?_); rintro e v5 ⟨o5, p5, rfl, i5, hb⟩; have A5 := A4.call hb; clear hb))
      | (go_at_call 22; ((with_reducible refine (Of_any 3 _ (by omega) (by omega)).mono ?_); rintro e v6 ⟨o6, p6, rfl, i6, hb⟩; have A6 := A5.call hb; clear hb; have E6 := eq_of i5 i6))
      | (go_at_call 21; ((with_reducible refine (fOf_any 4 _ (by omega) (by omega)).mono ?_); rintro e v8 ⟨o8, p8, q8, r8, rfl, i8, j8, hb⟩; have A8 := A7.call hb; clear hb))
      | (go_at_call 28; ((with_reducible refine (K1.out _ _ _ _ _ _ _ _ _ hn hd i8 j8).mono ?_); rintro e v9 ⟨rfl, hb⟩; have A9 := A8.call hb; clear hb)))
  all_goals
    go_wp2_with fail
    go_ret
    exact ⟨rfl, A9.below⟩
end Go.Proofs.Ytinjgiigmlikpaa
