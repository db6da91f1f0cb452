/-
  Contracts of the reference package of layer 2: Cmp, Floor; of the statements: Old. My own text.
-/
import Derived.Test.YtdmjccbpghilcaaFracG
import Derived.Test.YtdmjccbpghilcaaRefT
namespace Go.Proofs.Ytdmjccbpghilcaa
open Go.RowKit
set_option linter.unusedVariables false
set_option linter.unusedSimpArgs false
attribute [local go_sem ↓] Go.wp_at_zero Go.wp_at_succ

theorem icmp_swap (n m : Int) : icmp m n = -icmp n m := by
  unfold icmp
  repeat' split
  all_goals omega
/-- a fraction of the reference package comes back. -/
def ROld (n d : Int) (w : World) (e : Ending) (w' : World) : Prop := ∃ x A l c y B m f, e = .returned (.agg #[.bool x, .slice A l c, .bool y, .slice B m f]) ∧ IsN w' x A l c n ∧ IsN w' y B m f d ∧ Below w.heap.size w w'
theorem IsN.put4 {w : World} {neg : Bool} {A : Option Addr} {l c : Nat} {n : Int} {b : Nat} {x x' : Bool} {u v y u' v' y' : Value} (h : IsN w neg A l c n) (hb : Box4 w b (.bool x) u v y) :
    IsN ((((w.setCell ⟨b, 0, none⟩ (.bool x')).setCell ⟨b, 1, none⟩ u').setCell ⟨b, 2, none⟩ v').setCell ⟨b, 3, none⟩ y') neg A l c n := by
  obtain ⟨ds, hD, hS⟩ := h
  obtain ⟨⟨k1, _⟩, _⟩ := hb
  have c1 : (w.setCell ⟨b, 0, none⟩ (.bool x')).cell? ⟨b, 0, none⟩ = some (.bool x') := World.cell?_setCell_same _ _ _ k1
  have c2 : ((w.setCell ⟨b, 0, none⟩ (.bool x')).setCell ⟨b, 1, none⟩ u').cell? ⟨b, 0, none⟩ = some (.bool x') := by rw [World.cell?_setCell_other _ _ _ _ (by simp)]; exact c1
  have c3 : (((w.setCell ⟨b, 0, none⟩ (.bool x')).setCell ⟨b, 1, none⟩ u').setCell ⟨b, 2, none⟩ v').cell? ⟨b, 0, none⟩ = some (.bool x') := by rw [World.cell?_setCell_other _ _ _ _ (by simp)]; exact c2
  exact ⟨ds, (((hD.set k1 _ _).set c1 _ _).set c2 _ _).set c3 _ _, hS⟩
set_option maxHeartbeats 1000000 in
set_option maxRecDepth 100000 in
theorem Old_any (a b n c d m : Int) (w : World) (H : IsW a b n) (G : IsW c d m) : Calls Try.prog 23 #[.agg #[.int .i64 a, .int .u64 b, .int .i64 c, .int .u64 d]] w (ROld n m w) := by
  have N1 : ¬ (w.heap.size + 1 = w.heap.size) := by omega
  go_enter Try.func23, Try.ntmps23
  go_wp2_with fail
  have Z0 : Box4 ((w.alloc (.cells #[.int .i64 a, .int .u64 b, .int .i64 c, .int .u64 d] 26)).alloc (.cells #[.bool false, .slice none 0 0, .bool false, .slice none 0 0] 46)).drew w.heap.size (.int .i64 a) (.int .u64 b) (.int .i64 c) (.int .u64 d) := (by (repeat (first | with_reducible assumption | (focus ((with_reducible refine Box.new ?_); simp; done)) | (focus ((with_reducible refine Box4.new ?_); simp; done)) | (with_reducible refine Box.alloc ?_ _) | (with_reducible refine Box4.alloc ?_ _) | (with_reducible refine Box.drew ?_) | (with_reducible refine Box4.drew ?_) | (with_reducible refine Box.put ?_) | (focus ((with_reducible refine Box.set ?_ _ ?_); rotate_left; omega)) | (focus ((with_reducible refine Box4.set ?_ _ ?_); rotate_left; omega)) | (focus ((with_reducible apply HasBox.of); with_reducible assumption)) | (focus ((with_reducible refine HasBox.new ?_); simp; done)) | (with_reducible refine HasBox.set ?_ _ _) | (with_reducible refine HasBox.drew ?_) | (with_reducible refine HasBox.alloc ?_ _))))
  have Z1 : Box4 ((w.alloc (.cells #[.int .i64 a, .int .u64 b, .int .i64 c, .int .u64 d] 26)).alloc (.cells #[.bool false, .slice none 0 0, .bool false, .slice none 0 0] 46)).drew (w.heap.size + 1) (.bool false) (.slice none 0 0) (.bool false) (.slice none 0 0) := (by (repeat (first | with_reducible assumption | (focus ((with_reducible refine Box.new ?_); simp; done)) | (focus ((with_reducible refine Box4.new ?_); simp; done)) | (with_reducible refine Box.alloc ?_ _) | (with_reducible refine Box4.alloc ?_ _) | (with_reducible refine Box.drew ?_) | (with_reducible refine Box4.drew ?_) | (with_reducible refine Box.put ?_) | (focus ((with_reducible refine Box.set ?_ _ ?_); rotate_left; omega)) | (focus ((with_reducible refine Box4.set ?_ _ ?_); rotate_left; omega)) | (focus ((with_reducible apply HasBox.of); with_reducible assumption)) | (focus ((with_reducible refine HasBox.new ?_); simp; done)) | (with_reducible refine HasBox.set ?_ _ _) | (with_reducible refine HasBox.drew ?_) | (with_reducible refine HasBox.alloc ?_ _))))
  go_region_held3 (fun w' => w'.cell? ⟨w.heap.size, 0, none⟩ = some (.int .i64 a) ∧ w'.cell? ⟨w.heap.size, 1, none⟩ = some (.int .u64 b) ∧ w'.cell? ⟨w.heap.size, 2, none⟩ = some (.int .i64 c) ∧ w'.cell? ⟨w.heap.size, 3, none⟩ = some (.int .u64 d))
    (first | ((refine Box4.cs ?_); ((repeat (first | with_reducible assumption | (focus ((with_reducible refine Box.new ?_); simp; done)) | (focus ((with_reducible refine Box4.new ?_); simp; done)) | (with_reducible refine Box.alloc ?_ _) | (with_reducible refine Box4.alloc ?_ _) | (with_reducible refine Box.drew ?_) | (with_reducible refine Box4.drew ?_) | (with_reducible refine Box.put ?_) | (focus ((with_reducible refine Box.set ?_ _ ?_); rotate_left; omega)) | (focus ((with_reducible refine Box4.set ?_ _ ?_); rotate_left; omega)) | (focus ((with_reducible apply HasBox.of); with_reducible assumption)) | (focus ((with_reducible refine HasBox.new ?_); simp; done)) | (with_reducible refine HasBox.set ?_ _ _) | (with_reducible refine HasBox.drew ?_) | (with_reducible refine HasBox.alloc ?_ _) | (with_reducible refine Box.call ?_ hb2) | (with_reducible refine Box4.call ?_ hb2) | (with_reducible refine HasBox.call ?_ hb2) | (with_reducible refine Box.call ?_ hb1) | (with_reducible refine Box4.call ?_ hb1) | (with_reducible refine HasBox.call ?_ hb1))); done)) | go_keep)
    (first
      | (go_at_call 11; ((with_reducible refine (num_any _ _ _ _ H).mono ?_); rintro e w1 ⟨x1, A1, l1, c1, rfl, k1, hb1⟩))
      | (go_at_call 11; ((with_reducible refine (num_any _ _ _ _ G).mono ?_); rintro e w2 ⟨x2, A2, l2, c2, rfl, k2, hb2⟩; replace k1 := k1.call hb2; have U1 := (Z1.call hb1).call hb2; obtain ⟨⟨t0, t1, t2, t3⟩, t4, t5, t6, t7⟩ := id U1)))
  all_goals
    go_wp2_with fail
    refine bodyPost_ret (v := .agg #[.bool x1, .slice A1 l1 c1, .bool x2, .slice A2 l2 c2]) (by simp only [results, Try.results23]; go_simp) rfl ⟨_, _, _, _, _, _, _, _, rfl, ?_, ?_, ?_⟩
    · with_reducible exact k1.put4 U1
    · with_reducible exact k2.put4 U1
    · (repeat (first | (with_reducible exact Below.refl _ _) | with_reducible assumption | (with_reducible refine below_alloc ?_ _) | (focus ((with_reducible refine below_set ?_ _ _ _ ?_); rotate_left; omega)) | (with_reducible refine Below.drew ?_) | (with_reducible refine below_call ?_ hb2) | (with_reducible refine below_call ?_ hb1)))
theorem ten20 : (10000 : Int) ^ 20 = 10000 ^ 10 * 10000 ^ 10 := by decide
theorem IsN.lenM {w : World} {neg : Bool} {A : Option Addr} {l c : Nat} {n m : Int} (h : IsN w neg A l c (n * m)) (h1 : fits n = true) (h2 : fits m = true) : l ≤ 20 := by
  refine h.len ?_
  unfold fits at h1 h2
  rw [decide_eq_true_eq] at h1 h2
  rw [Int.natAbs_mul, ten20, ten10]
  have k1 : (n.natAbs : Int) < 10000000000000000000000000000000000000000 := by omega
  have k2 : (m.natAbs : Int) < 10000000000000000000000000000000000000000 := by omega
  have k3 : (0 : Int) ≤ n.natAbs := by omega
  have k4 : (0 : Int) ≤ m.natAbs := by omega
  rw [Int.natCast_mul]
  exact Int.mul_lt_mul' (Int.le_of_lt k1) k2 k4 (by omega)
set_option maxHeartbeats 1000000 in
set_option maxRecDepth 100000 in
theorem r2Cmp_any (x y z t : Bool) (A B C D : Option Addr) (l c m e' l2 c2 m2 e2 : Nat) (n0 d0 n1 d1 : Int) (w : World) (h0 : IsN w x A l c n0) (g0 : IsN w y B m e' d0) (h1 : IsN w z C l2 c2 n1) (g1 : IsN w t D m2 e2 d1)
    (f0 : fits n0 = true) (f1 : fits d0 = true) (f2 : fits n1 = true) (f3 : fits d1 = true) :
    Calls Try.prog 22 #[.agg #[.bool x, .slice A l c, .bool y, .slice B m e'], .agg #[.bool z, .slice C l2 c2, .bool t, .slice D m2 e2]] w (RV (.int .i64 (icmp (n0 * d1) (n1 * d0))) w) := by
  have F0 := Lib.hid f0; have F1 := Lib.hid f1; have F2 := Lib.hid f2; have F3 := Lib.hid f3
  clear f0 f1 f2 f3
  go_enter Try.func22, Try.ntmps22
  go_wp2_with fail
  have Z0 : Box4 ((w.alloc (.cells #[.bool x, .slice A l c, .bool y, .slice B m e'] 46)).alloc (.cells #[.bool z, .slice C l2 c2, .bool t, .slice D m2 e2] 46)).drew w.heap.size (.bool x) (.slice A l c) (.bool y) (.slice B m e') := (by (repeat (first | with_reducible assumption | (focus ((with_reducible refine Box.new ?_); simp; done)) | (focus ((with_reducible refine Box4.new ?_); simp; done)) | (with_reducible refine Box.alloc ?_ _) | (with_reducible refine Box4.alloc ?_ _) | (with_reducible refine Box.drew ?_) | (with_reducible refine Box4.drew ?_) | (with_reducible refine Box.put ?_) | (focus ((with_reducible refine Box.set ?_ _ ?_); rotate_left; omega)) | (focus ((with_reducible refine Box4.set ?_ _ ?_); rotate_left; omega)) | (focus ((with_reducible apply HasBox.of); with_reducible assumption)) | (focus ((with_reducible refine HasBox.new ?_); simp; done)) | (with_reducible refine HasBox.set ?_ _ _) | (with_reducible refine HasBox.drew ?_) | (with_reducible refine HasBox.alloc ?_ _))))
  have Z1 : Box4 ((w.alloc (.cells #[.bool x, .slice A l c, .bool y, .slice B m e'] 46)).alloc (.cells #[.bool z, .slice C l2 c2, .bool t, .slice D m2 e2] 46)).drew (w.heap.size + 1) (.bool z) (.slice C l2 c2) (.bool t) (.slice D m2 e2) := (by (repeat (first | with_reducible assumption | (focus ((with_reducible refine Box.new ?_); simp; done)) | (focus ((with_reducible refine Box4.new ?_); simp; done)) | (with_reducible refine Box.alloc ?_ _) | (with_reducible refine Box4.alloc ?_ _) | (with_reducible refine Box.drew ?_) | (with_reducible refine Box4.drew ?_) | (with_reducible refine Box.put ?_) | (focus ((with_reducible refine Box.set ?_ _ ?_); rotate_left; omega)) | (focus ((with_reducible refine Box4.set ?_ _ ?_); rotate_left; omega)) | (focus ((with_reducible apply HasBox.of); with_reducible assumption)) | (focus ((with_reducible refine HasBox.new ?_); simp; done)) | (with_reducible refine HasBox.set ?_ _ _) | (with_reducible refine HasBox.drew ?_) | (with_reducible refine HasBox.alloc ?_ _))))
  have X0 := ((h0.alloc (.cells #[.bool x, .slice A l c, .bool y, .slice B m e'] 46)).alloc (.cells #[.bool z, .slice C l2 c2, .bool t, .slice D m2 e2] 46)).drew
  have X1 := ((g0.alloc (.cells #[.bool x, .slice A l c, .bool y, .slice B m e'] 46)).alloc (.cells #[.bool z, .slice C l2 c2, .bool t, .slice D m2 e2] 46)).drew
  have X2 := ((h1.alloc (.cells #[.bool x, .slice A l c, .bool y, .slice B m e'] 46)).alloc (.cells #[.bool z, .slice C l2 c2, .bool t, .slice D m2 e2] 46)).drew
  have X3 := ((g1.alloc (.cells #[.bool x, .slice A l c, .bool y, .slice B m e'] 46)).alloc (.cells #[.bool z, .slice C l2 c2, .bool t, .slice D m2 e2] 46)).drew
  go_region_held3 (fun w' => (w'.cell? ⟨w.heap.size, 0, none⟩ = some (.bool x) ∧ w'.cell? ⟨w.heap.size, 1, none⟩ = some (.slice A l c) ∧ w'.cell? ⟨w.heap.size, 2, none⟩ = some (.bool y) ∧ w'.cell? ⟨w.heap.size, 3, none⟩ = some (.slice B m e')) ∧ (w'.cell? ⟨w.heap.size + 1, 0, none⟩ = some (.bool z) ∧ w'.cell? ⟨w.heap.size + 1, 1, none⟩ = some (.slice C l2 c2) ∧ w'.cell? ⟨w.heap.size + 1, 2, none⟩ = some (.bool t) ∧ w'.cell? ⟨w.heap.size + 1, 3, none⟩ = some (.slice D m2 e2)))
    (first | (refine And.intro (Box4.cs ?_) (Box4.cs ?_) <;> ((repeat (first | with_reducible assumption | (focus ((with_reducible refine Box.new ?_); simp; done)) | (focus ((with_reducible refine Box4.new ?_); simp; done)) | (with_reducible refine Box.alloc ?_ _) | (with_reducible refine Box4.alloc ?_ _) | (with_reducible refine Box.drew ?_) | (with_reducible refine Box4.drew ?_) | (with_reducible refine Box.put ?_) | (focus ((with_reducible refine Box.set ?_ _ ?_); rotate_left; omega)) | (focus ((with_reducible refine Box4.set ?_ _ ?_); rotate_left; omega)) | (focus ((with_reducible apply HasBox.of); with_reducible assumption)) | (focus ((with_reducible refine HasBox.new ?_); simp; done)) | (with_reducible refine HasBox.set ?_ _ _) | (with_reducible refine HasBox.drew ?_) | (with_reducible refine HasBox.alloc ?_ _) | (with_reducible refine Box.call ?_ hb3) | (with_reducible refine Box4.call ?_ hb3) | (with_reducible refine HasBox.call ?_ hb3) | (with_reducible refine Box.call ?_ hb2) | (with_reducible refine Box4.call ?_ hb2) | (with_reducible refine HasBox.call ?_ hb2) | (with_reducible refine Box.call ?_ hb1) | (with_reducible refine Box4.call ?_ hb1) | (with_reducible refine HasBox.call ?_ hb1))); done)) | go_keep)
    (first
      | (go_at_call 39; ((with_reducible refine (rMul_any _ _ _ _ _ _ _ _ _ _ _ X0 X3 (lenF X0 F0.out (by omega)) (lenF X3 F3.out (by omega))).mono ?_); rintro e w1 ⟨p1, P1, q1, s1, rfl, k1, hb1⟩; replace X1 := X1.call hb1; replace X2 := X2.call hb1; clear X0 X3))
      | (go_at_call 39; ((with_reducible refine (rMul_any _ _ _ _ _ _ _ _ _ _ _ X2 X1 (lenF X2 F2.out (by omega)) (lenF X1 F1.out (by omega))).mono ?_); rintro e w2 ⟨p2, P2, q2, s2, rfl, k2, hb2⟩; replace k1 := k1.call hb2))
      | (go_at_call 12; ((with_reducible refine (rCmp_any _ _ _ _ _ _ _ _ _ _ _ k1 k2 (Nat.le_trans (k1.lenM F0.out F3.out) (by omega)) (Nat.le_trans (k2.lenM F2.out F1.out) (by omega))).mono ?_); rintro e w3 ⟨rfl, hb3⟩)))
  all_goals
    go_wp2_with fail
    go_ret
    exact ⟨rfl, by (repeat (first | (with_reducible exact Below.refl _ _) | with_reducible assumption | (with_reducible refine below_alloc ?_ _) | (focus ((with_reducible refine below_set ?_ _ _ _ ?_); rotate_left; omega)) | (with_reducible refine Below.drew ?_) | (with_reducible refine below_call ?_ hb3) | (with_reducible refine below_call ?_ hb2) | (with_reducible refine below_call ?_ hb1)))⟩
end Go.Proofs.Ytdmjccbpghilcaa
