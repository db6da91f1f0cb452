/-
  cobweblaw01.WideScales returns true, for every two Ints and every k. My own text.
-/
import Derived.Test.YtnmaodjgniblgaaDoorAlive
namespace Go.Proofs.YtnmaodjgniblgaaDoor
open Go.RowKit Go.Lib
set_option linter.unusedVariables false
set_option linter.unusedSimpArgs false

theorem icmp_mul (x y : Int) : icmp (x * y) 0 = icmp x 0 * icmp y 0 := by
  have pos : ∀ {z : Int}, 0 < z → icmp z 0 = 1 := fun {z} h => by unfold icmp; rw [if_neg (by omega), if_neg (by omega)]
  have neg : ∀ {z : Int}, z < 0 → icmp z 0 = -1 := fun {z} h => by unfold icmp; rw [if_neg (by omega), if_pos h]
  have zer : icmp 0 0 = 0 := rfl
  rcases Int.lt_trichotomy x 0 with hx | rfl | hx <;> rcases Int.lt_trichotomy y 0 with hy | rfl | hy
  · rw [pos (Int.mul_pos_of_neg_of_neg hx hy), neg hx, neg hy]; rfl
  · rw [Int.mul_zero, zer, Int.mul_zero]
  · rw [neg (Int.mul_neg_of_neg_of_pos hx hy), neg hx, pos hy]; rfl
  · rw [Int.zero_mul, zer, Int.zero_mul]
  · rfl
  · rw [Int.zero_mul, zer, Int.zero_mul]
  · rw [neg (Int.mul_neg_of_pos_of_neg hx hy), pos hx, neg hy]; rfl
  · rw [Int.mul_zero, zer, Int.mul_zero]
  · rw [pos (Int.mul_pos hx hy), pos hx, pos hy]; rfl
theorem icmp_range (x y : Int) : -1 ≤ icmp x y ∧ icmp x y ≤ 1 := by unfold icmp; split <;> (try split) <;> omega
theorem Shl_any (h1 l1 n k : Int) (w : World) (H1 : IsW h1 l1 n) (hk : 0 ≤ k) (hk2 : k < 9223372036854775808) :
    Calls Tryd.prog 24 #[.agg #[.int .i64 h1, .int .u64 l1], .int .i64 k] w (RWF (n * 2 ^ k.toNat) w) := by
  by_cases e : n = 0
  · subst e
    obtain ⟨rfl, rfl⟩ := H1.inj isW0
    rw [Int.zero_mul]
    exact (Shl_zero k w hk).mono fun e w' ⟨he, hb⟩ => ⟨0, 0, he, by show IsW 0 0 0; exact isW0, hb⟩
  · exact Shl_pos h1 l1 n k w H1 e hk hk2
theorem pow_fits (k : Int) (h0 : 0 ≤ k) (h1 : k < 127) : fits (1 * 2 ^ k.toNat) = true := by
  obtain ⟨c, rfl⟩ := Int.eq_ofNat_of_zero_le h0
  have h := Nat.pow_le_pow_right (show 0 < 2 by decide) (show c ≤ 126 by omega)
  rw [show (2 : Nat) ^ 126 = 85070591730234615865843651857942052864 by decide] at h
  have e : (1 : Int) * 2 ^ c = ((2 ^ c : Nat) : Int) := by simp
  unfold fits
  rw [Int.toNat_natCast, e, decide_eq_true_eq]
  generalize (2 : Nat) ^ c = P at *
  omega
/-- the library's law, the slot that is written told beside it. -/
theorem takeH {P : Program} {ops : Array Oper} {Q : Exit → Act → World → Prop} {md : Region.Mode} {S : World → Prop} {i t : Nat} {oi : Oper} {v : Value} {fuel : Nat} {listed : Array Bool} {a : Act} {w : World} (hi : ops[i]? = some oi) (hd : oi.dst = some t)
    (hs : Region.noSelect ops = true) (hf : Region.free md ops listed i = true) (hr : (Region.ready md ops listed).contains i = true)
    (hQ : ∀ c a w, Q (.panic c) (a.put oi.dst v) w → Q (.panic c) a w) (hy : YieldsIf P ops S oi v a) (hS : S w)
    (h : wpAnyH P md ops Q S fuel (listed.setIfInBounds i true) (a.put (some t) v) w) : wpAnyH P md ops Q S (fuel + 1) listed a w :=
  wpAnyH_take hi hs hf hr hQ hy hS (by rw [hd]; exact h)
structure ScaleW (w : World) (g3 g10 g12 g14 g16 : Nat) (h1 l1 h2 l2 sa sb ma mb qa qb ra rb : Int) (W : World) : Prop where
  b3 : Box W g3 (.int .i64 h1) (.int .u64 l1)
  b4 : Box W (g3 + 1) (.int .i64 h2) (.int .u64 l2)
  b10 : Box W g10 (.int .i64 sa) (.int .u64 sb)
  b12 : Box W g12 (.int .i64 ma) (.int .u64 mb)
  b14 : Box W g14 (.int .i64 qa) (.int .u64 qb)
  b16 : Box W g16 (.int .i64 ra) (.int .u64 rb)
  below : Below w.heap.size w W
  tab : Tab W
section
variable {w W w1 : World} {g3 g10 g12 g14 g16 : Nat} {h1 l1 h2 l2 sa sb ma mb qa qb ra rb : Int}
theorem ScaleW.call (h : ScaleW w g3 g10 g12 g14 g16 h1 l1 h2 l2 sa sb ma mb qa qb ra rb W) (hb : Below W.heap.size W w1) : ScaleW w g3 g10 g12 g14 g16 h1 l1 h2 l2 sa sb ma mb qa qb ra rb w1 :=
  ⟨h.b3.call hb, h.b4.call hb, h.b10.call hb, h.b12.call hb, h.b14.call hb, h.b16.call hb, below_call h.below hb, Tab.call h.tab hb⟩
theorem ScaleW.s (h : ScaleW w g3 g10 g12 g14 g16 h1 l1 h2 l2 sa sb ma mb qa qb ra rb W) : (W.cell? ⟨g3, 0, none⟩ = some (.int .i64 h1) ∧ W.cell? ⟨g3, 1, none⟩ = some (.int .u64 l1)) ∧ (W.cell? ⟨g3 + 1, 0, none⟩ = some (.int .i64 h2) ∧ W.cell? ⟨g3 + 1, 1, none⟩ = some (.int .u64 l2)) ∧ (W.cell? ⟨g10, 0, none⟩ = some (.int .i64 sa) ∧ W.cell? ⟨g10, 1, none⟩ = some (.int .u64 sb)) ∧ (W.cell? ⟨g12, 0, none⟩ = some (.int .i64 ma) ∧ W.cell? ⟨g12, 1, none⟩ = some (.int .u64 mb)) ∧ (W.cell? ⟨g14, 0, none⟩ = some (.int .i64 qa) ∧ W.cell? ⟨g14, 1, none⟩ = some (.int .u64 qb)) ∧ (W.cell? ⟨g16, 0, none⟩ = some (.int .i64 ra) ∧ W.cell? ⟨g16, 1, none⟩ = some (.int .u64 rb)) := ⟨h.b3.1, h.b4.1, h.b10.1, h.b12.1, h.b14.1, h.b16.1⟩
end
set_option maxHeartbeats 4000000 in
set_option maxRecDepth 100000 in
theorem scales_walk (h1 l1 x h2 l2 y k : Int) (w : World) (H1 : IsW h1 l1 x) (H2 : IsW h2 l2 y) (k0 : 0 ≤ k) (k1 : k ≤ 255) (htab : Tab w) :
    Calls Tryd.prog 11 #[.agg #[.int .i64 h1, .int .u64 l1], .agg #[.int .i64 h2, .int .u64 l2], .int .u8 k] w (RV (.bool true) w) := by
  have m0 : 0 ≤ k % 127 := by omega
  have m1 : k % 127 < 127 := by omega
  have hpf := pow_fits (k % 127) m0 m1
  have sh1 : Hid (∀ a b w, IsW a b 1 → Calls Tryd.prog 24 #[.agg #[.int .i64 a, .int .u64 b], .int .i64 (k % 127)] w (RWF (1 * 2 ^ (k % 127).toNat) w)) := fun a b w h => Shl_any a b 1 _ w h m0 (by omega)
  have sh2 : Hid (∀ w, Calls Tryd.prog 24 #[.agg #[.int .i64 h1, .int .u64 l1], .int .i64 (k % 127)] w (RWF (x * 2 ^ (k % 127).toNat) w)) := fun w => Shl_any h1 l1 x _ w H1 m0 (by omega)
  generalize (2 : Int) ^ (k % 127).toNat = E at *
  rw [Int.one_mul] at sh1 hpf
  have ml1 : Hid (∀ a b w, IsW a b E → Calls Tryd.prog 20 #[.agg #[.int .i64 h1, .int .u64 l1], .agg #[.int .i64 a, .int .u64 b]] w (RWF (x * E) w)) := fun a b w h => Mul_any h1 l1 x a b E w H1 h
  have ml2 : Hid (∀ w, Calls Tryd.prog 20 #[.agg #[.int .i64 h1, .int .u64 l1], .agg #[.int .i64 h2, .int .u64 l2]] w (RWF (x * y) w)) := fun w => Mul_any h1 l1 x h2 l2 y w H1 H2
  have ml3 : Hid (∀ w, Calls Tryd.prog 20 #[.agg #[.int .i64 h2, .int .u64 l2], .agg #[.int .i64 h1, .int .u64 l1]] w (RWF (x * y) w)) := fun w => by rw [Int.mul_comm]; exact Mul_any h2 l2 y h1 l1 x w H2 H1
  have hsgn := icmp_mul x y
  have sg1 : Hid (∀ w, Calls Tryd.prog 28 #[.agg #[.int .i64 h1, .int .u64 l1]] w (RV (.int .i64 (icmp x 0)) w)) := fun w => Sign_any _ _ _ w H1
  have sg2 : Hid (∀ w, Calls Tryd.prog 28 #[.agg #[.int .i64 h2, .int .u64 l2]] w (RV (.int .i64 (icmp y 0)) w)) := fun w => Sign_any _ _ _ w H2
  have sg3 : Hid (∀ a b w, IsW a b (x * y) → Calls Tryd.prog 28 #[.agg #[.int .i64 a, .int .u64 b]] w (RV (.int .i64 (icmp (x * y) 0)) w)) := fun a b w h => Sign_any _ _ _ w h
  have r1 := icmp_range x 0; have r2 := icmp_range y 0; have r3 := icmp_range (x * y) 0
  generalize icmp x 0 = cx at *
  generalize icmp y 0 = cy at *
  generalize icmp (x * y) 0 = cz at *
  generalize x * y = Z at *
  generalize x * E = V at *
  have HS := Lib.hid hsgn; have HP := Lib.hid hpf
  clear hsgn hpf
  go_enter Tryd.func11, Tryd.ntmps11
  go_wp2_with fail
  refine (Of_any 1 _ (by omega) (by omega)).mono ?_
  rintro e w1 ⟨a1, b1, rfl, g1, hb1⟩
  go_wp2_with fail
  refine (sh1.out _ _ _ g1).mono ?_
  rintro e w2 ⟨pa, pb, rfl, hp, hb2⟩
  rw [if_pos HP.out] at hp
  have B_w2_0 : Box w2 (w.heap.size) (.int .i64 h1) (.int .u64 l1) := (by (repeat (first | with_reducible assumption | (focus ((with_reducible refine Box.new ?_); simp; done)) | (with_reducible refine Box.alloc ?_ _) | (with_reducible refine Box.drew ?_) | (with_reducible refine Box.put ?_) | (focus ((with_reducible refine Box.set ?_ _ ?_); rotate_left; omega)) | (focus ((with_reducible apply HasBox.of); with_reducible assumption)) | (focus ((with_reducible refine HasBox.new ?_); simp; done)) | (with_reducible refine HasBox.set ?_ _ _) | (with_reducible refine HasBox.drew ?_) | (with_reducible refine HasBox.alloc ?_ _) | (with_reducible refine Box.call ?_ hb2) | (with_reducible refine HasBox.call ?_ hb2) | (with_reducible refine Box.call ?_ hb1) | (with_reducible refine HasBox.call ?_ hb1)))); obtain ⟨⟨c_w2_0, d_w2_0⟩, f_w2_0, g_w2_0⟩ := id B_w2_0; have B_w2_1 : Box w2 (w.heap.size + 1) (.int .i64 h2) (.int .u64 l2) := (by (repeat (first | with_reducible assumption | (focus ((with_reducible refine Box.new ?_); simp; done)) | (with_reducible refine Box.alloc ?_ _) | (with_reducible refine Box.drew ?_) | (with_reducible refine Box.put ?_) | (focus ((with_reducible refine Box.set ?_ _ ?_); rotate_left; omega)) | (focus ((with_reducible apply HasBox.of); with_reducible assumption)) | (focus ((with_reducible refine HasBox.new ?_); simp; done)) | (with_reducible refine HasBox.set ?_ _ _) | (with_reducible refine HasBox.drew ?_) | (with_reducible refine HasBox.alloc ?_ _) | (with_reducible refine Box.call ?_ hb2) | (with_reducible refine HasBox.call ?_ hb2) | (with_reducible refine Box.call ?_ hb1) | (with_reducible refine HasBox.call ?_ hb1)))); obtain ⟨⟨c_w2_1, d_w2_1⟩, f_w2_1, g_w2_1⟩ := id B_w2_1; have hz_hb1 := Below.size hb1; (try simp at hz_hb1); have ne_hb1_0 : ¬ w1.heap.size = w.heap.size := (by omega); have ne_hb1_1 : ¬ w1.heap.size = w.heap.size + 1 := (by omega); have en_hb1_0 : ¬ w.heap.size = w1.heap.size := (by omega); have en_hb1_1 : ¬ w.heap.size + 1 = w1.heap.size := (by omega); have lt_hb1_0 : w.heap.size < w1.heap.size := (by omega); have lt_hb1_1 : w.heap.size + 1 < w1.heap.size := (by omega); have hz_hb2 := Below.size hb2; (try simp at hz_hb2); have ne_hb2_0 : ¬ w2.heap.size = w.heap.size := (by omega); have ne_hb2_1 : ¬ w2.heap.size = w.heap.size + 1 := (by omega); have en_hb2_0 : ¬ w.heap.size = w2.heap.size := (by omega); have en_hb2_1 : ¬ w.heap.size + 1 = w2.heap.size := (by omega); have lt_hb2_0 : w.heap.size < w2.heap.size := (by omega); have lt_hb2_1 : w.heap.size + 1 < w2.heap.size := (by omega)
  go_wp2_with fail
  refine (sh2.out _).mono ?_
  rintro e w3 ⟨sa, sb, rfl, hs, hb3⟩
  have B_w3_0 : Box w3 (w.heap.size) (.int .i64 h1) (.int .u64 l1) := (by (repeat (first | with_reducible assumption | (focus ((with_reducible refine Box.new ?_); simp; done)) | (with_reducible refine Box.alloc ?_ _) | (with_reducible refine Box.drew ?_) | (with_reducible refine Box.put ?_) | (focus ((with_reducible refine Box.set ?_ _ ?_); rotate_left; omega)) | (focus ((with_reducible apply HasBox.of); with_reducible assumption)) | (focus ((with_reducible refine HasBox.new ?_); simp; done)) | (with_reducible refine HasBox.set ?_ _ _) | (with_reducible refine HasBox.drew ?_) | (with_reducible refine HasBox.alloc ?_ _) | (with_reducible refine Box.call ?_ hb3) | (with_reducible refine HasBox.call ?_ hb3) | (with_reducible refine Box.call ?_ hb2) | (with_reducible refine HasBox.call ?_ hb2) | (with_reducible refine Box.call ?_ hb1) | (with_reducible refine HasBox.call ?_ hb1)))); obtain ⟨⟨c_w3_0, d_w3_0⟩, f_w3_0, g_w3_0⟩ := id B_w3_0; have B_w3_1 : Box w3 (w.heap.size + 1) (.int .i64 h2) (.int .u64 l2) := (by (repeat (first | with_reducible assumption | (focus ((with_reducible refine Box.new ?_); simp; done)) | (with_reducible refine Box.alloc ?_ _) | (with_reducible refine Box.drew ?_) | (with_reducible refine Box.put ?_) | (focus ((with_reducible refine Box.set ?_ _ ?_); rotate_left; omega)) | (focus ((with_reducible apply HasBox.of); with_reducible assumption)) | (focus ((with_reducible refine HasBox.new ?_); simp; done)) | (with_reducible refine HasBox.set ?_ _ _) | (with_reducible refine HasBox.drew ?_) | (with_reducible refine HasBox.alloc ?_ _) | (with_reducible refine Box.call ?_ hb3) | (with_reducible refine HasBox.call ?_ hb3) | (with_reducible refine Box.call ?_ hb2) | (with_reducible refine HasBox.call ?_ hb2) | (with_reducible refine Box.call ?_ hb1) | (with_reducible refine HasBox.call ?_ hb1)))); obtain ⟨⟨c_w3_1, d_w3_1⟩, f_w3_1, g_w3_1⟩ := id B_w3_1; have B_w3_2 : Box w3 (w2.heap.size) (.int .i64 pa) (.int .u64 pb) := (by (repeat (first | with_reducible assumption | (focus ((with_reducible refine Box.new ?_); simp; done)) | (with_reducible refine Box.alloc ?_ _) | (with_reducible refine Box.drew ?_) | (with_reducible refine Box.put ?_) | (focus ((with_reducible refine Box.set ?_ _ ?_); rotate_left; omega)) | (focus ((with_reducible apply HasBox.of); with_reducible assumption)) | (focus ((with_reducible refine HasBox.new ?_); simp; done)) | (with_reducible refine HasBox.set ?_ _ _) | (with_reducible refine HasBox.drew ?_) | (with_reducible refine HasBox.alloc ?_ _) | (with_reducible refine Box.call ?_ hb3) | (with_reducible refine HasBox.call ?_ hb3) | (with_reducible refine Box.call ?_ hb2) | (with_reducible refine HasBox.call ?_ hb2) | (with_reducible refine Box.call ?_ hb1) | (with_reducible refine HasBox.call ?_ hb1)))); obtain ⟨⟨c_w3_2, d_w3_2⟩, f_w3_2, g_w3_2⟩ := id B_w3_2; have hz_hb3 := Below.size hb3; (try simp at hz_hb3); have ne_hb3_0 : ¬ w3.heap.size = w.heap.size := (by omega); have ne_hb3_1 : ¬ w3.heap.size = w.heap.size + 1 := (by omega); have en_hb3_0 : ¬ w.heap.size = w3.heap.size := (by omega); have en_hb3_1 : ¬ w.heap.size + 1 = w3.heap.size := (by omega); have lt_hb3_0 : w.heap.size < w3.heap.size := (by omega); have lt_hb3_1 : w.heap.size + 1 < w3.heap.size := (by omega)
  have lt23 := Box.lt B_w3_2; have ne23 := Nat.ne_of_gt (Box.lt B_w3_2)
  go_wp2_with fail
  refine (ml1.out _ _ _ hp).mono ?_
  rintro e w4 ⟨ma, mb, rfl, hm, hb4⟩
  have B_w4_0 : Box w4 (w.heap.size) (.int .i64 h1) (.int .u64 l1) := (by (repeat (first | with_reducible assumption | (focus ((with_reducible refine Box.new ?_); simp; done)) | (with_reducible refine Box.alloc ?_ _) | (with_reducible refine Box.drew ?_) | (with_reducible refine Box.put ?_) | (focus ((with_reducible refine Box.set ?_ _ ?_); rotate_left; omega)) | (focus ((with_reducible apply HasBox.of); with_reducible assumption)) | (focus ((with_reducible refine HasBox.new ?_); simp; done)) | (with_reducible refine HasBox.set ?_ _ _) | (with_reducible refine HasBox.drew ?_) | (with_reducible refine HasBox.alloc ?_ _) | (with_reducible refine Box.call ?_ hb4) | (with_reducible refine HasBox.call ?_ hb4) | (with_reducible refine Box.call ?_ hb3) | (with_reducible refine HasBox.call ?_ hb3) | (with_reducible refine Box.call ?_ hb2) | (with_reducible refine HasBox.call ?_ hb2) | (with_reducible refine Box.call ?_ hb1) | (with_reducible refine HasBox.call ?_ hb1)))); obtain ⟨⟨c_w4_0, d_w4_0⟩, f_w4_0, g_w4_0⟩ := id B_w4_0; have B_w4_1 : Box w4 (w.heap.size + 1) (.int .i64 h2) (.int .u64 l2) := (by (repeat (first | with_reducible assumption | (focus ((with_reducible refine Box.new ?_); simp; done)) | (with_reducible refine Box.alloc ?_ _) | (with_reducible refine Box.drew ?_) | (with_reducible refine Box.put ?_) | (focus ((with_reducible refine Box.set ?_ _ ?_); rotate_left; omega)) | (focus ((with_reducible apply HasBox.of); with_reducible assumption)) | (focus ((with_reducible refine HasBox.new ?_); simp; done)) | (with_reducible refine HasBox.set ?_ _ _) | (with_reducible refine HasBox.drew ?_) | (with_reducible refine HasBox.alloc ?_ _) | (with_reducible refine Box.call ?_ hb4) | (with_reducible refine HasBox.call ?_ hb4) | (with_reducible refine Box.call ?_ hb3) | (with_reducible refine HasBox.call ?_ hb3) | (with_reducible refine Box.call ?_ hb2) | (with_reducible refine HasBox.call ?_ hb2) | (with_reducible refine Box.call ?_ hb1) | (with_reducible refine HasBox.call ?_ hb1)))); obtain ⟨⟨c_w4_1, d_w4_1⟩, f_w4_1, g_w4_1⟩ := id B_w4_1; have hz_hb4 := Below.size hb4; (try simp at hz_hb4); have ne_hb4_0 : ¬ w4.heap.size = w.heap.size := (by omega); have ne_hb4_1 : ¬ w4.heap.size = w.heap.size + 1 := (by omega); have en_hb4_0 : ¬ w.heap.size = w4.heap.size := (by omega); have en_hb4_1 : ¬ w.heap.size + 1 = w4.heap.size := (by omega); have lt_hb4_0 : w.heap.size < w4.heap.size := (by omega); have lt_hb4_1 : w.heap.size + 1 < w4.heap.size := (by omega)
  go_wp2_with fail
  refine (ml2.out _).mono ?_
  rintro e w5 ⟨qa, qb, rfl, hq, hb5⟩
  have B_w5_0 : Box w5 (w.heap.size) (.int .i64 h1) (.int .u64 l1) := (by (repeat (first | with_reducible assumption | (focus ((with_reducible refine Box.new ?_); simp; done)) | (with_reducible refine Box.alloc ?_ _) | (with_reducible refine Box.drew ?_) | (with_reducible refine Box.put ?_) | (focus ((with_reducible refine Box.set ?_ _ ?_); rotate_left; omega)) | (focus ((with_reducible apply HasBox.of); with_reducible assumption)) | (focus ((with_reducible refine HasBox.new ?_); simp; done)) | (with_reducible refine HasBox.set ?_ _ _) | (with_reducible refine HasBox.drew ?_) | (with_reducible refine HasBox.alloc ?_ _) | (with_reducible refine Box.call ?_ hb5) | (with_reducible refine HasBox.call ?_ hb5) | (with_reducible refine Box.call ?_ hb4) | (with_reducible refine HasBox.call ?_ hb4) | (with_reducible refine Box.call ?_ hb3) | (with_reducible refine HasBox.call ?_ hb3) | (with_reducible refine Box.call ?_ hb2) | (with_reducible refine HasBox.call ?_ hb2) | (with_reducible refine Box.call ?_ hb1) | (with_reducible refine HasBox.call ?_ hb1)))); obtain ⟨⟨c_w5_0, d_w5_0⟩, f_w5_0, g_w5_0⟩ := id B_w5_0; have B_w5_1 : Box w5 (w.heap.size + 1) (.int .i64 h2) (.int .u64 l2) := (by (repeat (first | with_reducible assumption | (focus ((with_reducible refine Box.new ?_); simp; done)) | (with_reducible refine Box.alloc ?_ _) | (with_reducible refine Box.drew ?_) | (with_reducible refine Box.put ?_) | (focus ((with_reducible refine Box.set ?_ _ ?_); rotate_left; omega)) | (focus ((with_reducible apply HasBox.of); with_reducible assumption)) | (focus ((with_reducible refine HasBox.new ?_); simp; done)) | (with_reducible refine HasBox.set ?_ _ _) | (with_reducible refine HasBox.drew ?_) | (with_reducible refine HasBox.alloc ?_ _) | (with_reducible refine Box.call ?_ hb5) | (with_reducible refine HasBox.call ?_ hb5) | (with_reducible refine Box.call ?_ hb4) | (with_reducible refine HasBox.call ?_ hb4) | (with_reducible refine Box.call ?_ hb3) | (with_reducible refine HasBox.call ?_ hb3) | (with_reducible refine Box.call ?_ hb2) | (with_reducible refine HasBox.call ?_ hb2) | (with_reducible refine Box.call ?_ hb1) | (with_reducible refine HasBox.call ?_ hb1)))); obtain ⟨⟨c_w5_1, d_w5_1⟩, f_w5_1, g_w5_1⟩ := id B_w5_1; have hz_hb5 := Below.size hb5; (try simp at hz_hb5); have ne_hb5_0 : ¬ w5.heap.size = w.heap.size := (by omega); have ne_hb5_1 : ¬ w5.heap.size = w.heap.size + 1 := (by omega); have en_hb5_0 : ¬ w.heap.size = w5.heap.size := (by omega); have en_hb5_1 : ¬ w.heap.size + 1 = w5.heap.size := (by omega); have lt_hb5_0 : w.heap.size < w5.heap.size := (by omega); have lt_hb5_1 : w.heap.size + 1 < w5.heap.size := (by omega)
  go_wp2_with fail
  refine (ml3.out _).mono ?_
  rintro e w6 ⟨ra, rb, rfl, hr, hb6⟩
  go_wp2_with fail
  refine wp_at ?_
  intro W hW
  have hbW : Below w.heap.size w W := by rw [hW]; (repeat (first | (with_reducible exact Below.refl _ _) | with_reducible assumption | (with_reducible refine below_alloc ?_ _) | (focus ((with_reducible refine below_set ?_ _ _ _ ?_); rotate_left; omega)) | (with_reducible refine Below.drew ?_) | (with_reducible refine below_call ?_ hb6) | (with_reducible refine below_call ?_ hb5) | (with_reducible refine below_call ?_ hb4) | (with_reducible refine below_call ?_ hb3) | (with_reducible refine below_call ?_ hb2) | (with_reducible refine below_call ?_ hb1)))
  have G3 : Box W w.heap.size (.int .i64 h1) (.int .u64 l1) := by rw [hW]; (repeat (first | with_reducible assumption | (focus ((with_reducible refine Box.new ?_); simp; done)) | (with_reducible refine Box.alloc ?_ _) | (with_reducible refine Box.drew ?_) | (with_reducible refine Box.put ?_) | (focus ((with_reducible refine Box.set ?_ _ ?_); rotate_left; omega)) | (focus ((with_reducible apply HasBox.of); with_reducible assumption)) | (focus ((with_reducible refine HasBox.new ?_); simp; done)) | (with_reducible refine HasBox.set ?_ _ _) | (with_reducible refine HasBox.drew ?_) | (with_reducible refine HasBox.alloc ?_ _) | (with_reducible refine Box.call ?_ hb6) | (with_reducible refine HasBox.call ?_ hb6) | (with_reducible refine Box.call ?_ hb5) | (with_reducible refine HasBox.call ?_ hb5) | (with_reducible refine Box.call ?_ hb4) | (with_reducible refine HasBox.call ?_ hb4) | (with_reducible refine Box.call ?_ hb3) | (with_reducible refine HasBox.call ?_ hb3) | (with_reducible refine Box.call ?_ hb2) | (with_reducible refine HasBox.call ?_ hb2) | (with_reducible refine Box.call ?_ hb1) | (with_reducible refine HasBox.call ?_ hb1)))
  have G4 : Box W (w.heap.size + 1) (.int .i64 h2) (.int .u64 l2) := by rw [hW]; (repeat (first | with_reducible assumption | (focus ((with_reducible refine Box.new ?_); simp; done)) | (with_reducible refine Box.alloc ?_ _) | (with_reducible refine Box.drew ?_) | (with_reducible refine Box.put ?_) | (focus ((with_reducible refine Box.set ?_ _ ?_); rotate_left; omega)) | (focus ((with_reducible apply HasBox.of); with_reducible assumption)) | (focus ((with_reducible refine HasBox.new ?_); simp; done)) | (with_reducible refine HasBox.set ?_ _ _) | (with_reducible refine HasBox.drew ?_) | (with_reducible refine HasBox.alloc ?_ _) | (with_reducible refine Box.call ?_ hb6) | (with_reducible refine HasBox.call ?_ hb6) | (with_reducible refine Box.call ?_ hb5) | (with_reducible refine HasBox.call ?_ hb5) | (with_reducible refine Box.call ?_ hb4) | (with_reducible refine HasBox.call ?_ hb4) | (with_reducible refine Box.call ?_ hb3) | (with_reducible refine HasBox.call ?_ hb3) | (with_reducible refine Box.call ?_ hb2) | (with_reducible refine HasBox.call ?_ hb2) | (with_reducible refine Box.call ?_ hb1) | (with_reducible refine HasBox.call ?_ hb1)))
  have G10 : Box W w3.heap.size (.int .i64 sa) (.int .u64 sb) := by rw [hW]; (repeat (first | with_reducible assumption | (focus ((with_reducible refine Box.new ?_); simp; done)) | (with_reducible refine Box.alloc ?_ _) | (with_reducible refine Box.drew ?_) | (with_reducible refine Box.put ?_) | (focus ((with_reducible refine Box.set ?_ _ ?_); rotate_left; omega)) | (focus ((with_reducible apply HasBox.of); with_reducible assumption)) | (focus ((with_reducible refine HasBox.new ?_); simp; done)) | (with_reducible refine HasBox.set ?_ _ _) | (with_reducible refine HasBox.drew ?_) | (with_reducible refine HasBox.alloc ?_ _) | (with_reducible refine Box.call ?_ hb6) | (with_reducible refine HasBox.call ?_ hb6) | (with_reducible refine Box.call ?_ hb5) | (with_reducible refine HasBox.call ?_ hb5) | (with_reducible refine Box.call ?_ hb4) | (with_reducible refine HasBox.call ?_ hb4)))
  have G12 : Box W w4.heap.size (.int .i64 ma) (.int .u64 mb) := by rw [hW]; (repeat (first | with_reducible assumption | (focus ((with_reducible refine Box.new ?_); simp; done)) | (with_reducible refine Box.alloc ?_ _) | (with_reducible refine Box.drew ?_) | (with_reducible refine Box.put ?_) | (focus ((with_reducible refine Box.set ?_ _ ?_); rotate_left; omega)) | (focus ((with_reducible apply HasBox.of); with_reducible assumption)) | (focus ((with_reducible refine HasBox.new ?_); simp; done)) | (with_reducible refine HasBox.set ?_ _ _) | (with_reducible refine HasBox.drew ?_) | (with_reducible refine HasBox.alloc ?_ _) | (with_reducible refine Box.call ?_ hb6) | (with_reducible refine HasBox.call ?_ hb6) | (with_reducible refine Box.call ?_ hb5) | (with_reducible refine HasBox.call ?_ hb5)))
  have G14 : Box W w5.heap.size (.int .i64 qa) (.int .u64 qb) := by rw [hW]; (repeat (first | with_reducible assumption | (focus ((with_reducible refine Box.new ?_); simp; done)) | (with_reducible refine Box.alloc ?_ _) | (with_reducible refine Box.drew ?_) | (with_reducible refine Box.put ?_) | (focus ((with_reducible refine Box.set ?_ _ ?_); rotate_left; omega)) | (focus ((with_reducible apply HasBox.of); with_reducible assumption)) | (focus ((with_reducible refine HasBox.new ?_); simp; done)) | (with_reducible refine HasBox.set ?_ _ _) | (with_reducible refine HasBox.drew ?_) | (with_reducible refine HasBox.alloc ?_ _) | (with_reducible refine Box.call ?_ hb6) | (with_reducible refine HasBox.call ?_ hb6)))
  have G16 : Box W w6.heap.size (.int .i64 ra) (.int .u64 rb) := by rw [hW]; (repeat (first | with_reducible assumption | (focus ((with_reducible refine Box.new ?_); simp; done)) | (with_reducible refine Box.alloc ?_ _) | (with_reducible refine Box.drew ?_) | (with_reducible refine Box.put ?_) | (focus ((with_reducible refine Box.set ?_ _ ?_); rotate_left; omega)) | (focus ((with_reducible apply HasBox.of); with_reducible assumption)) | (focus ((with_reducible refine HasBox.new ?_); simp; done)) | (with_reducible refine HasBox.set ?_ _ _) | (with_reducible refine HasBox.drew ?_) | (with_reducible refine HasBox.alloc ?_ _)))
  have tW : Tab W := Tab.call htab hbW
  have E1 := eq_of hs hm
  have E2 := eq_of hq hr
  have A0 : ScaleW w w.heap.size w3.heap.size w4.heap.size w5.heap.size w6.heap.size h1 l1 h2 l2 sa sb ma mb qa qb ra rb W.drew := ⟨G3.drew, G4.drew, G10.drew, G12.drew, G14.drew, G16.drew, hbW.drew, Tab.call tW ((Below.refl _ _).drew)⟩
  have s3 := G3.1; have s4 := G4.1; have s10 := G10.1; have s12 := G12.1; have s14 := G14.1; have s16 := G16.1
  clear hW hb6 hb5 hb4 hb3 hb2 hb1 g1 hp htab G3 G4 G10 G12 G14 G16 hbW tW B_w2_0 c_w2_0 d_w2_0 f_w2_0 g_w2_0 B_w2_1 c_w2_1 d_w2_1 f_w2_1 g_w2_1 B_w3_0 c_w3_0 d_w3_0 f_w3_0 g_w3_0 B_w3_1 c_w3_1 d_w3_1 f_w3_1 g_w3_1 B_w3_2 c_w3_2 d_w3_2 f_w3_2 g_w3_2 B_w4_0 c_w4_0 d_w4_0 f_w4_0 g_w4_0 B_w4_1 c_w4_1 d_w4_1 f_w4_1 g_w4_1 B_w5_0 c_w5_0 d_w5_0 f_w5_0 g_w5_0 B_w5_1 c_w5_1 d_w5_1 f_w5_1 g_w5_1 hz_hb1 hz_hb2 hz_hb3 hz_hb4 hz_hb5 ne_hb1_0 ne_hb1_1 en_hb1_0 en_hb1_1 lt_hb1_0 lt_hb1_1 ne_hb2_0 ne_hb2_1 en_hb2_0 en_hb2_1 lt_hb2_0 lt_hb2_1 ne_hb3_0 ne_hb3_1 en_hb3_0 en_hb3_1 lt_hb3_0 lt_hb3_1 ne_hb4_0 ne_hb4_1 en_hb4_0 en_hb4_1 lt_hb4_0 lt_hb4_1 ne_hb5_0 ne_hb5_1 en_hb5_0 en_hb5_1 lt_hb5_0 lt_hb5_1 lt23 ne23
  generalize w3.heap.size = g10 at *
  generalize w4.heap.size = g12 at *
  generalize w5.heap.size = g14 at *
  generalize w6.heap.size = g16 at *
  generalize hg3 : w.heap.size = g3 at *
  have HG := Lib.hid hg3
  clear hg3
  have hw1 : IntKind.i64.wrap (cx * cy) = cz := by rw [← HS.out, IntKind.wrap_i64]; omega
  have hw2 : wrap64 (cx * cy) = cz := by rw [← HS.out]; unfold wrap64; omega
  by_cases hf : fits Z = true
  · rw [if_pos hf] at hq
    go_region_held3 (fun w' => (w'.cell? ⟨g3, 0, none⟩ = some (.int .i64 h1) ∧ w'.cell? ⟨g3, 1, none⟩ = some (.int .u64 l1)) ∧ (w'.cell? ⟨g3 + 1, 0, none⟩ = some (.int .i64 h2) ∧ w'.cell? ⟨g3 + 1, 1, none⟩ = some (.int .u64 l2)) ∧ (w'.cell? ⟨g10, 0, none⟩ = some (.int .i64 sa) ∧ w'.cell? ⟨g10, 1, none⟩ = some (.int .u64 sb)) ∧ (w'.cell? ⟨g12, 0, none⟩ = some (.int .i64 ma) ∧ w'.cell? ⟨g12, 1, none⟩ = some (.int .u64 mb)) ∧ (w'.cell? ⟨g14, 0, none⟩ = some (.int .i64 qa) ∧ w'.cell? ⟨g14, 1, none⟩ = some (.int .u64 qb)) ∧ (w'.cell? ⟨g16, 0, none⟩ = some (.int .i64 ra) ∧ w'.cell? ⟨g16, 1, none⟩ = some (.int .u64 rb)))
      (first | with_reducible exact A4.s | with_reducible exact A3.s | with_reducible exact A2.s | with_reducible exact A1.s | with_reducible exact A0.s)
      (first
        | (go_at_call 16; ((with_reducible refine (alive_any _ A0.tab).mono ?_); rintro e v1 ⟨rfl, hb1⟩; have A1 := A0.call hb1; clear hb1))
        | (go_at_call 28; ((with_reducible refine (sg3.out _ _ _ hq).mono ?_); rintro e v2 ⟨rfl, hb2⟩; have A2 := A1.call hb2; clear hb2))
        | (go_at_call 28; ((with_reducible refine (sg1.out _).mono ?_); rintro e v3 ⟨rfl, hb3⟩; have A3 := A2.call hb3; clear hb3))
        | (go_at_call 28; ((with_reducible refine (sg2.out _).mono ?_); rintro e v4 ⟨rfl, hb4⟩; have A4 := A3.call hb4; clear hb4)))
    all_goals
      go_wp2_with fail
      go_ret
      exact ⟨rfl, A4.below⟩
  · have hf' : fits Z = false := by simpa using hf
    clear hf
    have hS0 := A0.s
    refine wp_region_held_drew (S := fun w' => (w'.cell? ⟨g3, 0, none⟩ = some (.int .i64 h1) ∧ w'.cell? ⟨g3, 1, none⟩ = some (.int .u64 l1)) ∧ (w'.cell? ⟨g3 + 1, 0, none⟩ = some (.int .i64 h2) ∧ w'.cell? ⟨g3 + 1, 1, none⟩ = some (.int .u64 l2)) ∧ (w'.cell? ⟨g10, 0, none⟩ = some (.int .i64 sa) ∧ w'.cell? ⟨g10, 1, none⟩ = some (.int .u64 sb)) ∧ (w'.cell? ⟨g12, 0, none⟩ = some (.int .i64 ma) ∧ w'.cell? ⟨g12, 1, none⟩ = some (.int .u64 mb)) ∧ (w'.cell? ⟨g14, 0, none⟩ = some (.int .i64 qa) ∧ w'.cell? ⟨g14, 1, none⟩ = some (.int .u64 qb)) ∧ (w'.cell? ⟨g16, 0, none⟩ = some (.int .i64 ra) ∧ w'.cell? ⟨g16, 1, none⟩ = some (.int .u64 rb))) (by kernel_rfl) hS0 (fun _ => ?_)
    refine wpAnyH_ready (rs := [0]) (by kernel_rfl) (by simp) ?_
    refine AllReadyH.cons rfl (fun K hK => ?_) AllReadyH.nil
    go_simp
    refine (alive_any _ A0.tab).mono ?_
    rintro e v1 ⟨rfl, hb1⟩
    have A1 := A0.call hb1
    have hS1 := A1.s
    go_wp2_with fail
    refine hK.out _ _ hS1 (fun _ => ?_)
    clear hK K hb1 hS0
    refine takeH (i := 1) (t := 52) (v := ?v1) rfl rfl (by kernel_rfl) (by kernel_rfl) (by kernel_rfl) (fun _ _ _ h => h) (Or.inl ⟨by rfl, ?y1⟩) hS1 ?r1
    case y1 =>
      intro w hSw
      obtain ⟨⟨_, _⟩, ⟨_, _⟩, ⟨_, _⟩, ⟨_, _⟩, ⟨_, _⟩, _, _⟩ := id hSw
      go_simp
      try (with_reducible rfl)
    simp only [Act.put, List.setIfInBounds_toArray, List.set_cons_zero, List.set_cons_succ]
    refine takeH (i := 2) (t := 53) (v := ?v2) rfl rfl (by kernel_rfl) (by kernel_rfl) (by kernel_rfl) (fun _ _ _ h => h) (Or.inl ⟨by rfl, ?y2⟩) hS1 ?r2
    case y2 =>
      intro w hSw
      obtain ⟨⟨_, _⟩, ⟨_, _⟩, ⟨_, _⟩, ⟨_, _⟩, ⟨_, _⟩, _, _⟩ := id hSw
      go_simp
      try (with_reducible rfl)
    simp only [Act.put, List.setIfInBounds_toArray, List.set_cons_zero, List.set_cons_succ]
    refine takeH (i := 3) (t := 54) (v := ?v3) rfl rfl (by kernel_rfl) (by kernel_rfl) (by kernel_rfl) (fun _ _ _ h => h) (Or.inl ⟨by rfl, ?y3⟩) hS1 ?r3
    case y3 =>
      intro w hSw
      obtain ⟨⟨_, _⟩, ⟨_, _⟩, ⟨_, _⟩, ⟨_, _⟩, ⟨_, _⟩, _, _⟩ := id hSw
      go_simp
      try (with_reducible rfl)
    simp only [Act.put, List.setIfInBounds_toArray, List.set_cons_zero, List.set_cons_succ]
    refine takeH (i := 4) (t := 55) (v := ?v4) rfl rfl (by kernel_rfl) (by kernel_rfl) (by kernel_rfl) (fun _ _ _ h => h) (Or.inl ⟨by rfl, ?y4⟩) hS1 ?r4
    case y4 =>
      intro w hSw
      obtain ⟨⟨_, _⟩, ⟨_, _⟩, ⟨_, _⟩, ⟨_, _⟩, ⟨_, _⟩, _, _⟩ := id hSw
      go_simp
      try (with_reducible rfl)
    simp only [Act.put, List.setIfInBounds_toArray, List.set_cons_zero, List.set_cons_succ]
    refine takeH (i := 5) (t := 56) (v := ?v5) rfl rfl (by kernel_rfl) (by kernel_rfl) (by kernel_rfl) (fun _ _ _ h => h) (Or.inl ⟨by rfl, ?y5⟩) hS1 ?r5
    case y5 =>
      intro w hSw
      obtain ⟨⟨_, _⟩, ⟨_, _⟩, ⟨_, _⟩, ⟨_, _⟩, ⟨_, _⟩, _, _⟩ := id hSw
      go_simp
      try (with_reducible rfl)
    simp only [Act.put, List.setIfInBounds_toArray, List.set_cons_zero, List.set_cons_succ]
    refine takeH (i := 6) (t := 57) (v := ?v6) rfl rfl (by kernel_rfl) (by kernel_rfl) (by kernel_rfl) (fun _ _ _ h => h) (Or.inl ⟨by rfl, ?y6⟩) hS1 ?r6
    case y6 =>
      intro w hSw
      obtain ⟨⟨_, _⟩, ⟨_, _⟩, ⟨_, _⟩, ⟨_, _⟩, ⟨_, _⟩, _, _⟩ := id hSw
      go_simp
      try (with_reducible rfl)
    simp only [Act.put, List.setIfInBounds_toArray, List.set_cons_zero, List.set_cons_succ]
    refine takeH (i := 7) (t := 58) (v := ?v7) rfl rfl (by kernel_rfl) (by kernel_rfl) (by kernel_rfl) (fun _ _ _ h => h) (Or.inl ⟨by rfl, ?y7⟩) hS1 ?r7
    case y7 =>
      intro w hSw
      obtain ⟨⟨_, _⟩, ⟨_, _⟩, ⟨_, _⟩, ⟨_, _⟩, ⟨_, _⟩, _, _⟩ := id hSw
      go_simp
      try (with_reducible rfl)
    simp only [Act.put, List.setIfInBounds_toArray, List.set_cons_zero, List.set_cons_succ]
    refine takeH (i := 8) (t := 59) (v := ?v8) rfl rfl (by kernel_rfl) (by kernel_rfl) (by kernel_rfl) (fun _ _ _ h => h) (Or.inl ⟨by rfl, ?y8⟩) hS1 ?r8
    case y8 =>
      intro w hSw
      obtain ⟨⟨_, _⟩, ⟨_, _⟩, ⟨_, _⟩, ⟨_, _⟩, ⟨_, _⟩, _, _⟩ := id hSw
      go_simp
      try (with_reducible rfl)
    simp only [Act.put, List.setIfInBounds_toArray, List.set_cons_zero, List.set_cons_succ]
    refine takeH (i := 9) (t := 60) (v := ?v9) rfl rfl (by kernel_rfl) (by kernel_rfl) (by kernel_rfl) (fun _ _ _ h => h) (Or.inl ⟨by rfl, ?y9⟩) hS1 ?r9
    case y9 =>
      intro w hSw
      obtain ⟨⟨_, _⟩, ⟨_, _⟩, ⟨_, _⟩, ⟨_, _⟩, ⟨_, _⟩, _, _⟩ := id hSw
      go_simp
      try (with_reducible rfl)
    simp only [Act.put, List.setIfInBounds_toArray, List.set_cons_zero, List.set_cons_succ]
    refine takeH (i := 10) (t := 61) (v := ?v10) rfl rfl (by kernel_rfl) (by kernel_rfl) (by kernel_rfl) (fun _ _ _ h => h) (Or.inl ⟨by rfl, ?y10⟩) hS1 ?r10
    case y10 =>
      intro w hSw
      obtain ⟨⟨_, _⟩, ⟨_, _⟩, ⟨_, _⟩, ⟨_, _⟩, ⟨_, _⟩, _, _⟩ := id hSw
      go_simp
      try (with_reducible rfl)
    simp only [Act.put, List.setIfInBounds_toArray, List.set_cons_zero, List.set_cons_succ]
    refine takeH (i := 11) (t := 62) (v := ?v11) rfl rfl (by kernel_rfl) (by kernel_rfl) (by kernel_rfl) (fun _ _ _ h => h) (Or.inl ⟨by rfl, ?y11⟩) hS1 ?r11
    case y11 =>
      intro w hSw
      obtain ⟨⟨_, _⟩, ⟨_, _⟩, ⟨_, _⟩, ⟨_, _⟩, ⟨_, _⟩, _, _⟩ := id hSw
      go_simp
      try (with_reducible rfl)
    simp only [Act.put, List.setIfInBounds_toArray, List.set_cons_zero, List.set_cons_succ]
    refine takeH (i := 12) (t := 63) (v := ?v12) rfl rfl (by kernel_rfl) (by kernel_rfl) (by kernel_rfl) (fun _ _ _ h => h) (Or.inl ⟨by rfl, ?y12⟩) hS1 ?r12
    case y12 =>
      intro w hSw
      obtain ⟨⟨_, _⟩, ⟨_, _⟩, ⟨_, _⟩, ⟨_, _⟩, ⟨_, _⟩, _, _⟩ := id hSw
      go_simp
      try (with_reducible rfl)
    simp only [Act.put, List.setIfInBounds_toArray, List.set_cons_zero, List.set_cons_succ]
    refine takeH (i := 13) (t := 64) (v := ?v13) rfl rfl (by kernel_rfl) (by kernel_rfl) (by kernel_rfl) (fun _ _ _ h => h) (Or.inl ⟨by rfl, ?y13⟩) hS1 ?r13
    case y13 =>
      intro w hSw
      obtain ⟨⟨_, _⟩, ⟨_, _⟩, ⟨_, _⟩, ⟨_, _⟩, ⟨_, _⟩, _, _⟩ := id hSw
      go_simp
      try (with_reducible rfl)
    simp only [Act.put, List.setIfInBounds_toArray, List.set_cons_zero, List.set_cons_succ]
    refine takeH (i := 14) (t := 65) (v := ?v14) rfl rfl (by kernel_rfl) (by kernel_rfl) (by kernel_rfl) (fun _ _ _ h => h) (Or.inl ⟨by rfl, ?y14⟩) hS1 ?r14
    case y14 =>
      intro w hSw
      obtain ⟨⟨_, _⟩, ⟨_, _⟩, ⟨_, _⟩, ⟨_, _⟩, ⟨_, _⟩, _, _⟩ := id hSw
      go_simp
      try (with_reducible rfl)
    simp only [Act.put, List.setIfInBounds_toArray, List.set_cons_zero, List.set_cons_succ]
    refine takeH (i := 15) (t := 66) (v := ?v15) rfl rfl (by kernel_rfl) (by kernel_rfl) (by kernel_rfl) (fun _ _ _ h => h) (Or.inl ⟨by rfl, ?y15⟩) hS1 ?r15
    case y15 =>
      intro w hSw
      obtain ⟨⟨_, _⟩, ⟨_, _⟩, ⟨_, _⟩, ⟨_, _⟩, ⟨_, _⟩, _, _⟩ := id hSw
      go_simp
      try (with_reducible rfl)
    simp only [Act.put, List.setIfInBounds_toArray, List.set_cons_zero, List.set_cons_succ]
    refine takeH (i := 16) (t := 67) (v := ?v16) rfl rfl (by kernel_rfl) (by kernel_rfl) (by kernel_rfl) (fun _ _ _ h => h) (Or.inl ⟨by rfl, ?y16⟩) hS1 ?r16
    case y16 =>
      intro w hSw
      obtain ⟨⟨_, _⟩, ⟨_, _⟩, ⟨_, _⟩, ⟨_, _⟩, ⟨_, _⟩, _, _⟩ := id hSw
      go_simp
      try (with_reducible rfl)
    simp only [Act.put, List.setIfInBounds_toArray, List.set_cons_zero, List.set_cons_succ]
    refine takeH (i := 17) (t := 68) (v := ?v17) rfl rfl (by kernel_rfl) (by kernel_rfl) (by kernel_rfl) (fun _ _ _ h => h) (Or.inl ⟨by rfl, ?y17⟩) hS1 ?r17
    case y17 =>
      intro w hSw
      obtain ⟨⟨_, _⟩, ⟨_, _⟩, ⟨_, _⟩, ⟨_, _⟩, ⟨_, _⟩, _, _⟩ := id hSw
      go_simp
      try (with_reducible rfl)
    simp only [Act.put, List.setIfInBounds_toArray, List.set_cons_zero, List.set_cons_succ]
    refine takeH (i := 18) (t := 69) (v := ?v18) rfl rfl (by kernel_rfl) (by kernel_rfl) (by kernel_rfl) (fun _ _ _ h => h) (Or.inl ⟨by rfl, ?y18⟩) hS1 ?r18
    case y18 =>
      intro w hSw
      obtain ⟨⟨_, _⟩, ⟨_, _⟩, ⟨_, _⟩, ⟨_, _⟩, ⟨_, _⟩, _, _⟩ := id hSw
      go_simp
      try (with_reducible rfl)
    simp only [Act.put, List.setIfInBounds_toArray, List.set_cons_zero, List.set_cons_succ]
    refine takeH (i := 19) (t := 70) (v := ?v19) rfl rfl (by kernel_rfl) (by kernel_rfl) (by kernel_rfl) (fun _ _ _ h => h) (Or.inl ⟨by rfl, ?y19⟩) hS1 ?r19
    case y19 =>
      intro w hSw
      obtain ⟨⟨_, _⟩, ⟨_, _⟩, ⟨_, _⟩, ⟨_, _⟩, ⟨_, _⟩, _, _⟩ := id hSw
      go_simp
      try (with_reducible rfl)
    simp only [Act.put, List.setIfInBounds_toArray, List.set_cons_zero, List.set_cons_succ]
    refine takeH (i := 20) (t := 71) (v := ?v20) rfl rfl (by kernel_rfl) (by kernel_rfl) (by kernel_rfl) (fun _ _ _ h => h) (Or.inl ⟨by rfl, ?y20⟩) hS1 ?r20
    case y20 =>
      intro w hSw
      obtain ⟨⟨_, _⟩, ⟨_, _⟩, ⟨_, _⟩, ⟨_, _⟩, ⟨_, _⟩, _, _⟩ := id hSw
      go_simp
      try (with_reducible rfl)
    simp only [Act.put, List.setIfInBounds_toArray, List.set_cons_zero, List.set_cons_succ]
    refine takeH (i := 21) (t := 72) (v := ?v21) rfl rfl (by kernel_rfl) (by kernel_rfl) (by kernel_rfl) (fun _ _ _ h => h) (Or.inl ⟨by rfl, ?y21⟩) hS1 ?r21
    case y21 =>
      intro w hSw
      obtain ⟨⟨_, _⟩, ⟨_, _⟩, ⟨_, _⟩, ⟨_, _⟩, ⟨_, _⟩, _, _⟩ := id hSw
      go_simp
      try (with_reducible rfl)
    simp only [Act.put, List.setIfInBounds_toArray, List.set_cons_zero, List.set_cons_succ]
    refine takeH (i := 22) (t := 73) (v := ?v22) rfl rfl (by kernel_rfl) (by kernel_rfl) (by kernel_rfl) (fun _ _ _ h => h) (Or.inl ⟨by rfl, ?y22⟩) hS1 ?r22
    case y22 =>
      intro w hSw
      obtain ⟨⟨_, _⟩, ⟨_, _⟩, ⟨_, _⟩, ⟨_, _⟩, ⟨_, _⟩, _, _⟩ := id hSw
      go_simp
      try (with_reducible rfl)
    simp only [Act.put, List.setIfInBounds_toArray, List.set_cons_zero, List.set_cons_succ]
    refine takeH (i := 23) (t := 74) (v := ?v23) rfl rfl (by kernel_rfl) (by kernel_rfl) (by kernel_rfl) (fun _ _ _ h => h) (Or.inl ⟨by rfl, ?y23⟩) hS1 ?r23
    case y23 =>
      intro w hSw
      obtain ⟨⟨_, _⟩, ⟨_, _⟩, ⟨_, _⟩, ⟨_, _⟩, ⟨_, _⟩, _, _⟩ := id hSw
      go_simp
      try (with_reducible rfl)
    simp only [Act.put, List.setIfInBounds_toArray, List.set_cons_zero, List.set_cons_succ]
    refine takeH (i := 24) (t := 75) (v := ?v24) rfl rfl (by kernel_rfl) (by kernel_rfl) (by kernel_rfl) (fun _ _ _ h => h) (Or.inl ⟨by rfl, ?y24⟩) hS1 ?r24
    case y24 =>
      intro w hSw
      obtain ⟨⟨_, _⟩, ⟨_, _⟩, ⟨_, _⟩, ⟨_, _⟩, ⟨_, _⟩, _, _⟩ := id hSw
      go_simp
      try (with_reducible rfl)
    simp only [Act.put, List.setIfInBounds_toArray, List.set_cons_zero, List.set_cons_succ]
    refine takeH (i := 25) (t := 76) (v := undef) rfl rfl (by kernel_rfl) (by kernel_rfl) (by kernel_rfl) (fun _ _ _ h => h) (Or.inr ⟨by rfl, rfl⟩) hS1 ?_
    simp only [Act.put, List.setIfInBounds_toArray, List.set_cons_zero, List.set_cons_succ]
    refine takeH (i := 26) (t := 77) (v := undef) rfl rfl (by kernel_rfl) (by kernel_rfl) (by kernel_rfl) (fun _ _ _ h => h) (Or.inr ⟨by rfl, rfl⟩) hS1 ?_
    simp only [Act.put, List.setIfInBounds_toArray, List.set_cons_zero, List.set_cons_succ]
    refine takeH (i := 27) (t := 78) (v := undef) rfl rfl (by kernel_rfl) (by kernel_rfl) (by kernel_rfl) (fun _ _ _ h => h) (Or.inr ⟨by rfl, rfl⟩) hS1 ?_
    simp only [Act.put, List.setIfInBounds_toArray, List.set_cons_zero, List.set_cons_succ]
    refine takeH (i := 28) (t := 79) (v := undef) rfl rfl (by kernel_rfl) (by kernel_rfl) (by kernel_rfl) (fun _ _ _ h => h) (Or.inr ⟨by rfl, rfl⟩) hS1 ?_
    simp only [Act.put, List.setIfInBounds_toArray, List.set_cons_zero, List.set_cons_succ]
    refine takeH (i := 29) (t := 80) (v := undef) rfl rfl (by kernel_rfl) (by kernel_rfl) (by kernel_rfl) (fun _ _ _ h => h) (Or.inr ⟨by rfl, rfl⟩) hS1 ?_
    simp only [Act.put, List.setIfInBounds_toArray, List.set_cons_zero, List.set_cons_succ]
    refine takeH (i := 30) (t := 81) (v := undef) rfl rfl (by kernel_rfl) (by kernel_rfl) (by kernel_rfl) (fun _ _ _ h => h) (Or.inr ⟨by rfl, rfl⟩) hS1 ?_
    simp only [Act.put, List.setIfInBounds_toArray, List.set_cons_zero, List.set_cons_succ]
    refine takeH (i := 31) (t := 82) (v := undef) rfl rfl (by kernel_rfl) (by kernel_rfl) (by kernel_rfl) (fun _ _ _ h => h) (Or.inr ⟨by rfl, rfl⟩) hS1 ?_
    simp only [Act.put, List.setIfInBounds_toArray, List.set_cons_zero, List.set_cons_succ]
    refine takeH (i := 32) (t := 83) (v := undef) rfl rfl (by kernel_rfl) (by kernel_rfl) (by kernel_rfl) (fun _ _ _ h => h) (Or.inr ⟨by rfl, rfl⟩) hS1 ?_
    simp only [Act.put, List.setIfInBounds_toArray, List.set_cons_zero, List.set_cons_succ]
    refine takeH (i := 33) (t := 84) (v := ?v33) rfl rfl (by kernel_rfl) (by kernel_rfl) (by kernel_rfl) (fun _ _ _ h => h) (Or.inl ⟨by rfl, ?y33⟩) hS1 ?r33
    case y33 =>
      intro w hSw
      obtain ⟨⟨_, _⟩, ⟨_, _⟩, ⟨_, _⟩, ⟨_, _⟩, ⟨_, _⟩, _, _⟩ := id hSw
      go_simp
      try (with_reducible rfl)
    simp only [Act.put, List.setIfInBounds_toArray, List.set_cons_zero, List.set_cons_succ]
    refine takeH (i := 34) (t := 85) (v := ?v34) rfl rfl (by kernel_rfl) (by kernel_rfl) (by kernel_rfl) (fun _ _ _ h => h) (Or.inl ⟨by rfl, ?y34⟩) hS1 ?r34
    case y34 =>
      intro w hSw
      obtain ⟨⟨_, _⟩, ⟨_, _⟩, ⟨_, _⟩, ⟨_, _⟩, ⟨_, _⟩, _, _⟩ := id hSw
      go_simp
      try (with_reducible rfl)
    simp only [Act.put, List.setIfInBounds_toArray, List.set_cons_zero, List.set_cons_succ]
    refine takeH (i := 35) (t := 6) (v := ?v35) rfl rfl (by kernel_rfl) (by kernel_rfl) (by kernel_rfl) (fun _ _ _ h => h) (Or.inl ⟨by rfl, ?y35⟩) hS1 ?r35
    case y35 =>
      intro w hSw
      obtain ⟨⟨_, _⟩, ⟨_, _⟩, ⟨_, _⟩, ⟨_, _⟩, ⟨_, _⟩, _, _⟩ := id hSw
      go_simp
      try (with_reducible rfl)
    simp only [Act.put, List.setIfInBounds_toArray, List.set_cons_zero, List.set_cons_succ]
    refine wpAnyH_done (by kernel_rfl) ?_ _
    go_wp2_with fail
    go_ret
    exact ⟨rfl, A1.below⟩
end Go.Proofs.YtnmaodjgniblgaaDoor
