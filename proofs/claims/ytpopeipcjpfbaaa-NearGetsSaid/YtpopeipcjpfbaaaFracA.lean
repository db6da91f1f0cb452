/-
  Contracts of package frac: Right, Floor, Make, Of. My own text.
  Contracts of package frac: Floor, nearest, Of, Make. My own text.
  Contracts of package frac: Of, Make, Snap. My own text.
  Contracts of package frac: Snap. My own text.
  Contracts of package frac: divBoth. My own text.
  Contracts of package frac: Cmp. My own text.
  The statements' own calls of layer 2: num, alive; what their walks hold on to. My own text.
-/
import Derived.Test.YtpopeipcjpfbaaaDivD
import Derived.Test.YtpopeipcjpfbaaaRefO
import Derived.Test.YtpopeipcjpfbaaaWideC
import Derived.Deep.DrawnRows
import Derived.RegionTactic
import Derived.Deep.LoopGhost
import Derived.Deep.DeepCutAuto
namespace Go.Proofs.Ytpopeipcjpfbaaa
open Go.RowKit
set_option linter.unusedVariables false

/-- four cells of a block, and that they may be written. -/
def Box4 (w : World) (b : Nat) (u v x y : Value) : Prop := (w.cell? ⟨b, 0, none⟩ = some u ∧ w.cell? ⟨b, 1, none⟩ = some v ∧ w.cell? ⟨b, 2, none⟩ = some x ∧ w.cell? ⟨b, 3, none⟩ = some y) ∧ (w.frozen? ⟨b, 0, none⟩ = false ∧ w.frozen? ⟨b, 1, none⟩ = false ∧ w.frozen? ⟨b, 2, none⟩ = false ∧ w.frozen? ⟨b, 3, none⟩ = false)
section
variable {w W w1 : World} {b g : Nat} {u v x y q : Value}
theorem Box4.lt (h : Box4 w b u v x y) : b < w.heap.size := World.block_lt_of_cell? w _ h.1.1
theorem Box4.call (h : Box4 W b u v x y) (hb : Below W.heap.size W w1) : Box4 w1 b u v x y := by
  have hl := h.lt
  obtain ⟨⟨h1, h2, h3, h4⟩, k1, k2, k3, k4⟩ := h
  exact ⟨⟨(hb.cell (p := ⟨b, 0, none⟩) hl).trans h1, (hb.cell (p := ⟨b, 1, none⟩) hl).trans h2, (hb.cell (p := ⟨b, 2, none⟩) hl).trans h3, (hb.cell (p := ⟨b, 3, none⟩) hl).trans h4⟩, (hb.frozen (p := ⟨b, 0, none⟩) hl).trans k1, (hb.frozen (p := ⟨b, 1, none⟩) hl).trans k2, (hb.frozen (p := ⟨b, 2, none⟩) hl).trans k3, (hb.frozen (p := ⟨b, 3, none⟩) hl).trans k4⟩
theorem Box4.alloc (h : Box4 W b u v x y) (o : Obj) : Box4 (W.alloc o) b u v x y := h.call ((Below.refl _ _).alloc (Nat.le_refl _) o)
theorem Box4.drew (h : Box4 W b u v x y) : Box4 W.drew b u v x y := h.call ((Below.refl _ _).drew)
theorem Box4.new {t : TypeId} (e : b = W.heap.size) : Box4 (W.alloc (.cells #[u, v, x, y] t)) b u v x y := by
  subst e
  unfold Box4
  go_simp
theorem Box4.set (h : Box4 W b u v x y) (o : Nat) (ne : g ≠ b) : Box4 (W.setCell ⟨g, o, none⟩ q) b u v x y := by
  obtain ⟨⟨h1, h2, h3, h4⟩, k1, k2, k3, k4⟩ := h
  have n0 : ∀ i, (⟨g, o, none⟩ : Addr) ≠ ⟨b, i, none⟩ := fun i e => ne (congrArg Addr.block e)
  refine ⟨⟨?_, ?_, ?_, ?_⟩, ?_, ?_, ?_, ?_⟩
  · rw [World.cell?_setCell_other _ _ _ _ (n0 0)]; exact h1
  · rw [World.cell?_setCell_other _ _ _ _ (n0 1)]; exact h2
  · rw [World.cell?_setCell_other _ _ _ _ (n0 2)]; exact h3
  · rw [World.cell?_setCell_other _ _ _ _ (n0 3)]; exact h4
  · go_simp
  · go_simp
  · go_simp
  · go_simp
end
section
variable {W : World} {b : Nat} {u v x y u' v' : Value}
theorem Box4.put01 (h : Box4 W b u v x y) : Box4 ((W.setCell ⟨b, 0, none⟩ u').setCell ⟨b, 1, none⟩ v') b u' v' x y := by
  obtain ⟨⟨h1, h2, h3, h4⟩, k1, k2, k3, k4⟩ := h
  unfold Box4
  go_simp
theorem Box4.put23 (h : Box4 W b u v x y) : Box4 ((W.setCell ⟨b, 2, none⟩ u').setCell ⟨b, 3, none⟩ v') b u v u' v' := by
  obtain ⟨⟨h1, h2, h3, h4⟩, k1, k2, k3, k4⟩ := h
  unfold Box4
  go_simp
end
/-- the whole part of n over d; 0, where d is not above 0. -/
def flo (n d : Int) : Int := if 0 < d then n / d else 0
theorem icmp_pos (d : Int) : decide (0 < icmp d 0) = decide (0 < d) := by
  unfold icmp
  rw [Bool.eq_iff_iff]
  simp only [decide_eq_true_eq]
  repeat' split
  all_goals omega
end Go.Proofs.Ytpopeipcjpfbaaa
namespace Go.Proofs.Ytpopeipcjpfbaaa
open Go.RowKit
set_option linter.unusedVariables false
attribute [local go_sem ↓] Go.wp_at_zero Go.wp_at_succ

theorem Box.both {w : World} {b : Nat} {u v : Value} (h : Box w b u v) : w.cell? ⟨b, 0, none⟩ = some u ∧ w.cell? ⟨b, 1, none⟩ = some v := h.1
/-- the whole number nearest to n over d, of a half the upper one. -/
def nea (n d : Int) : Int := if n % d < d - n % d then n / d else n / d + 1
theorem near_fits {n d : Int} (hn : fits n = true) (hd : 0 < d) (hdf : fits d = true) : fits (d - n % d) = true ∧ (d - n % d ≤ n % d → fits (n / d + 1) = true) := by
  unfold fits at *
  rw [decide_eq_true_eq] at hn hdf
  have h0 := Int.emod_nonneg n (show d ≠ 0 by omega)
  have h1 := Int.emod_lt_of_pos n hd
  have h2 := Int.mul_ediv_add_emod n d
  rw [decide_eq_true_eq, decide_eq_true_eq]
  refine ⟨by omega, fun hle => ?_⟩
  have hd2 : 2 ≤ d := by omega
  have q1 : n / d * 2 ≤ 170141183460469231731687303715884105727 ∧ -170141183460469231731687303715884105728 ≤ n / d := by
    refine ⟨?_, ?_⟩
    · rcases Int.lt_or_le (n / d) 0 with q | q
      · omega
      · have : n / d * 2 ≤ n / d * d := Int.mul_le_mul_of_nonneg_left hd2 q
        rw [Int.mul_comm (n / d) d] at this
        omega
    · rcases Int.lt_or_le (n / d) 0 with q | q
      · have : d * (n / d + 1) ≤ 1 * (n / d + 1) := Int.mul_le_mul_of_nonpos_right (by omega) (by omega)
        rw [Int.mul_add] at this
        omega
      · omega
  omega
end Go.Proofs.Ytpopeipcjpfbaaa
namespace Go.Proofs.Ytpopeipcjpfbaaa
open Go.RowKit
set_option linter.unusedVariables false
attribute [local go_sem ↓] Go.wp_at_zero Go.wp_at_succ

/-- a fraction comes back. -/
def RF (n d : Int) (w : World) (e : Ending) (w' : World) : Prop := ∃ a b c f, e = .returned (.agg #[.int .i64 a, .int .u64 b, .int .i64 c, .int .u64 f]) ∧ IsW a b n ∧ IsW c f d ∧ Below w.heap.size w w'
/-- a fraction, and whether there is one. -/
def RFB (is : Bool) (n d : Int) (w : World) (e : Ending) (w' : World) : Prop := ∃ a b c f, e = .returned (.tuple #[.agg #[.int .i64 a, .int .u64 b, .int .i64 c, .int .u64 f], .bool is]) ∧ IsW a b n ∧ IsW c f d ∧ Below w.heap.size w w'
/-- what Make answers. -/
def mkIs (n d : Int) : Bool := decide (0 < d) || (decide (d < 0) && fits (-n) && fits (-d))
/-- what Make answers, of a d below 0. -/
def RFM (n d : Int) (w : World) (e : Ending) (w' : World) : Prop := RFB (fits (-n) && fits (-d)) (if (fits (-n) && fits (-d)) = true then -n else 0) (if (fits (-n) && fits (-d)) = true then -d else 0) w e w'
theorem rfm_yes {n d : Int} {w w' : World} {a b c f : Int} (f1 : fits (-n) = true) (f2 : fits (-d) = true) (h1 : IsW a b (-n)) (h2 : IsW c f (-d)) (hb : Below w.heap.size w w') : RFM n d w (.returned (.tuple #[.agg #[.int .i64 a, .int .u64 b, .int .i64 c, .int .u64 f], .bool true])) w' := by
  unfold RFM; rw [f1, f2]; exact ⟨a, b, c, f, rfl, h1, h2, hb⟩
theorem rfm_no {n d : Int} {w w' : World} (h : (fits (-n) && fits (-d)) = false) (hb : Below w.heap.size w w') : RFM n d w (.returned (.tuple #[.agg #[.int .i64 0, .int .u64 0, .int .i64 0, .int .u64 0], .bool false])) w' := by
  unfold RFM; rw [h]; exact ⟨0, 0, 0, 0, rfl, isW0, isW0, hb⟩
end Go.Proofs.Ytpopeipcjpfbaaa
namespace Go.Proofs.Ytpopeipcjpfbaaa
open Go.RowKit
set_option linter.unusedVariables false
attribute [local go_sem ↓] Go.wp_at_zero Go.wp_at_succ

theorem Box4.cs {w : World} {b : Nat} {u v x y : Value} (h : Box4 w b u v x y) : w.cell? ⟨b, 0, none⟩ = some u ∧ w.cell? ⟨b, 1, none⟩ = some v ∧ w.cell? ⟨b, 2, none⟩ = some x ∧ w.cell? ⟨b, 3, none⟩ = some y := h.1
/-- the Int n comes back, and true. -/
def RWT (n : Int) (w : World) (e : Ending) (w' : World) : Prop := ∃ H L, e = .returned (.tuple #[.agg #[.int .i64 H, .int .u64 L], .bool true]) ∧ IsW H L n ∧ Below w.heap.size w w'
/-- what Snap tells. -/
def sna (n d : Int) (k : Nat) : Int := if k = 0 then nea n d else nea (n / d) (2 ^ k)
theorem pow100 {k : Nat} (h : k ≤ 100) : fits ((2 : Int) ^ k) = true := by
  have h1 := Nat.pow_le_pow_right (show 0 < 2 by decide) h
  rw [show (2 : Nat) ^ 100 = 1267650600228229401496703205376 by decide] at h1
  have h2 := (pow2_bd k).1
  have e : ((2 : Int) ^ k) = ((2 ^ k : Nat) : Int) := by simp
  unfold fits
  rw [e, decide_eq_true_eq]
  generalize (2 : Nat) ^ k = P at *
  omega
end Go.Proofs.Ytpopeipcjpfbaaa
namespace Go.Proofs.Ytpopeipcjpfbaaa
open Go.RowKit
set_option linter.unusedVariables false
attribute [local go_sem ↓] Go.wp_at_zero Go.wp_at_succ

/-- two rows of two Ints come back. -/
def RBoth (q0 q1 r0 r1 : Int) (w : World) (e : Ending) (w' : World) : Prop := ∃ a b c d x y z t, e = .returned (.tuple #[.agg #[.int .i64 a, .int .u64 b, .int .i64 c, .int .u64 d], .agg #[.int .i64 x, .int .u64 y, .int .i64 z, .int .u64 t]]) ∧ IsW a b q0 ∧ IsW c d q1 ∧ IsW x y r0 ∧ IsW z t r1 ∧ Below w.heap.size w w'
theorem wpAt' {P : Program} {c : Code} {Q : Exit → Act → World → Prop} {a : Act} {W : World} (h : ∀ W', W' = W → c.wp P Q a W') : c.wp P Q a W := h W rfl
end Go.Proofs.Ytpopeipcjpfbaaa
namespace Go.Proofs.Ytpopeipcjpfbaaa
open Go.RowKit
set_option linter.unusedVariables false
attribute [local go_sem ↓] Go.wp_at_zero Go.wp_at_succ

theorem icmp_sub (a b c d : Int) (h : a - b = c - d) : icmp a b = icmp c d := by
  unfold icmp
  repeat' split
  all_goals omega
theorem cmp_whole {N0 N1 D0 D1 q0 q1 r0 r1 : Int} (h0 : D0 * q0 + r0 = N0) (h1 : D1 * q1 + r1 = N1) (p0 : 0 < D0) (p1 : 0 < D1) (a0 : 0 ≤ r0) (a1 : r0 < D0) (b0 : 0 ≤ r1) (b1 : r1 < D1) (hq : q0 < q1) : N0 * D1 < N1 * D0 := by
  have k1 : N0 * D1 < (D0 * (q0 + 1)) * D1 := Int.mul_lt_mul_of_pos_right (by rw [Int.mul_add]; omega) p1
  have k2 : (D1 * q1) * D0 ≤ N1 * D0 := Int.mul_le_mul_of_nonneg_right (by omega) (by omega)
  have k3 : (q0 + 1) * (D0 * D1) ≤ q1 * (D0 * D1) := Int.mul_le_mul_of_nonneg_right (by omega) (Int.le_of_lt (Int.mul_pos p0 p1))
  have e1 : (D0 * (q0 + 1)) * D1 = (q0 + 1) * (D0 * D1) := by rw [Int.mul_comm D0 (q0 + 1), Int.mul_assoc]
  have e2 : (D1 * q1) * D0 = q1 * (D0 * D1) := by rw [Int.mul_comm D1 q1, Int.mul_assoc, Int.mul_comm D1 D0]
  omega
theorem cmp_q {N0 N1 D0 D1 : Int} (p0 : 0 < D0) (p1 : 0 < D1) (hq : N0 / D0 ≠ N1 / D1) : icmp (N0 * D1) (N1 * D0) = icmp (N0 / D0) (N1 / D1) := by
  have h0 := Int.mul_ediv_add_emod N0 D0; have h1 := Int.mul_ediv_add_emod N1 D1
  have a0 := Int.emod_nonneg N0 (show D0 ≠ 0 by omega); have a1 := Int.emod_lt_of_pos N0 p0
  have b0 := Int.emod_nonneg N1 (show D1 ≠ 0 by omega); have b1 := Int.emod_lt_of_pos N1 p1
  rcases Int.lt_or_lt_of_ne hq with q | q
  · rw [icmp_lt q, icmp_lt (cmp_whole h0 h1 p0 p1 a0 a1 b0 b1 q)]
  · rw [icmp_gt q, icmp_gt (cmp_whole h1 h0 p1 p0 b0 b1 a0 a1 q)]
theorem cmp_r {N0 N1 D0 D1 : Int} (hq : N0 / D0 = N1 / D1) : icmp (N0 * D1) (N1 * D0) = icmp (D1 * (N0 % D0)) (D0 * (N1 % D1)) := by
  have h0 := Int.mul_ediv_add_emod N0 D0; have h1 := Int.mul_ediv_add_emod N1 D1
  apply icmp_sub
  generalize N0 % D0 = r0 at *
  generalize N1 % D1 = r1 at *
  rw [hq] at h0
  generalize N1 / D1 = q at *
  have e1 : N0 * D1 = q * (D0 * D1) + D1 * r0 := by rw [← h0, Int.add_mul, Int.mul_comm r0 D1, Int.mul_comm D0 q, Int.mul_assoc]
  have e2 : N1 * D0 = q * (D0 * D1) + D0 * r1 := by rw [← h1, Int.add_mul, Int.mul_comm r1 D0, Int.mul_comm D1 q, Int.mul_assoc, Int.mul_comm D1 D0]
  omega
theorem cmp_z {D0 D1 r0 r1 : Int} (p0 : 0 < D0) (p1 : 0 < D1) (a0 : 0 ≤ r0) (b0 : 0 ≤ r1) (h : r0 = 0 ∨ r1 = 0) : icmp (D1 * r0) (D0 * r1) = icmp r0 r1 := by
  rcases Int.lt_or_eq_of_le a0 with q | q
  · have e : r1 = 0 := by omega
    have := Int.mul_pos p1 q
    rw [e, Int.mul_zero, icmp_gt q, icmp_gt this]
  · rw [← q, Int.mul_zero]
    rcases Int.lt_or_eq_of_le b0 with s | s
    · have := Int.mul_pos p0 s
      rw [icmp_lt s, icmp_lt this]
    · rw [← s, Int.mul_zero]
theorem Box4.put4 {W : World} {b : Nat} {u v x y u' v' x' y' : Value} (h : Box4 W b u v x y) : Box4 ((((W.setCell ⟨b, 0, none⟩ u').setCell ⟨b, 1, none⟩ v').setCell ⟨b, 2, none⟩ x').setCell ⟨b, 3, none⟩ y') b u' v' x' y' := (h.put01).put23
/-- what Cmp keeps from round to round: g, g': the two rows' blocks; C: what is to be told; k: what bounds the rounds. -/
def CmpR (w : World) (g g' : Nat) (C : Int) (k : Nat) (W : World) : Prop := ∃ a0 b0 n0 a1 b1 n1 c0 e0 d0 c1 e1 d1 : Int,
  Box4 W g (.int .i64 a0) (.int .u64 b0) (.int .i64 a1) (.int .u64 b1) ∧ Box4 W g' (.int .i64 c0) (.int .u64 e0) (.int .i64 c1) (.int .u64 e1) ∧ (IsW a0 b0 n0 ∧ IsW a1 b1 n1 ∧ IsW c0 e0 d0 ∧ IsW c1 e1 d1) ∧ (0 < d0 ∧ 0 < d1 ∧ d0 + d1 ≤ k) ∧ icmp (n0 * d1) (n1 * d0) = C ∧ Below w.heap.size w W
/-- two rows in new blocks. -/
def CmpC (w : World) (C : Int) (k : Nat) (s t : Value) (W : World) : Prop := ∃ g g', s = .pointer (some ⟨g, 0, none⟩) ∧ t = .pointer (some ⟨g', 0, none⟩) ∧ g ≠ g' ∧ w.heap.size < g ∧ w.heap.size < g' ∧ CmpR w g g' C k W
/-- what Cmp tells. -/
def cmpv (n0 d0 n1 d1 : Int) : Int := if 0 < d0 ∧ 0 < d1 then icmp (n0 * d1) (n1 * d0) else 0
end Go.Proofs.Ytpopeipcjpfbaaa
namespace Go.Proofs.Ytpopeipcjpfbaaa
open Go.RowKit
set_option linter.unusedVariables false
set_option linter.unusedSimpArgs false
attribute [local go_sem ↓] Go.wp_at_zero Go.wp_at_succ

theorem IsN.lenW {w : World} {neg : Bool} {A : Option Addr} {l c : Nat} {n : Int} (h : IsN w neg A l c n) (hf : fits n = true) : l ≤ 10 := by
  unfold fits at hf
  rw [decide_eq_true_eq] at hf
  exact h.len10 (by omega) (by omega)
theorem lenF {w : World} {neg : Bool} {A : Option Addr} {l c : Nat} {n : Int} (h : IsN w neg A l c n) (hf : fits n = true) {k : Nat} (hk : 10 ≤ k) : l ≤ k := Nat.le_trans (h.lenW hf) hk
theorem icmp_self (n : Int) : icmp n n = 0 := icmp_eq rfl
theorem eq_of {a b c d n : Int} (h : IsW a b n) (k : IsW c d n) : eqW a b c d = true := by rw [h.eqW k]; exact decide_eq_true rfl
/-- four Ints' halves compared. -/
def eqF (a b c d a' b' c' d' : Int) : Bool := eqW a b a' b' && eqW c d c' d'
theorem eqF_of {a b c d a' b' c' d' n m : Int} (h1 : IsW a b n) (h2 : IsW a' b' n) (h3 : IsW c d m) (h4 : IsW c' d' m) : eqF a b c d a' b' c' d' = true := by unfold eqF; rw [eq_of h1 h2, eq_of h3 h4]; rfl
/-- blocks of four cells and of two that the walk holds on to. -/
structure AlW (w : World) (g g' : Nat) (a b c d s t : Int) (W : World) : Prop where
  f : Box4 W g (.int .i64 a) (.int .u64 b) (.int .i64 c) (.int .u64 d)
  s : Box W g' (.int .i64 s) (.int .u64 t)
  below : Below w.heap.size w W
section
variable {w W w1 : World} {g g' : Nat} {a b c d s t : Int}
theorem AlW.call (h : AlW w g g' a b c d s t W) (hb : Below W.heap.size W w1) : AlW w g g' a b c d s t w1 := ⟨h.f.call hb, h.s.call hb, below_call h.below hb⟩
theorem AlW.k (h : AlW w g g' a b c d s t W) : (W.cell? ⟨g, 0, none⟩ = some (.int .i64 a) ∧ W.cell? ⟨g, 1, none⟩ = some (.int .u64 b) ∧ W.cell? ⟨g, 2, none⟩ = some (.int .i64 c) ∧ W.cell? ⟨g, 3, none⟩ = some (.int .u64 d)) ∧ (W.cell? ⟨g', 0, none⟩ = some (.int .i64 s) ∧ W.cell? ⟨g', 1, none⟩ = some (.int .u64 t)) := ⟨h.f.1, h.s.1⟩
end
end Go.Proofs.Ytpopeipcjpfbaaa
