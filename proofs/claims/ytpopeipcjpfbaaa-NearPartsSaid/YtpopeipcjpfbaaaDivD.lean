/-
  Contract of wide.Div. My own text.
-/
import Derived.Test.YtpopeipcjpfbaaaRegT
import Derived.Test.YtpopeipcjpfbaaaDivA
import Derived.Test.YtpopeipcjpfbaaaRefM
namespace Go.Proofs.Ytpopeipcjpfbaaa
open Go.RowKit
set_option linter.unusedVariables false

def DivCut (w : World) (Q R : Int) (a b c d : Value) (s7 s8 : Value) (wx : World) : Prop :=
  ∃ (g7 g8 : Nat) (qh ql rh rl : Int), s7 = .pointer (some ⟨g7, 0, none⟩) ∧ s8 = .pointer (some ⟨g8, 0, none⟩) ∧ w.heap.size + 4 ≤ g7 ∧ w.heap.size + 4 ≤ g8 ∧ IsS qh ql Q ∧ IsS rh rl R ∧
    Box wx g7 (.int .u64 qh) (.int .u64 ql) ∧ Box wx g8 (.int .u64 rh) (.int .u64 rl) ∧ Box wx w.heap.size a b ∧ Box wx (w.heap.size + 1) c d ∧ Box wx (w.heap.size + 1 + 1) (.int .i64 0) (.int .u64 0) ∧ Box wx (w.heap.size + 1 + 1 + 1) (.int .i64 0) (.int .u64 0) ∧ Below w.heap.size w wx
theorem keepS {W : World} {b b' : Nat} {u v u' v' : Value} (h : Box W b u v) (k : Box W b' u' v') : (W.cell? ⟨b, 0, none⟩ = some u ∧ W.cell? ⟨b, 1, none⟩ = some v) ∧ (W.cell? ⟨b', 0, none⟩ = some u' ∧ W.cell? ⟨b', 1, none⟩ = some v') := ⟨h.1, k.1⟩
theorem keepS3 {W : World} {b b' b'' : Nat} {u v u' v' u'' v'' : Value} (h : Box W b u v) (k : Box W b' u' v') (l : Box W b'' u'' v'') : (W.cell? ⟨b, 0, none⟩ = some u ∧ W.cell? ⟨b, 1, none⟩ = some v) ∧ (W.cell? ⟨b', 0, none⟩ = some u' ∧ W.cell? ⟨b', 1, none⟩ = some v') ∧ (W.cell? ⟨b'', 0, none⟩ = some u'' ∧ W.cell? ⟨b'', 1, none⟩ = some v'') := ⟨h.1, k.1, l.1⟩
def Div7 (w : World) (x y : Int) (wx : World) : Prop := ∃ c1 c2 e1 e2 : Int, IsW c1 c2 x ∧ IsW e1 e2 y ∧ Box wx (w.heap.size + 1 + 1) (.int .i64 c1) (.int .u64 c2) ∧ Box wx (w.heap.size + 1 + 1 + 1) (.int .i64 e1) (.int .u64 e2) ∧ Below w.heap.size w wx
theorem wp_at {P : Program} {c : Code} {Q : Exit → Act → World → Prop} {a : Act} {W : World} (h : ∀ W', W' = W → c.wp P Q a W') : c.wp P Q a W := h W rfl
theorem le_mul_m {n m : Int} (hm : 0 < m) (h : -170141183460469231731687303715884105728 ≤ n) : -170141183460469231731687303715884105728 * m ≤ n := by
  have := Int.mul_le_mul_of_nonneg_left (show (1 : Int) ≤ m by omega) (show (0 : Int) ≤ 170141183460469231731687303715884105728 by omega)
  omega
theorem div_nn {n m N M : Int} (hm : 0 < m) (hN : ((n.natAbs : Nat) : Int) = N) (hM : ((m.natAbs : Nat) : Int) = M) (k : 0 ≤ n) : N / M = n / m ∧ N % M = n % m := by
  obtain rfl : M = m := by omega
  obtain rfl : N = n := by omega
  exact ⟨rfl, rfl⟩
theorem div_neg0 {n m N M : Int} (hm : 0 < m) (hN : ((n.natAbs : Nat) : Int) = N) (hM : ((m.natAbs : Nat) : Int) = M) (k : n < 0) (z : N % M = 0) : -(N / M) = n / m ∧ 0 = n % m := by
  obtain rfl : M = m := by omega
  obtain rfl : n = -N := by omega
  have h1 := Int.mul_ediv_add_emod N M
  rw [z, Int.add_zero] at h1
  have h2 : -N = M * (-(N / M)) := by rw [Int.mul_neg, h1]
  rw [h2]
  constructor
  · rw [Int.mul_ediv_cancel_left _ (by omega)]
  · rw [Int.mul_emod_right]
theorem div_neg1 {n m N M : Int} (hm : 0 < m) (hN : ((n.natAbs : Nat) : Int) = N) (hM : ((m.natAbs : Nat) : Int) = M) (k : n < 0) (z : N % M ≠ 0) : -(N / M) - 1 = n / m ∧ -(N % M) + m = n % m := by
  obtain rfl : M = m := by omega
  obtain rfl : n = -N := by omega
  have h1 := Int.mul_ediv_add_emod N M
  have r0 := Int.emod_nonneg N (show M ≠ 0 by omega)
  have r1 := Int.emod_lt_of_pos N hm
  have h2 : -N = (M - N % M) + M * (-(N / M) - 1) := by rw [Int.mul_sub, Int.mul_neg, Int.mul_one]; omega
  have q : (-N) / M = -(N / M) - 1 := by
    rw [h2, Int.add_mul_ediv_left _ _ (by omega), Int.ediv_eq_zero_of_lt (by omega) (by omega)]
    omega
  have r : (-N) % M = M - N % M := by
    rw [h2, Int.add_mul_emod_self_left, Int.emod_eq_of_lt (by omega) (by omega)]
  rw [q, r]
  omega
def RDV (n m : Int) (w : World) (e : Ending) (w' : World) : Prop := ∃ a b c d : Int, e = .returned (.tuple #[.agg #[.int .i64 a, .int .u64 b], .agg #[.int .i64 c, .int .u64 d], .bool true]) ∧ IsW a b (n / m) ∧ IsW c d (n % m) ∧ Below w.heap.size w w'
end Go.Proofs.Ytpopeipcjpfbaaa
