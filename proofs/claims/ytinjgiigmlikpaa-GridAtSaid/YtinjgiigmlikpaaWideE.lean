/-
  Contracts of package wide: products, shifts. My own text.
-/
import Derived.Test.YtinjgiigmlikpaaWideD
import Derived.Deep.RegionHeld3
import Derived.Deep.DeepCutAuto
namespace Go.Proofs.Ytinjgiigmlikpaa
open Go.RowKit
set_option linter.unusedVariables false

theorem sign_mul {h1 l1 n h2 l2 m : Int} (H1 : IsW h1 l1 n) (H2 : IsW h2 l2 m) : (if (!decide (h1 < 0) == decide (h2 < 0)) = true then -((n.natAbs : Int) * (m.natAbs : Int)) else (n.natAbs : Int) * (m.natAbs : Int)) = n * m := by
  have k1 := H1.neg; have k2 := H2.neg
  rcases Int.lt_or_le n 0 with a | a <;> rcases Int.lt_or_le m 0 with b | b
  · obtain ⟨x, rfl⟩ : ∃ x : Nat, n = -(x : Int) := ⟨n.natAbs, by omega⟩
    obtain ⟨y, rfl⟩ : ∃ y : Nat, m = -(y : Int) := ⟨m.natAbs, by omega⟩
    simp [k1.2 a, k2.2 b, Int.neg_mul, Int.mul_neg]
  · obtain ⟨x, rfl⟩ : ∃ x : Nat, n = -(x : Int) := ⟨n.natAbs, by omega⟩
    obtain ⟨y, rfl⟩ : ∃ y : Nat, m = (y : Int) := ⟨m.natAbs, by omega⟩
    have : ¬ h2 < 0 := by omega
    simp [k1.2 a, this, Int.neg_mul]
  · obtain ⟨x, rfl⟩ : ∃ x : Nat, n = (x : Int) := ⟨n.natAbs, by omega⟩
    obtain ⟨y, rfl⟩ : ∃ y : Nat, m = -(y : Int) := ⟨m.natAbs, by omega⟩
    have : ¬ h1 < 0 := by omega
    simp [k2.2 b, this, Int.mul_neg]
  · obtain ⟨x, rfl⟩ : ∃ x : Nat, n = (x : Int) := ⟨n.natAbs, by omega⟩
    obtain ⟨y, rfl⟩ : ∃ y : Nat, m = (y : Int) := ⟨m.natAbs, by omega⟩
    have t1 : ¬ h1 < 0 := by omega
    have t2 : ¬ h2 < 0 := by omega
    simp [t1, t2]
theorem sign_over {h1 l1 n h2 l2 m : Int} (H1 : IsW h1 l1 n) (H2 : IsW h2 l2 m) (h : fitS (n.natAbs * m.natAbs) = false) : fits (n * m) = false := by
  have e : (n.natAbs : Int) * m.natAbs = ((n * m).natAbs : Int) := by rw [Int.natAbs_mul, Int.natCast_mul]
  rw [e] at h
  unfold fitS at h
  unfold fits
  rw [decide_eq_false_iff_not] at *
  omega
theorem signed_prod {h1 l1 n h2 l2 m ph pl P : Int} (w : World) (H1 : IsW h1 l1 n) (H2 : IsW h2 l2 m) (e : Hid (P = n.natAbs * m.natAbs)) (hp : IsS ph pl P) :
    Calls Try.prog 57 #[.agg #[.int .u64 ph, .int .u64 pl], .bool (!decide (h1 < 0) == decide (h2 < 0))] w (RWF (n * m) w) := by
  rw [← sign_mul H1 H2, ← e.out]
  exact signed_any ph pl P _ w hp
def MulCut (w : World) (N : Int) (a b c d : Value) (s6 s7 : Value) (wx : World) : Prop :=
  ∃ (g : Nat) (ph pl : Int), s6 = .pointer (some ⟨g, 0, none⟩) ∧ s7 = .bool (fitS N) ∧ w.heap.size + 3 ≤ g ∧ IsS ph pl (if fitS N then N else 0) ∧
    Box wx g (.int .u64 ph) (.int .u64 pl) ∧ Box wx w.heap.size a b ∧ Box wx (w.heap.size + 1) c d ∧ Box wx (w.heap.size + 1 + 1) (.int .i64 0) (.int .u64 0) ∧ g < wx.heap.size ∧ Below w.heap.size w wx
end Go.Proofs.Ytinjgiigmlikpaa
