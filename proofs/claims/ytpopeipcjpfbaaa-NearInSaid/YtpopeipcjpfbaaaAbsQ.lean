/-
  Package grid, the reference package of layer 3, and the statements' own calls, by values. My own text.
-/
import Derived.Test.YtpopeipcjpfbaaaAbsO
import Derived.Test.YtpopeipcjpfbaaaGridA
namespace Go.Proofs.Ytpopeipcjpfbaaa
open Go.RowKit
set_option linter.unusedVariables false
set_option linter.unusedSimpArgs false
theorem p_gCmp {x y x' y' : Int} : PCall Try.prog 26 [vP x y, vP x' y'] (vI (pcmp x y x' y')) :=
  pcall_ev [.agg #[.int .i64 x, .int .i64 y], .agg #[.int .i64 x', .int .i64 y']] (.int .i64 (pcmp x y x' y')) rfl rfl rfl rfl rfl fun W => gCmp_any x y x' y' W
def snb (n d : Int) (r : Nat) : Bool := decide (0 < d) && wi (134217728 / 2 ^ r) (sna n d r)
def snv (n d : Int) (r : Nat) : Int := if snb n d r then sna n d r else 0
/-! the reference package -/
theorem gsn_ref (v : Int) (r : Nat) : (v + v + 1 * 2 ^ r) / (1 * 2 ^ (r + 1)) = gsn v r := by
  unfold gsn
  rw [Int.one_mul, Int.one_mul, Int.pow_succ, Int.mul_comm (2 ^ r) 2]
  congr 1
  omega
/-- is a number times 2^r not too far? -/
def nrB (n : Int) (r : Nat) : Bool := decide (-134217728 ≤ n * 2 ^ r) && decide (n * 2 ^ r ≤ 134217728)
theorem nrB_wi (n : Int) (r : Nat) : nrB n r = wi (134217728 / 2 ^ r) n := by
  rw [wi_mul]
  unfold nrB
  rw [Bool.eq_iff_iff, Bool.and_eq_true, decide_eq_true_eq, decide_eq_true_eq, decide_eq_true_eq, Int.mul_comm]
end Go.Proofs.Ytpopeipcjpfbaaa
