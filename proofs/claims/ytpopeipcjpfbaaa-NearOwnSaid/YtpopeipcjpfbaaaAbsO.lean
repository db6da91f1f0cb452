/-
  Package frac, the reference package of layer 2, and the statements' own calls, by values. My own text.
-/
import Derived.Test.YtpopeipcjpfbaaaAbsN
namespace Go.Proofs.Ytpopeipcjpfbaaa
open Go.RowKit
set_option linter.unusedVariables false
set_option linter.unusedSimpArgs false
abbrev fi (n d : Int) : AW := .agg [.c (.int .i64 (hiW n)), .c (.int .u64 (loW n)), .c (.int .i64 (hiW d)), .c (.int .u64 (loW d))]
abbrev fv (n d : Int) : AV := .w (fi n d)
abbrev fx (n d : Int) : Value := .agg #[.int .i64 (hiW n), .int .u64 (loW n), .int .i64 (hiW d), .int .u64 (loW d)]
abbrev wx (n : Int) : Value := .agg #[.int .i64 (hiW n), .int .u64 (loW n)]
@[go_sem] theorem eqF_hl (n d n' d' : Int) : eqF (hiW n) (loW n) (hiW d) (loW d) (hiW n') (loW n') (hiW d') (loW d') = (decide (n = n') && decide (d = d')) := by unfold eqF; rw [eqW_hl, eqW_hl]
@[go_sem] theorem eqF_h0 (n d : Int) : eqF (hiW n) (loW n) (hiW d) (loW d) 0 0 0 0 = (decide (n = 0) && decide (d = 0)) := by unfold eqF; rw [eqW_h0, eqW_h0]
theorem rf_ev {n d : Int} {a b c f : Int} {w w' : World} {e : Ending} (he : e = .returned (.agg #[.int .i64 a, .int .u64 b, .int .i64 c, .int .u64 f])) (h1 : IsW a b n) (h2 : IsW c f d) (hb : Below w.heap.size w w') : e = .returned (fx n d) ∧ Below w.heap.size w w' := by
  obtain ⟨rfl, rfl⟩ := isW_is h1
  obtain ⟨rfl, rfl⟩ := isW_is h2
  exact ⟨he, hb⟩
theorem rfb_ev {s : Bool} {n d : Int} {w w' : World} {e : Ending} (h : RFB s n d w e w') : e = .returned (.tuple #[fx n d, .bool s]) ∧ Below w.heap.size w w' := by
  obtain ⟨a, b, c, f, he, h1, h2, hb⟩ := h
  obtain ⟨rfl, rfl⟩ := isW_is h1
  obtain ⟨rfl, rfl⟩ := isW_is h2
  exact ⟨he, hb⟩
theorem rw_ev {n : Int} {w w' : World} {e : Ending} (h : RW n w e w') : e = .returned (wx n) ∧ Below w.heap.size w w' := by
  obtain ⟨a, b, he, h1, hb⟩ := h
  obtain ⟨rfl, rfl⟩ := isW_is h1
  exact ⟨he, hb⟩
/-- a fraction of the reference package. -/
abbrev rfi (n d : Int) : AW := .agg [.c (.bool (decide (n < 0))), .p (NumP n), .c (.bool (decide (d < 0))), .p (NumP d)]
abbrev rfv (n d : Int) : AV := .w (rfi n d)
theorem nea_eq {n d : Int} (hd : 0 < d) : nea n d = (n + n + d) / (d * 2) := by
  have h1 := Int.mul_ediv_add_emod n d
  have h2 := Int.emod_nonneg n (show d ≠ 0 by omega)
  have h3 := Int.emod_lt_of_pos n hd
  unfold nea
  generalize n / d = q at *
  generalize n % d = r at *
  have e : n + n + d = (r + r + d) + q * (d * 2) := by rw [← h1, Int.mul_comm q (d * 2), Int.mul_assoc, Int.mul_left_comm d 2 q]; omega
  rw [e, Int.add_mul_ediv_right _ _ (by omega)]
  split
  · rw [Int.ediv_eq_zero_of_lt (by omega) (by omega)]; omega
  · have : (r + r + d) / (d * 2) = 1 := by
      rw [show r + r + d = (r + r - d) + 1 * (d * 2) by omega, Int.add_mul_ediv_right _ _ (by omega), Int.ediv_eq_zero_of_lt (by omega) (by omega)]
      omega
    rw [this]; omega
theorem snap_eq {n d : Int} (k : Nat) (hd : 0 < d) : (n + n + d * 2 ^ k) / (d * 2 ^ (k + 1)) = sna n d k := by
  unfold sna
  rcases k with _ | k
  · rw [if_pos rfl, nea_eq hd]
    simp
  · rw [if_neg (by omega), nea_eq (Int.pow_pos (by decide))]
    have hp : (0 : Int) < 2 ^ k := Int.pow_pos (by decide)
    rw [Int.pow_succ 2 (k + 1), Int.pow_succ 2 k]
    generalize (2 : Int) ^ k = Q at *
    have e1 : (n + n + d * (Q * 2)) / (d * (Q * 2 * 2)) = (n + d * Q) / (d * (Q * 2)) := by
      rw [show n + n + d * (Q * 2) = 2 * (n + d * Q) by rw [Int.mul_comm Q 2, Int.mul_left_comm]; omega, show d * (Q * 2 * 2) = 2 * (d * (Q * 2)) by rw [Int.mul_comm (Q * 2) 2, Int.mul_left_comm], Int.mul_ediv_mul_of_pos _ _ (by decide)]
    have e2 : (n / d + n / d + Q * 2) / (Q * 2 * 2) = (n / d + Q) / (Q * 2) := by
      rw [show n / d + n / d + Q * 2 = 2 * (n / d + Q) by omega, Int.mul_comm (Q * 2) 2, Int.mul_ediv_mul_of_pos _ _ (by decide)]
    rw [e1, e2, ← Int.ediv_ediv_of_nonneg (by omega), Int.mul_comm d Q, Int.add_mul_ediv_right _ _ (by omega)]
end Go.Proofs.Ytpopeipcjpfbaaa
