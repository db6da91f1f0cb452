/-
  Contracts of the reference package: Power. My own text.
-/
import Derived.Test.YtinjgiigmlikpaaRefK
namespace Go.Proofs.Ytinjgiigmlikpaa
open Go.RowKit
set_option linter.unusedVariables false

theorem pow2_bd (j : Nat) : (0 : Int) < 2 ^ j ∧ (2 : Int) ^ j < 10000 ^ (j + 1) := by
  induction j with
  | zero => decide
  | succ j ih => rw [Int.pow_succ, Int.pow_succ (10000 : Int) (j + 1)]; omega
theorem pow2_abs (j : Nat) : (((2 : Int) ^ j).natAbs : Int) < 10000 ^ (j + 1) := by have := pow2_bd j; omega
theorem pow2_double (j : Nat) : (2 : Int) ^ j + 2 ^ j = 2 ^ (j + 1) := by rw [Int.pow_succ]; omega
set_option maxHeartbeats 1000000 in
set_option maxRecDepth 100000 in
theorem rPower_new (k : Nat) (w : World) (hk : k ≤ 800) : Calls Try.prog 49 #[.int .i64 k] w (RNF (2 ^ k) w) := by
  go_enter Try.func49, Try.ntmps49
  go_wp2_with fail
  refine (rOf_new 1 _ (by omega) (by omega)).mono ?_
  rintro e w1 ⟨x1, A1, l1, c1, rfl, h1, hb1, hF1⟩
  replace hF1 : Hid (Fr w.heap.size A1) := fun a e => Nat.le_trans (by simp) (hF1 a e)
  have B0 : Box w1 w.heap.size (.bool false) (.slice none 0 0) := (Box.new rfl).call hb1
  have z1 := Lib.hid hb1.size
  have bl1 : Below w.heap.size w w1 := below_call (below_alloc (Below.refl _ _) _) hb1
  clear hb1
  go_wp2_with fail
  go_loopw [4] (fun i wr => ∃ (j : Nat) (x : Bool) (A : Option Addr) (l c : Nat), i = .int .i64 j ∧ j ≤ k ∧ Box wr w.heap.size (.bool false) (.slice none 0 0) ∧ Box wr w1.heap.size (.bool x) (.slice A l c) ∧ IsN wr x A l c (2 ^ j) ∧ Below w.heap.size w wr ∧ Hid (Fr w.heap.size A)) (fun i _ => k - (intOf i).toNat)
  case atStart =>
    refine ⟨0, x1, A1, l1, c1, rfl, Nat.zero_le _, B0.alloc _, Box.new rfl, ?_, below_alloc bl1 _, hF1⟩
    exact h1.alloc _
  case round =>
    obtain ⟨j, x, A, l, c, rfl, hj, hB0, hB1, hN, hbl, hFA⟩ := hrel
    clear hF1
    have hl := hN.len (pow2_abs j)
    obtain ⟨⟨p1, p2⟩, p3, p4⟩ := id hB1
    obtain ⟨⟨q1, q2⟩, q3, q4⟩ := id hB0
    have hlt : w.heap.size < w1.heap.size := by have := z1.out; simp at this; omega
    by_cases hjk : j < k
    · go_wp2_with (go_at_call 52; ((with_reducible refine (rAdd_new _ _ _ _ _ _ _ _ _ _ _ hN hN (by omega) (by omega)).mono ?_); rintro e w2 ⟨x2, A2, l2, c2, rfl, h2, hb2, hF2⟩; replace hF2 : Hid (Fr w.heap.size A2) := (fun a e => Nat.le_trans hbl.size (hF2 a e)); clear hFA; rw [pow2_double] at h2; clear p1 p2 p3 p4 q1 q2 q3 q4; have hB1' := hB1.call hb2; have hB0' := hB0.call hb2; obtain ⟨⟨p1, p2⟩, p3, p4⟩ := id hB1'))
      refine ⟨⟨j + 1, x2, A2, l2, c2, by go_num, by omega, (hB0'.set _ (by omega)).set _ (by omega), Box.put (HasBox.of hB1'), h2.put (HasBB.of hB1'), ?_, hF2⟩, ?_⟩
      · exact below_set (below_set (below_call hbl hb2) _ _ _ (by omega)) _ _ _ (by omega)
      · simp [intOf]; omega
    · obtain rfl : j = k := by omega
      go_wp2
      refine bodyPost_ret (v := .agg #[.bool x, .slice A l c]) (by simp only [results, Try.results49]; go_simp) rfl ⟨_, _, _, _, rfl, ?_, ?_, hFA⟩
      · exact hN.put (HasBB.of hB0)
      · exact below_set (below_set hbl _ _ _ (by omega)) _ _ _ (by omega)
theorem rPower_any (k : Nat) (w : World) (hk : k ≤ 800) : Calls Try.prog 49 #[.int .i64 k] w (RN (2 ^ k) w) := (rPower_new k w hk).mono fun _ _ h => h.rn
end Go.Proofs.Ytinjgiigmlikpaa
