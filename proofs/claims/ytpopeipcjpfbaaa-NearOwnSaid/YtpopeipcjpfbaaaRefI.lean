/-
  Contracts of the reference package: Add. My own text.
  Contracts of the reference package: Of, Unsigned. My own text.
  Contracts of the reference package: Of. My own text.
  Contracts of the reference package: Power. My own text.
-/
import Derived.Test.YtpopeipcjpfbaaaRefB
namespace Go.Proofs.Ytpopeipcjpfbaaa
open Go.RowKit
set_option linter.unusedVariables false

theorem icmp_ge {a b : Int} : (icmp a b ≥ 0) ↔ b ≤ a := by
  unfold icmp
  repeat' split
  all_goals omega
theorem icmp_bd (a b : Int) : -1 ≤ icmp a b ∧ icmp a b ≤ 1 := by
  unfold icmp
  repeat' split
  all_goals omega
end Go.Proofs.Ytpopeipcjpfbaaa
namespace Go.Proofs.Ytpopeipcjpfbaaa
open Go.RowKit
set_option linter.unusedVariables false

theorem dvx_ge {os : List Int} (h : IsD os) {y : Int} (hy : 0 ≤ y) : (10000 : Int) ^ os.length * y ≤ dvx os y := by
  induction os with
  | nil => simp [dvx]
  | cons d ds ih =>
    have h1 := h.head
    have h2 := ih h.tail
    rw [List.length_cons, Int.pow_succ, dvx, Int.mul_comm (10000 ^ ds.length) 10000, Int.mul_assoc]
    omega
/-- what the rounds of Of and Unsigned keep: N: the number without its sign; z: what is left of it. -/
structure OfR (w wr : World) (x : Bool) (N : Nat) (v : Value) (k : Nat) (os : List Int) (z : Nat) : Prop where
  b0 : Box wr w.heap.size (.bool false) (.slice none 0 0)
  b1 : Box wr (w.heap.size + 1) (.bool x) v
  own : wr.ownsRow (w.heap.size + 2) 3 1 v k (os.map (Value.int .i64))
  len : os.length = k
  dg : IsD os
  val : dvx os z = N
  nm : z = 0 → NoZ os
  below : Below w.heap.size w wr
theorem OfR.short {w wr : World} {x : Bool} {N : Nat} {v : Value} {k : Nat} {os : List Int} {z : Nat} (h : OfR w wr x N v k os z) (hN : N < 100000000000000000000) (hz : 0 < z) : k < 5 := by
  rcases Nat.lt_or_ge k 5 with q | q
  · exact q
  · exfalso
    have h1 := dvx_ge h.dg (y := z) (by omega)
    rw [h.val, h.len] at h1
    have h2 : (10000 : Int) ^ 5 ≤ 10000 ^ k := pow_mono q
    have h3 : (10000 : Int) ^ k * 1 ≤ 10000 ^ k * z := Int.mul_le_mul_of_nonneg_left (by omega) (Int.le_of_lt (pow_pos' k))
    have h4 : (10000 : Int) ^ 5 = 100000000000000000000 := by decide
    omega
theorem of_round {w wr w1 : World} {x : Bool} {N : Nat} {v v' : Value} {k : Nat} {os : List Int} {z : Nat} {o : Obj} (h : OfR w wr x N v k os z) (hz : 0 < z)
    (hown : w1.ownsRow (w.heap.size + 2) 3 1 v' (k + 1) (os.map (Value.int .i64) ++ [.int .i64 ((z % 10000 : Nat) : Int)])) (hg : (wr.alloc o).grownBy w1 v.ownBlock) :
    Box w1 (w.heap.size + 1) (.bool x) v ∧ OfR w (w1.setCell ⟨w.heap.size + 1, 1, none⟩ v') x N v' (k + 1) (os ++ [((z % 10000 : Nat) : Int)]) (z / 10000) := by
  have hb0 := h.b0.lt
  have hb1 := h.b1.lt
  have hne : ∀ j, j < w.heap.size + 2 → some j ≠ v.ownBlock := fun j hj e => by have := h.own.lt j e.symm; omega
  have keep : ∀ (b : Nat) (u u' : Value), b < w.heap.size + 2 → Box wr b u u' → Box w1 b u u' := fun b u u' hb hB => by
    have hlt := hB.lt
    obtain ⟨⟨c1, c2⟩, f1, f2⟩ := hB
    have hblk := hg.block b (by simp; omega) (hne b hb)
    refine ⟨⟨?_, ?_⟩, ?_, ?_⟩
    · rw [World.cell?_of_block (w := wr.alloc o) (a := ⟨b, 0, none⟩) hblk, World.cell?_alloc_lt _ _ _ (by omega)]; exact c1
    · rw [World.cell?_of_block (w := wr.alloc o) (a := ⟨b, 1, none⟩) hblk, World.cell?_alloc_lt _ _ _ (by omega)]; exact c2
    · rw [World.frozen?_of_block (w := wr.alloc o) (a := ⟨b, 0, none⟩) hblk, World.frozen?_alloc_past _ _ _ (by omega)]; exact f1
    · rw [World.frozen?_of_block (w := wr.alloc o) (a := ⟨b, 1, none⟩) hblk, World.frozen?_alloc_past _ _ _ (by omega)]; exact f2
  have k1 := keep _ _ _ (by omega) h.b1
  refine ⟨k1, ⟨(keep _ _ _ (by omega) h.b0).set _ (by omega), ?_, ?_, by rw [List.length_append, h.len]; rfl, h.dg.snoc (by omega) (by omega), ?_, fun q => ?_, ?_⟩⟩
  · obtain ⟨⟨c1, c2⟩, f1, f2⟩ := k1
    refine ⟨⟨?_, World.cell?_setCell_same _ _ _ c2⟩, ?_, ?_⟩
    · rw [World.cell?_setCell_other _ _ _ _ (by simp)]; exact c1
    · go_simp
    · go_simp
  · rw [List.map_append]; exact ownsRow_setCell_below hown (by simp) _
  · rw [dvx_snoc, ← h.val]; congr 1; omega
  · intro hp
    rw [List.length_append]
    simp
    omega
  · refine (((h.below.alloc h.below.size o).grown hg (by have := h.below.size; simp; omega) (fun j hj => by have := (h.own.lt j hj).1; omega))).setCell (by simp) _
theorem of_std {x : Bool} {N : Nat} {os : List Int} (hd : IsD os) (hv : dvx os 0 = N) (hn : NoZ os) {n : Int} (hx : n = sg x N) (hs : x = true → 0 < N) : Std x os n := by
  refine ⟨hd, hn, fun q e => ?_, by rw [hx]; unfold dval; rw [hv]⟩
  have := hs q
  rw [e] at hv
  simp [dvx] at hv
  omega
theorem of_end {w wr : World} {x : Bool} {N : Nat} {v : Value} {k : Nat} {os : List Int} {z : Nat} (h : OfR w wr x N v k os z) (hz : z = 0) {n : Int} (hx : n = sg x N) (hs : x = true → 0 < N) :
    ∃ A c, v = .slice A k c ∧ IsN wr x A k c n ∧ Fr (w.heap.size + 2) A := by
  obtain ⟨A, c, rfl, hD⟩ := Dg.own h.own
  have hF := Fr.own h.own
  have hv := h.val
  have hn := h.nm hz
  rw [hz] at hv
  exact ⟨A, c, rfl, ⟨os, hD, of_std h.dg hv hn hx hs⟩, hF⟩
theorem tdiv_abs (z : Int) : (z.tdiv 10000).natAbs = z.natAbs / 10000 := by rw [Int.natAbs_tdiv]; rfl
theorem tmod_abs (z : Int) : (z.tmod 10000).natAbs = z.natAbs % 10000 := by rw [Int.natAbs_tmod]; rfl
end Go.Proofs.Ytpopeipcjpfbaaa
namespace Go.Proofs.Ytpopeipcjpfbaaa
open Go.RowKit
set_option linter.unusedVariables false

theorem neg_tmod (y : Nat) : (-(y : Int)).tmod 10000 = -((y : Int) % 10000) := by rw [Int.neg_tmod, Int.tmod_eq_emod_of_nonneg (by omega)]
theorem neg_tdiv (y : Nat) : (-(y : Int)).tdiv 10000 = -((y : Int) / 10000) := by rw [Int.neg_tdiv, Int.tdiv_eq_ediv_of_nonneg (by omega)]
end Go.Proofs.Ytpopeipcjpfbaaa
namespace Go.Proofs.Ytpopeipcjpfbaaa
open Go.RowKit
set_option linter.unusedVariables false

theorem pow2_bd (j : Nat) : (0 : Int) < 2 ^ j ∧ (2 : Int) ^ j < 10000 ^ (j + 1) := by
  induction j with
  | zero => decide
  | succ j ih => rw [Int.pow_succ, Int.pow_succ (10000 : Int) (j + 1)]; omega
theorem pow2_abs (j : Nat) : (((2 : Int) ^ j).natAbs : Int) < 10000 ^ (j + 1) := by have := pow2_bd j; omega
theorem pow2_double (j : Nat) : (2 : Int) ^ j + 2 ^ j = 2 ^ (j + 1) := by rw [Int.pow_succ]; omega
end Go.Proofs.Ytpopeipcjpfbaaa
