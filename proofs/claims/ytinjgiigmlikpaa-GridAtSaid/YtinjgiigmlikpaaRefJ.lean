/-
  Contracts of the reference package: Of, Unsigned. My own text.
-/
import Derived.Test.YtinjgiigmlikpaaRefI
namespace Go.Proofs.Ytinjgiigmlikpaa
open Go.RowKit
set_option linter.unusedVariables false

theorem dvx_ge {os : List Int} (h : IsD os) {y : Int} (hy : 0 ≤ y) : (10000 : Int) ^ os.length * y ≤ dvx os y := by
  induction os with
  | nil => simp [dvx]
  | cons d ds ih =>
    have h1 := h.head
    have h2 := ih h.tail
    rw [List.length_cons, Int.pow_succ, dvx, Int.mul_comm (10000 ^ ds.length) 10000, Int.mul_assoc]
    omega
/-- what the rounds of Of and Unsigned keep: N: the number without its sign; z: what is left of it. -/
structure OfR (w wr : World) (x : Bool) (N : Nat) (v : Value) (k : Nat) (os : List Int) (z : Nat) : Prop where
  b0 : Box wr w.heap.size (.bool false) (.slice none 0 0)
  b1 : Box wr (w.heap.size + 1) (.bool x) v
  own : wr.ownsRow (w.heap.size + 2) 3 1 v k (os.map (Value.int .i64))
  len : os.length = k
  dg : IsD os
  val : dvx os z = N
  nm : z = 0 → NoZ os
  below : Below w.heap.size w wr
theorem OfR.short {w wr : World} {x : Bool} {N : Nat} {v : Value} {k : Nat} {os : List Int} {z : Nat} (h : OfR w wr x N v k os z) (hN : N < 100000000000000000000) (hz : 0 < z) : k < 5 := by
  rcases Nat.lt_or_ge k 5 with q | q
  · exact q
  · exfalso
    have h1 := dvx_ge h.dg (y := z) (by omega)
    rw [h.val, h.len] at h1
    have h2 : (10000 : Int) ^ 5 ≤ 10000 ^ k := pow_mono q
    have h3 : (10000 : Int) ^ k * 1 ≤ 10000 ^ k * z := Int.mul_le_mul_of_nonneg_left (by omega) (Int.le_of_lt (pow_pos' k))
    have h4 : (10000 : Int) ^ 5 = 100000000000000000000 := by decide
    omega
theorem of_round {w wr w1 : World} {x : Bool} {N : Nat} {v v' : Value} {k : Nat} {os : List Int} {z : Nat} {o : Obj} (h : OfR w wr x N v k os z) (hz : 0 < z)
    (hown : w1.ownsRow (w.heap.size + 2) 3 1 v' (k + 1) (os.map (Value.int .i64) ++ [.int .i64 ((z % 10000 : Nat) : Int)])) (hg : (wr.alloc o).grownBy w1 v.ownBlock) :
    Box w1 (w.heap.size + 1) (.bool x) v ∧ OfR w (w1.setCell ⟨w.heap.size + 1, 1, none⟩ v') x N v' (k + 1) (os ++ [((z % 10000 : Nat) : Int)]) (z / 10000) := by
  have hb0 := h.b0.lt
  have hb1 := h.b1.lt
  have hne : ∀ j, j < w.heap.size + 2 → some j ≠ v.ownBlock := fun j hj e => by have := h.own.lt j e.symm; omega
  have keep : ∀ (b : Nat) (u u' : Value), b < w.heap.size + 2 → Box wr b u u' → Box w1 b u u' := fun b u u' hb hB => by
    have hlt := hB.lt
    obtain ⟨⟨c1, c2⟩, f1, f2⟩ := hB
    have hblk := hg.block b (by simp; omega) (hne b hb)
    refine ⟨⟨?_, ?_⟩, ?_, ?_⟩
    · rw [World.cell?_of_block (w := wr.alloc o) (a := ⟨b, 0, none⟩) hblk, World.cell?_alloc_lt _ _ _ (by omega)]; exact c1
    · rw [World.cell?_of_block (w := wr.alloc o) (a := ⟨b, 1, none⟩) hblk, World.cell?_alloc_lt _ _ _ (by omega)]; exact c2
    · rw [World.frozen?_of_block (w := wr.alloc o) (a := ⟨b, 0, none⟩) hblk, World.frozen?_alloc_past _ _ _ (by omega)]; exact f1
    · rw [World.frozen?_of_block (w := wr.alloc o) (a := ⟨b, 1, none⟩) hblk, World.frozen?_alloc_past _ _ _ (by omega)]; exact f2
  have k1 := keep _ _ _ (by omega) h.b1
  refine ⟨k1, ⟨(keep _ _ _ (by omega) h.b0).set _ (by omega), ?_, ?_, by rw [List.length_append, h.len]; rfl, h.dg.snoc (by omega) (by omega), ?_, fun q => ?_, ?_⟩⟩
  · obtain ⟨⟨c1, c2⟩, f1, f2⟩ := k1
    refine ⟨⟨?_, World.cell?_setCell_same _ _ _ c2⟩, ?_, ?_⟩
    · rw [World.cell?_setCell_other _ _ _ _ (by simp)]; exact c1
    · go_simp
    · go_simp
  · rw [List.map_append]; exact ownsRow_setCell_below hown (by simp) _
  · rw [dvx_snoc, ← h.val]; congr 1; omega
  · intro hp
    rw [List.length_append]
    simp
    omega
  · refine (((h.below.alloc h.below.size o).grown hg (by have := h.below.size; simp; omega) (fun j hj => by have := (h.own.lt j hj).1; omega))).setCell (by simp) _
theorem of_std {x : Bool} {N : Nat} {os : List Int} (hd : IsD os) (hv : dvx os 0 = N) (hn : NoZ os) {n : Int} (hx : n = sg x N) (hs : x = true → 0 < N) : Std x os n := by
  refine ⟨hd, hn, fun q e => ?_, by rw [hx]; unfold dval; rw [hv]⟩
  have := hs q
  rw [e] at hv
  simp [dvx] at hv
  omega
theorem of_end {w wr : World} {x : Bool} {N : Nat} {v : Value} {k : Nat} {os : List Int} {z : Nat} (h : OfR w wr x N v k os z) (hz : z = 0) {n : Int} (hx : n = sg x N) (hs : x = true → 0 < N) :
    ∃ A c, v = .slice A k c ∧ IsN wr x A k c n ∧ Fr (w.heap.size + 2) A := by
  obtain ⟨A, c, rfl, hD⟩ := Dg.own h.own
  have hF := Fr.own h.own
  have hv := h.val
  have hn := h.nm hz
  rw [hz] at hv
  exact ⟨A, c, rfl, ⟨os, hD, of_std h.dg hv hn hx hs⟩, hF⟩
theorem tdiv_abs (z : Int) : (z.tdiv 10000).natAbs = z.natAbs / 10000 := by rw [Int.natAbs_tdiv]; rfl
theorem tmod_abs (z : Int) : (z.tmod 10000).natAbs = z.natAbs % 10000 := by rw [Int.natAbs_tmod]; rfl
set_option maxHeartbeats 1000000 in
set_option maxRecDepth 100000 in
theorem unsigned_new (n : Nat) (w : World) (h : n < 18446744073709551616) : Calls Try.prog 67 #[.int .u64 n] w (RNF n w) := by
  obtain ⟨i0, hi0, hz0, hz1, hz2⟩ := info_parts info_int
  have I0 := Lib.hid hi0
  have I1 := Lib.hid hz0
  have I2 := Lib.hid hz1
  have I3 := Lib.hid hz2
  clear hi0 hz0 hz1 hz2
  have ST : Hid (∀ w : World, OfR w ((w.alloc (.cells #[.bool false, .slice none 0 0] 31)).alloc (.cells #[.bool false, .slice none 0 0] 31)) false n (.slice none 0 0) 0 [] n) := fun w =>
    ⟨(Box.new rfl).alloc _, Box.new (by simp), World.ownsRow_nil _ _ _ _, rfl, IsD.nil, rfl, fun _ => nm_nil, by (repeat (first | (with_reducible exact Below.refl _ _) | with_reducible assumption | (with_reducible refine below_alloc ?_ _) | (focus ((with_reducible refine below_set ?_ _ _ _ ?_); rotate_left; omega)) | (with_reducible refine Below.drew ?_)))⟩
  go_enter Try.func67, Try.ntmps67
  go_wp2
  go_loopw [0] (fun i wr => ∃ (z k : Nat) (v : Value) (os : List Int), i = .int .u64 z ∧ z ≤ n ∧ OfR w wr false n v k os z) (fun i _ => (intOf i).toNat)
  case atStart => exact ⟨n, 0, _, [], rfl, Nat.le_refl _, ST.out w⟩
  case round =>
    obtain ⟨z, k, v, os, rfl, hzn, hr⟩ := hrel
    obtain ⟨⟨c1, c2⟩, f1, f2⟩ := id hr.b1
    obtain ⟨⟨c3, c4⟩, f3, f4⟩ := id hr.b0
    have HO := Lib.hid hr.own
    have HR := Lib.hid hr
    have hsz := hr.b1.lt
    by_cases hz : z = 0
    · obtain ⟨A, c, rfl, hN, hF⟩ := of_end hr hz (n := n) rfl (fun h => by cases h)
      have HB := Lib.hid hr.below
      have HB0 := Lib.hid hr.b0
      subst hz
      clear hr
      go_wp2
      refine bodyPost_ret (v := .agg #[.bool false, .slice A k c]) (by simp only [results, Try.results67]; go_simp) rfl ⟨_, _, _, _, rfl, ?_, ?_, fun a e => Nat.le_trans (by omega) (hF a e)⟩
      · exact hN.put (HasBB.of HB0.out)
      · exact below_set (below_set HB.out _ _ _ (by omega)) _ _ _ (by omega)
    · have hz0 : 0 < z := by omega
      have hk5 := hr.short (by omega) hz0
      have hne : ((z : Int) != 0) = true := by simpa using hz
      have N := Lib.hid (fun (w1 : World) (v' : Value) (o : Obj) hown hg => of_round (w1 := w1) (v' := v') (o := o) HR.out hz0 hown hg)
      clear hr hz
      go_wp2_with (at_builtin; refine wpList_append_own _ rfl _ _ 29 rfl (w.heap.size + 2) 3 i0 (.int .i64 0) 1 8 Try.underlying29 I0.out I1.out I2.out I3.out rfl (by decide) _ _ _ rfl (HO.out.alloc _) ⟨wr.heap.size, 0, none⟩ 1 1 [.int .i64 ((z % 10000 : Nat) : Int)] rfl rfl (cell_one_new _ _ _) (by simp [Value.oneCell']) (by simp only [maxLen]; omega) (by omega) (by simp; omega) ?_; intro v' w1 hown' hgrow hiff; clear hiff; have R := N.out w1 v' _ hown' hgrow; clear hown' hgrow c1 c2 f1 f2 c3 c4 f3 f4; obtain ⟨⟨⟨c1, c2⟩, f1, f2⟩, R⟩ := R; obtain ⟨A', c', rfl, hDD⟩ := Dg.own R.own; clear hDD; replace R := Lib.hid R)
      refine ⟨⟨z / 10000, k + 1, _, _, by go_num, by omega, R.out⟩, ?_⟩
      simp [intOf]; omega
theorem unsigned_any (n : Nat) (w : World) (h : n < 18446744073709551616) : Calls Try.prog 67 #[.int .u64 n] w (RN n w) := (unsigned_new n w h).mono fun _ _ h => h.rn
end Go.Proofs.Ytinjgiigmlikpaa
