/-
  Contracts of the reference package: Mul. My own text.
-/
import Derived.Test.YtinjgiigmlikpaaRefL
namespace Go.Proofs.Ytinjgiigmlikpaa
open Go.RowKit
set_option linter.unusedVariables false

/-- the memory of a product under way: its two numbers, the place of its result, and the row os. -/
structure MulW (w wr : World) (x : Bool) (A : Option Addr) (l c : Nat) (ds : List Int) (y : Bool) (B : Option Addr) (m d : Nat) (es : List Int) (os : List Int) : Prop where
  b0 : Box wr w.heap.size (.bool x) (.slice A l c)
  b1 : Box wr (w.heap.size + 1) (.bool y) (.slice B m d)
  b2 : Box wr (w.heap.size + 1 + 1) (.bool false) (.slice none 0 0)
  own : wr.ownsRow (w.heap.size + 1 + 1 + 1) 3 1 (.slice (some ⟨w.heap.size + 1 + 1 + 1, 0, none⟩) (l + m + 1) (l + m + 1)) (l + m + 1) (os.map (Value.int .i64))
  dg : IsD os
  below : Below w.heap.size w wr
section
variable {w wr : World} {x y : Bool} {A B : Option Addr} {l c m d : Nat} {ds es os : List Int}
theorem MulW.len (h : MulW w wr x A l c ds y B m d es os) : os.length = l + m + 1 := by have := h.own.1; simpa using this
theorem MulW.drewN (h : MulW w wr x A l c ds y B m d es os) (n : Nat) : MulW w (wr.drewN n) x A l c ds y B m d es os :=
  ⟨h.b0, h.b1, h.b2, h.own, h.dg, bel_drewN h.below n⟩
theorem MulW.cell (h : MulW w wr x A l c ds y B m d es os) {j : Nat} (hj : j < l + m + 1) : wr.cell? ⟨w.heap.size + 1 + 1 + 1, j, none⟩ = some (.int .i64 (os.getD j 0)) ∧ wr.frozen? ⟨w.heap.size + 1 + 1 + 1, j, none⟩ = false := by
  refine ⟨?_, h.own.frozenAt j⟩
  have hl := h.len
  rw [h.own.cellAt j (by omega), List.getElem?_map, List.getElem?_eq_getElem (by omega), List.getD_eq_getElem?_getD, List.getElem?_eq_getElem (by omega)]
  rfl
theorem MulW.store (h : MulW w wr x A l c ds y B m d es os) (j : Nat) {s : Int} (h0 : 0 ≤ s) (h1 : s < 10000) : MulW w (wr.setCell ⟨w.heap.size + 1 + 1 + 1, j, none⟩ (.int .i64 s)) x A l c ds y B m d es (os.set j s) := by
  refine ⟨h.b0.set _ (by omega), h.b1.set _ (by omega), h.b2.set _ (by omega), ?_, h.dg.set j h0 h1, below_set h.below _ _ _ (by omega)⟩
  rw [List.map_set]
  exact (h.own.stored j _).1
end
/-- what an inner round keeps. -/
structure MulI (os0 : List Int) (i l m : Nat) (a : Int) (es : List Int) (k : Nat) (cc : Int) (os : List Int) : Prop where
  c0 : 0 ≤ cc
  c1 : cc ≤ 9999
  val : MulIn os i k cc a es (hi os0 i + a * dval es)
  low : os.take i = os0.take i
  top : ∀ j, i + m + 1 ≤ j → os.getD j 0 = 0
  at_ : k ≤ m → os.getD (i + m) 0 = 0
  more : 0 < cc → k ≤ m
  kk : k ≤ m + 1
/-- what an outer round keeps. -/
structure MulO (os ds es : List Int) (i l m : Nat) : Prop where
  val : MulOut os ds es i
  top : ∀ j, i + m ≤ j → os.getD j 0 = 0
  ii : i ≤ l
theorem mulI_start {os ds es : List Int} {i l m : Nat} (h : MulO os ds es i l m) (a : Int) : MulI os i l m a es 0 0 os :=
  ⟨by omega, by omega, mulIn_start _ _ _ _, rfl, fun j hj => h.top j (by omega), fun _ => h.top _ (by omega), fun q => absurd q (by omega), by omega⟩
theorem mulI_round {os0 os es : List Int} {i l m k : Nat} {a cc s : Int} (h : MulI os0 i l m a es k cc os) (hlen : os.length = l + m + 1) (hi' : i < l) (hd : IsD os) (hem : es.length = m) (he : IsD es) (ha : 0 ≤ a ∧ a < 10000)
    (hgo : k < m ∨ 0 < cc) (hs : s = cc + os.getD (i + k) 0 + a * es.getD k 0) : MulI os0 i l m a es (k + 1) (s / 10000) (os.set (i + k) (s % 10000)) := by
  have g1 := hd.getD (i + k)
  have g2 := he.getD k
  have g3 := mul_bd ha g2
  have h0 := h.c0; have h1 := h.c1
  have hkm : k ≤ m := by rcases hgo with q | q; omega; exact h.more q
  refine ⟨by omega, by omega, mulIn_step h.val (by omega) hs, by rw [take_set_ge (by omega)]; exact h.low, fun j hj => ?_, fun q => ?_, fun q => ?_, by omega⟩
  · rw [getD_set_ne (by omega)]; exact h.top j hj
  · rw [getD_set_ne (by omega)]; exact h.at_ hkm
  · by_cases e : k < m
    · omega
    · have e1 : k = m := by omega
      have z1 : es.getD k 0 = 0 := by simp [List.getD_eq_getElem?_getD, List.getElem?_eq_none (show es.length ≤ k by omega)]
      have z2 := h.at_ hkm
      rw [z1, e1, z2, Int.mul_zero] at hs
      omega
theorem mulI_end {os0 os ds es : List Int} {i l m k : Nat} {a cc : Int} (h : MulI os0 i l m a es k cc os) (ho : MulO os0 ds es i l m) (hlen : os.length = l + m + 1) (hi' : i < l) (hem : es.length = m) (hk : m ≤ k) (hc : cc ≤ 0) (ha : a = ds.getD i 0) : MulO os ds es (i + 1) l m := by
  have e0 : cc = 0 := by have := h.c0; omega
  have hv := h.val
  rw [e0] at hv
  have he := mulIn_end hv (by omega)
  rw [ha] at he
  exact ⟨mulOut_step ho.val (by omega) h.low he, fun j hj => h.top j (by omega), by omega⟩
theorem mulI_in {os0 os es : List Int} {i l m k : Nat} {a cc : Int} (h : MulI os0 i l m a es k cc os) (hi' : i < l) (hgo : k < m ∨ 0 < cc) : i + k < l + m + 1 := by
  have : k ≤ m := by rcases hgo with q | q; omega; exact h.more q
  omega
theorem mulW_made {w W w3 : World} {x y : Bool} {A B : Option Addr} {l c m d : Nat} {ds es : List Int} {z : Value} (hz : z = .int .i64 0) (hsz : W.heap.size = w.heap.size + 1 + 1 + 1)
    (b0 : Box W w.heap.size (.bool x) (.slice A l c)) (b1 : Box W (w.heap.size + 1) (.bool y) (.slice B m d)) (b2 : Box W (w.heap.size + 1 + 1) (.bool false) (.slice none 0 0)) (hb : Below w.heap.size w W)
    (hown : w3.ownsRow (w.heap.size + 1 + 1 + 1) 3 1 (.slice (some ⟨W.heap.size, 0, none⟩) (l + m + 1) (l + m + 1)) (l + m + 1) (madeCells z.cells ((l + m + 1) * 1)).toList) (hg : W.grownBy w3 none) :
    MulW w w3 x A l c ds y B m d es (List.replicate (l + m + 1) 0) := by
  have hB : Below W.heap.size W w3 := ⟨hg.os, hg.tape, hg.output, hg.size, fun i hi => hg.block i hi (by simp)⟩
  refine ⟨b0.call hB, b1.call hB, b2.call hB, ?_, isD_zeros _, below_call hb hB⟩
  rw [hsz] at hown
  rw [hz] at hown
  have e : (madeCells (Value.int .i64 0).cells ((l + m + 1) * 1)).toList = (List.replicate (l + m + 1) (0 : Int)).map (Value.int .i64) := by
    rw [Nat.mul_one, List.map_replicate]
    exact toList_madeCells_one _ _
  rw [e] at hown
  exact hown
end Go.Proofs.Ytinjgiigmlikpaa
