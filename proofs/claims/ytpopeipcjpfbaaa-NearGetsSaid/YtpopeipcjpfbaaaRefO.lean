/-
  Contracts of the reference package: Mul. My own text.
  Contracts of the reference package: Mul. My own text.
  Contracts of the reference package: Wide, Fits. My own text.
  Contracts of the reference package: Fits; of the statements: num, same. My own text.
  Quotients of rows of digits: what the rounds keep, plain arithmetic; the memory of a division under way. My own text.
  Contracts of the reference package: Div. My own text.
-/
import Derived.Test.YtpopeipcjpfbaaaRegT
import Derived.Test.YtpopeipcjpfbaaaRefI
import Derived.Deep.DrawnRows
import Derived.Laws.OwnMore
import Derived.Test.YtpopeipcjpfbaaaRefM
import Derived.Deep.LoopGhost
namespace Go.Proofs.Ytpopeipcjpfbaaa
open Go.RowKit
set_option linter.unusedVariables false

/-- the memory of a product under way: its two numbers, the place of its result, and the row os. -/
structure MulW (w wr : World) (x : Bool) (A : Option Addr) (l c : Nat) (ds : List Int) (y : Bool) (B : Option Addr) (m d : Nat) (es : List Int) (os : List Int) : Prop where
  b0 : Box wr w.heap.size (.bool x) (.slice A l c)
  b1 : Box wr (w.heap.size + 1) (.bool y) (.slice B m d)
  b2 : Box wr (w.heap.size + 1 + 1) (.bool false) (.slice none 0 0)
  own : wr.ownsRow (w.heap.size + 1 + 1 + 1) 3 1 (.slice (some ⟨w.heap.size + 1 + 1 + 1, 0, none⟩) (l + m + 1) (l + m + 1)) (l + m + 1) (os.map (Value.int .i64))
  dg : IsD os
  below : Below w.heap.size w wr
section
variable {w wr : World} {x y : Bool} {A B : Option Addr} {l c m d : Nat} {ds es os : List Int}
theorem MulW.len (h : MulW w wr x A l c ds y B m d es os) : os.length = l + m + 1 := by have := h.own.1; simpa using this
theorem MulW.drewN (h : MulW w wr x A l c ds y B m d es os) (n : Nat) : MulW w (wr.drewN n) x A l c ds y B m d es os :=
  ⟨h.b0, h.b1, h.b2, h.own, h.dg, bel_drewN h.below n⟩
theorem MulW.cell (h : MulW w wr x A l c ds y B m d es os) {j : Nat} (hj : j < l + m + 1) : wr.cell? ⟨w.heap.size + 1 + 1 + 1, j, none⟩ = some (.int .i64 (os.getD j 0)) ∧ wr.frozen? ⟨w.heap.size + 1 + 1 + 1, j, none⟩ = false := by
  refine ⟨?_, h.own.frozenAt j⟩
  have hl := h.len
  rw [h.own.cellAt j (by omega), List.getElem?_map, List.getElem?_eq_getElem (by omega), List.getD_eq_getElem?_getD, List.getElem?_eq_getElem (by omega)]
  rfl
theorem MulW.store (h : MulW w wr x A l c ds y B m d es os) (j : Nat) {s : Int} (h0 : 0 ≤ s) (h1 : s < 10000) : MulW w (wr.setCell ⟨w.heap.size + 1 + 1 + 1, j, none⟩ (.int .i64 s)) x A l c ds y B m d es (os.set j s) := by
  refine ⟨h.b0.set _ (by omega), h.b1.set _ (by omega), h.b2.set _ (by omega), ?_, h.dg.set j h0 h1, below_set h.below _ _ _ (by omega)⟩
  rw [List.map_set]
  exact (h.own.stored j _).1
end
/-- what an inner round keeps. -/
structure MulI (os0 : List Int) (i l m : Nat) (a : Int) (es : List Int) (k : Nat) (cc : Int) (os : List Int) : Prop where
  c0 : 0 ≤ cc
  c1 : cc ≤ 9999
  val : MulIn os i k cc a es (hi os0 i + a * dval es)
  low : os.take i = os0.take i
  top : ∀ j, i + m + 1 ≤ j → os.getD j 0 = 0
  at_ : k ≤ m → os.getD (i + m) 0 = 0
  more : 0 < cc → k ≤ m
  kk : k ≤ m + 1
/-- what an outer round keeps. -/
structure MulO (os ds es : List Int) (i l m : Nat) : Prop where
  val : MulOut os ds es i
  top : ∀ j, i + m ≤ j → os.getD j 0 = 0
  ii : i ≤ l
theorem mulI_start {os ds es : List Int} {i l m : Nat} (h : MulO os ds es i l m) (a : Int) : MulI os i l m a es 0 0 os :=
  ⟨by omega, by omega, mulIn_start _ _ _ _, rfl, fun j hj => h.top j (by omega), fun _ => h.top _ (by omega), fun q => absurd q (by omega), by omega⟩
theorem mulI_round {os0 os es : List Int} {i l m k : Nat} {a cc s : Int} (h : MulI os0 i l m a es k cc os) (hlen : os.length = l + m + 1) (hi' : i < l) (hd : IsD os) (hem : es.length = m) (he : IsD es) (ha : 0 ≤ a ∧ a < 10000)
    (hgo : k < m ∨ 0 < cc) (hs : s = cc + os.getD (i + k) 0 + a * es.getD k 0) : MulI os0 i l m a es (k + 1) (s / 10000) (os.set (i + k) (s % 10000)) := by
  have g1 := hd.getD (i + k)
  have g2 := he.getD k
  have g3 := dig_bd ha g2
  have h0 := h.c0; have h1 := h.c1
  have hkm : k ≤ m := by rcases hgo with q | q; omega; exact h.more q
  refine ⟨by omega, by omega, mulIn_step h.val (by omega) hs, by rw [take_set_ge (by omega)]; exact h.low, fun j hj => ?_, fun q => ?_, fun q => ?_, by omega⟩
  · rw [getD_set_ne (by omega)]; exact h.top j hj
  · rw [getD_set_ne (by omega)]; exact h.at_ hkm
  · by_cases e : k < m
    · omega
    · have e1 : k = m := by omega
      have z1 : es.getD k 0 = 0 := by simp [List.getD_eq_getElem?_getD, List.getElem?_eq_none (show es.length ≤ k by omega)]
      have z2 := h.at_ hkm
      rw [z1, e1, z2, Int.mul_zero] at hs
      omega
theorem mulI_end {os0 os ds es : List Int} {i l m k : Nat} {a cc : Int} (h : MulI os0 i l m a es k cc os) (ho : MulO os0 ds es i l m) (hlen : os.length = l + m + 1) (hi' : i < l) (hem : es.length = m) (hk : m ≤ k) (hc : cc ≤ 0) (ha : a = ds.getD i 0) : MulO os ds es (i + 1) l m := by
  have e0 : cc = 0 := by have := h.c0; omega
  have hv := h.val
  rw [e0] at hv
  have he := mulIn_end hv (by omega)
  rw [ha] at he
  exact ⟨mulOut_step ho.val (by omega) h.low he, fun j hj => h.top j (by omega), by omega⟩
theorem mulI_in {os0 os es : List Int} {i l m k : Nat} {a cc : Int} (h : MulI os0 i l m a es k cc os) (hi' : i < l) (hgo : k < m ∨ 0 < cc) : i + k < l + m + 1 := by
  have : k ≤ m := by rcases hgo with q | q; omega; exact h.more q
  omega
theorem mulW_made {w W w3 : World} {x y : Bool} {A B : Option Addr} {l c m d : Nat} {ds es : List Int} {z : Value} (hz : z = .int .i64 0) (hsz : W.heap.size = w.heap.size + 1 + 1 + 1)
    (b0 : Box W w.heap.size (.bool x) (.slice A l c)) (b1 : Box W (w.heap.size + 1) (.bool y) (.slice B m d)) (b2 : Box W (w.heap.size + 1 + 1) (.bool false) (.slice none 0 0)) (hb : Below w.heap.size w W)
    (hown : w3.ownsRow (w.heap.size + 1 + 1 + 1) 3 1 (.slice (some ⟨W.heap.size, 0, none⟩) (l + m + 1) (l + m + 1)) (l + m + 1) (madeCells z.cells ((l + m + 1) * 1)).toList) (hg : W.grownBy w3 none) :
    MulW w w3 x A l c ds y B m d es (List.replicate (l + m + 1) 0) := by
  have hB : Below W.heap.size W w3 := ⟨hg.os, hg.tape, hg.output, hg.size, fun i hi => hg.block i hi (by simp)⟩
  refine ⟨b0.call hB, b1.call hB, b2.call hB, ?_, isD_zeros _, below_call hb hB⟩
  rw [hsz] at hown
  rw [hz] at hown
  have e : (madeCells (Value.int .i64 0).cells ((l + m + 1) * 1)).toList = (List.replicate (l + m + 1) (0 : Int)).map (Value.int .i64) := by
    rw [Nat.mul_one, List.map_replicate]
    exact toList_madeCells_one _ _
  rw [e] at hown
  exact hown
end Go.Proofs.Ytpopeipcjpfbaaa
namespace Go.Proofs.Ytpopeipcjpfbaaa
open Go.RowKit
set_option linter.unusedVariables false

theorem sg_mul (x y : Bool) (a b : Int) : sg (x != y) (a * b) = sg x a * sg y b := by
  cases x <;> cases y <;> simp [sg, Int.neg_mul, Int.mul_neg]
theorem IsN.conv {w : World} {neg : Bool} {A : Option Addr} {l c : Nat} {n m : Int} (h : IsN w neg A l c n) (e : n = m) : IsN w neg A l c m := e ▸ h
theorem MulW.row {w wr : World} {x y : Bool} {A B : Option Addr} {l c m d : Nat} {ds es os : List Int} (h : MulW w wr x A l c ds y B m d es os) : Dg wr (some ⟨w.heap.size + 1 + 1 + 1, 0, none⟩) (l + m + 1) (l + m + 1) os := by
  obtain ⟨A', c', e, hD⟩ := Dg.own h.own
  cases e
  exact hD
end Go.Proofs.Ytpopeipcjpfbaaa
namespace Go.Proofs.Ytpopeipcjpfbaaa
open Go.RowKit
set_option linter.unusedVariables false

theorem ten10 : (10000 : Int) ^ 10 = 10000000000000000000000000000000000000000 := by decide
theorem IsN.len10 {w : World} {neg : Bool} {A : Option Addr} {l c : Nat} {n : Int} (h : IsN w neg A l c n) (h0 : -10000000000000000000000000000000000000000 < n) (h1 : n < 10000000000000000000000000000000000000000) : l ≤ 10 := h.len (by rw [ten10]; omega)
theorem pow64r : (2 : Int) ^ 64 = 18446744073709551616 := by decide
theorem pow127 : (2 : Int) ^ 127 = 170141183460469231731687303715884105728 := by decide
end Go.Proofs.Ytpopeipcjpfbaaa
namespace Go.Proofs.Ytpopeipcjpfbaaa
open Go.RowKit
set_option linter.unusedVariables false
attribute [local go_sem ↓] Go.wp_at_zero Go.wp_at_succ

/-- one block that holds a number of the reference package, the number itself, and what is below. -/
structure OneN (w : World) (g : Nat) (x : Bool) (A : Option Addr) (l c : Nat) (n : Int) (W : World) : Prop where
  b : Box W g (.bool x) (.slice A l c)
  n : IsN W x A l c n
  below : Below w.heap.size w W
section
variable {w W w1 : World} {g : Nat} {x : Bool} {A : Option Addr} {l c : Nat} {n : Int}
theorem OneN.call (h : OneN w g x A l c n W) (hb : Below W.heap.size W w1) : OneN w g x A l c n w1 := ⟨h.b.call hb, h.n.call hb, below_call h.below hb⟩
theorem OneN.s (h : OneN w g x A l c n W) : W.cell? ⟨g, 0, none⟩ = some (.bool x) ∧ W.cell? ⟨g, 1, none⟩ = some (.slice A l c) := h.b.1
end
theorem fits_yes {n : Int} (h0 : -170141183460469231731687303715884105728 ≤ n) (h1 : n < 170141183460469231731687303715884105728) : fits n = true := by unfold fits; rw [decide_eq_true_eq]; exact ⟨h0, h1⟩
theorem fits_no {n : Int} (h : n < -170141183460469231731687303715884105728 ∨ 170141183460469231731687303715884105728 ≤ n) : fits n = false := by unfold fits; rw [decide_eq_false_iff_not]; omega
theorem len127 {w : World} {neg : Bool} {A : Option Addr} {l c : Nat} (h : IsN w neg A l c 170141183460469231731687303715884105728) : l ≤ 10 := h.len10 (by omega) (by omega)
theorem len127n {w : World} {neg : Bool} {A : Option Addr} {l c : Nat} (h : IsN w neg A l c (-170141183460469231731687303715884105728)) : l ≤ 10 := h.len10 (by omega) (by omega)
end Go.Proofs.Ytpopeipcjpfbaaa
namespace Go.Proofs.Ytpopeipcjpfbaaa
open Go.RowKit
set_option linter.unusedVariables false

/-- what an outer round of a division keeps: the digits from k on are divided. -/
def DivO (ds qs : List Int) (k : Nat) (b r : Int) : Prop := hi ds k = hi qs k * b + r ∧ 0 ≤ r ∧ r < b ∧ (∀ j, j < k → qs.getD j 0 = 0)
theorem divO_start (ds : List Int) {b : Int} (hb : 0 < b) {qs : List Int} (hq : ∀ j, qs.getD j 0 = 0) (hl : qs.length = ds.length) : DivO ds qs ds.length b 0 := by
  refine ⟨?_, Int.le_refl _, hb, fun j _ => hq j⟩
  rw [hi_end ds (Nat.le_refl _), hi_end qs (by omega)]
  omega
/-- what an inner round keeps: d is a digit of the quotient that is still counted. -/
def DivI (ds qs : List Int) (k : Nat) (b r d : Int) : Prop := hi ds k = (d + 10000 * hi qs (k + 1)) * b + r ∧ 0 ≤ r ∧ r < (10000 - d) * b ∧ 0 ≤ d ∧ qs.getD k 0 = d ∧ (∀ j, j < k → qs.getD j 0 = 0)
theorem divI_start {ds qs : List Int} {k : Nat} {b r : Int} (h : DivO ds qs (k + 1) b r) (hd : IsD ds) : DivI ds qs k b (ds.getD k 0 + 10000 * r) 0 := by
  obtain ⟨h1, h2, h3, h4⟩ := h
  have g := hd.getD k
  refine ⟨?_, by omega, by omega, Int.le_refl _, h4 k (by omega), fun j hj => h4 j (by omega)⟩
  rw [hi_step ds k, h1, Int.zero_add, Int.mul_assoc]
  omega
theorem divI_step {ds qs : List Int} {k : Nat} {b r d : Int} (h : DivI ds qs k b r d) (hb : 0 < b) (hge : b ≤ r) (hk : k < qs.length) : DivI ds (qs.set k (d + 1)) k b (r + -b) (d + 1) ∧ d + 1 < 10000 := by
  obtain ⟨h1, h2, h3, h4, h5, h6⟩ := h
  have hd : d + 1 < 10000 := by
    rcases Int.lt_or_le (d + 1) 10000 with q | q
    · exact q
    · exfalso
      have : (10000 - d) * b ≤ 1 * b := Int.mul_le_mul_of_nonneg_right (by omega) (by omega)
      omega
  refine ⟨⟨?_, by omega, ?_, by omega, getD_set_self hk _, fun j hj => ?_⟩, hd⟩
  · rw [hi_set_lt (by omega), h1, Int.add_mul, Int.add_mul, Int.add_mul]
    omega
  · rw [show (10000 - (d + 1)) = (10000 - d) - 1 by omega, Int.sub_mul]
    omega
  · rw [getD_set_ne (by omega)]; exact h6 j hj
theorem divI_end {ds qs : List Int} {k : Nat} {b r d : Int} (h : DivI ds qs k b r d) (hlt : r < b) : DivO ds qs k b r := by
  obtain ⟨h1, h2, h3, h4, h5, h6⟩ := h
  refine ⟨?_, h2, hlt, h6⟩
  rw [hi_step qs k, h5]
  exact h1
theorem divO_end {ds qs : List Int} {b r : Int} (h : DivO ds qs 0 b r) : dval ds = dval qs * b + r ∧ 0 ≤ r ∧ r < b := ⟨h.1, h.2.1, h.2.2.1⟩
/-- whole parts, and what is left, of a number with a sign. -/
theorem fdiv_pos {a b q r : Int} (h : a = q * b + r) (h0 : 0 ≤ r) (h1 : r < b) : a / b = q ∧ a % b = r := by
  have hb : 0 < b := by omega
  refine ⟨?_, ?_⟩
  · rw [h, Int.add_comm, Int.add_mul_ediv_right _ _ (by omega), Int.ediv_eq_zero_of_lt h0 h1, Int.zero_add]
  · rw [h, Int.add_comm, Int.add_mul_emod_self_right, Int.emod_eq_of_lt h0 h1]
theorem fdiv_neg0 {a b q : Int} (h : a = q * b + 0) (hb : 0 < b) : -a / b = -q ∧ -a % b = 0 := fdiv_pos (by rw [h, Int.neg_mul]; omega) (Int.le_refl _) hb
theorem fdiv_neg {a b q r : Int} (h : a = q * b + r) (h0 : 0 < r) (h1 : r < b) : -a / b = -q + -1 ∧ -a % b = b + -r := fdiv_pos (by rw [h, Int.add_mul, Int.neg_mul]; omega) (by omega) (by omega)

/-- the memory of a division under way. -/
structure DivW (w : World) (g : Nat) (wr : World) (x : Bool) (A : Option Addr) (l c : Nat) (ds : List Int) (y : Bool) (B : Option Addr) (m d : Nat) (b : Int) (qs : List Int) (z : Bool) (C : Option Addr) (p e : Nat) (r : Int) : Prop where
  b0 : Box wr w.heap.size (.bool x) (.slice A l c)
  b1 : Box wr (w.heap.size + 1) (.bool y) (.slice B m d)
  b2 : Box wr (w.heap.size + 1 + 1) (.bool false) (.slice none 0 0)
  b3 : Box wr (w.heap.size + 1 + 1 + 1) (.bool false) (.slice none 0 0)
  own : wr.ownsRow (w.heap.size + 1 + 1 + 1 + 1) 3 1 (.slice (some ⟨w.heap.size + 1 + 1 + 1 + 1, 0, none⟩) l l) l (qs.map (Value.int .i64))
  dg : IsD qs
  br : Box wr (g) (.bool z) (.slice C p e)
  nb : IsN wr y B m d b
  nr : IsN wr z C p e r
  fb : ∀ a, B = some a → a.block ≠ w.heap.size + 1 + 1 + 1 + 1
  fr : ∀ a, C = some a → w.heap.size + 1 + 1 + 1 + 1 < a.block
  below : Below w.heap.size w wr
section
variable {w wr : World} {g : Nat} {x y z : Bool} {A B C : Option Addr} {l c m d p e : Nat} {ds qs : List Int} {b r : Int}
theorem DivW.len (h : DivW w g wr x A l c ds y B m d b qs z C p e r) : qs.length = l := by have := h.own.1; simpa using this
theorem DivW.cell (h : DivW w g wr x A l c ds y B m d b qs z C p e r) {j : Nat} (hj : j < l) : wr.cell? ⟨w.heap.size + 1 + 1 + 1 + 1, j, none⟩ = some (.int .i64 (qs.getD j 0)) ∧ wr.frozen? ⟨w.heap.size + 1 + 1 + 1 + 1, j, none⟩ = false := by
  refine ⟨?_, h.own.frozenAt j⟩
  have hl := h.len
  rw [h.own.cellAt j (by omega), List.getElem?_map, List.getElem?_eq_getElem (by omega), List.getD_eq_getElem?_getD, List.getElem?_eq_getElem (by omega)]
  rfl
/-- the remainder's block, and memory beyond, are written; all else stands. -/
theorem DivW.turn {w1 : World} {z' : Bool} {C' : Option Addr} {p' e' : Nat} {r' : Int} (h : DivW w g wr x A l c ds y B m d b qs z C p e r) (hg : w.heap.size + 1 + 1 + 1 + 1 < g) (hb : Below wr.heap.size wr w1) (hr : IsN w1 z' C' p' e' r') (hf : ∀ a, C' = some a → w.heap.size + 1 + 1 + 1 + 1 < a.block) :
    DivW w g ((w1.setCell ⟨g, 0, none⟩ (.bool z')).setCell ⟨g, 1, none⟩ (.slice C' p' e')) x A l c ds y B m d b qs z' C' p' e' r' := by
  have hbr := HasBB.of (h.br.call hb)
  refine ⟨((h.b0.call hb).set _ (by omega)).set _ (by omega), ((h.b1.call hb).set _ (by omega)).set _ (by omega), ((h.b2.call hb).set _ (by omega)).set _ (by omega), ((h.b3.call hb).set _ (by omega)).set _ (by omega), ?_, h.dg, Box.put (HasBox.of (h.br.call hb)), (h.nb.call hb).put hbr, hr.put hbr, h.fb, hf, below_set (below_set (below_call h.below hb) _ _ _ (by omega)) _ _ _ (by omega)⟩
  have k1 : w1.ownsRow (w.heap.size + 1 + 1 + 1 + 1) 3 1 (.slice (some ⟨w.heap.size + 1 + 1 + 1 + 1, 0, none⟩) l l) l (qs.map (Value.int .i64)) := h.own.kept (row := none) ⟨hb.os, hb.tape, hb.output, hb.size, fun i hi _ => hb.block i hi⟩ (.inr (by simp [Value.ownBlock]))
  have far : ∀ (W : World) (o : Nat) (u : Value), W.ownsRow (w.heap.size + 1 + 1 + 1 + 1) 3 1 (.slice (some ⟨w.heap.size + 1 + 1 + 1 + 1, 0, none⟩) l l) l (qs.map (Value.int .i64)) → (W.setCell ⟨g, o, none⟩ u).ownsRow (w.heap.size + 1 + 1 + 1 + 1) 3 1 (.slice (some ⟨w.heap.size + 1 + 1 + 1 + 1, 0, none⟩) l l) l (qs.map (Value.int .i64)) := fun W o u hW =>
    hW.kept (row := some g) ⟨rfl, rfl, rfl, by simp [World.setCell], fun k _ hk => Below.heap_setCell W ⟨g, o, none⟩ u k (fun e => hk (by rw [e]))⟩ (.inr (by simp [Value.ownBlock]; omega))
  exact far _ _ _ (far _ _ _ k1)
theorem DivW.call {w1 : World} (h : DivW w g wr x A l c ds y B m d b qs z C p e r) (hb : Below wr.heap.size wr w1) : DivW w g w1 x A l c ds y B m d b qs z C p e r :=
  ⟨h.b0.call hb, h.b1.call hb, h.b2.call hb, h.b3.call hb, h.own.kept (row := none) ⟨hb.os, hb.tape, hb.output, hb.size, fun i hi _ => hb.block i hi⟩ (.inr (by simp [Value.ownBlock])), h.dg, h.br.call hb, h.nb.call hb, h.nr.call hb, h.fb, h.fr, below_call h.below hb⟩
theorem DivW.row (h : DivW w g wr x A l c ds y B m d b qs z C p e r) : Dg wr (some ⟨w.heap.size + 1 + 1 + 1 + 1, 0, none⟩) l l qs := by
  obtain ⟨A', c', e', hD⟩ := Dg.own h.own
  cases e'
  exact hD
theorem DivW.drew (h : DivW w g wr x A l c ds y B m d b qs z C p e r) : DivW w g wr.drew x A l c ds y B m d b qs z C p e r :=
  ⟨h.b0.drew, h.b1.drew, h.b2.drew, h.b3.drew, h.own, h.dg, h.br.drew, h.nb.drew, h.nr.drew, h.fb, h.fr, h.below.drew⟩
theorem DivW.store (h : DivW w g wr x A l c ds y B m d b qs z C p e r) (hg : w.heap.size + 1 + 1 + 1 + 1 < g) {j : Nat} (hj : j < l) {s : Int} (h0 : 0 ≤ s) (h1 : s < 10000) :
    DivW w g (wr.setCell ⟨w.heap.size + 1 + 1 + 1 + 1, j, none⟩ (.int .i64 s)) x A l c ds y B m d b (qs.set j s) z C p e r := by
  have keepN : ∀ {z : Bool} {C : Option Addr} {p e : Nat} {r : Int}, IsN wr z C p e r → (∀ a, C = some a → a.block ≠ w.heap.size + 1 + 1 + 1 + 1) → IsN (wr.setCell ⟨w.heap.size + 1 + 1 + 1 + 1, j, none⟩ (.int .i64 s)) z C p e r := fun {z C p e r} hN hne => by
    obtain ⟨es, ⟨k1, k2, k3, k4⟩, hS⟩ := hN
    refine ⟨es, ⟨k1, k2, k3, fun hp => ?_⟩, hS⟩
    obtain ⟨g', e1, e2, e3⟩ := k4 hp
    refine ⟨g', e1, by simpa [World.setCell] using e2, fun i hi => ?_⟩
    rw [World.cell?_setCell_other _ _ _ _ (fun e => hne _ e1 (congrArg Addr.block e).symm)]
    exact e3 i hi
  refine ⟨h.b0.set _ (by omega), h.b1.set _ (by omega), h.b2.set _ (by omega), h.b3.set _ (by omega), ?_, h.dg.set j h0 h1, h.br.set _ (by omega), keepN h.nb h.fb, keepN h.nr (fun a e => by have := h.fr a e; omega), h.fb, h.fr, below_set h.below _ _ _ (by omega)⟩
  rw [List.map_set]
  exact (h.own.stored j _).1
end
theorem isN_zero (w : World) : IsN w false none 0 0 0 := ⟨[], Dg.nil (by omega), ⟨IsD.nil, nm_nil, fun h => (by cases h), rfl⟩⟩
/-- append onto a row of one's own, of a row of digits, nil let in. -/
theorem run_append_dg {P : Program} (w : World) (base : Nat) (t ty e : TypeId) (i : TypeInfo) (ht : P.underlying t = some (.slice e)) (hi : P.info? e = some i) (hz : i.zero = some (.int .i64 0)) (hsize : i.size = 1) (hby : i.bytes = 8)
    (v : Value) (n : Nat) (xs : List Value) (hown : w.ownsRow base e 1 v n xs) (A : Option Addr) (l c : Nat) (ds : List Int) (hD : Dg w A l c ds) (hn : n + l ≤ 2000) (hbase : base ≤ w.heap.size) :
    ∃ v' w', (Builtin.append_ #[t, t] ty #[v, .slice A l c]).run P w = .ok v' w' ∧ w'.ownsRow base e 1 v' (n + l) (xs ++ ds.map (Value.int .i64)) ∧ w.grownBy w' v.ownBlock := by
  obtain ⟨k1, k2, k3, k4⟩ := hD
  rcases A with _ | ad
  · have hl : l = 0 := by
      rcases Nat.eq_zero_or_pos l with h0 | h0
      · exact h0
      · obtain ⟨g, h, _⟩ := k4 h0
        cases h
    subst hl
    have hds : ds = [] := List.eq_nil_of_length_eq_zero k1
    subst hds
    refine ⟨v, w, ?_, by simpa using hown, ⟨rfl, rfl, rfl, Nat.le_refl _, fun _ _ _ => rfl⟩⟩
    rcases hown.2 with ⟨rfl, rfl⟩ | ⟨g, cap, cur, rfl, _, _, hnc, _⟩
    · simp [Builtin.append_, run_underlying ht, sizeOf, typeInfo, hi, Builtin.lenOf, Builtin.firstCells]
    · simp [Builtin.append_, run_underlying ht, sizeOf, typeInfo, hi, Builtin.lenOf, Builtin.firstCells, hnc, storeCells]
  · have hnews : ∀ j u, (ds.map (Value.int .i64))[j]? = some u → w.cell? (ad.add j) = some u := by
      intro j u hu
      rw [List.getElem?_map] at hu
      obtain ⟨q, hq, rfl⟩ := Option.map_eq_some_iff.1 hu
      have hj : j < ds.length := (List.getElem?_eq_some_iff.1 hq).1
      obtain ⟨g, e1, _, hc⟩ := k4 (by omega)
      obtain rfl := Option.some.inj e1
      have hadd : (⟨g, 0, none⟩ : Addr).add j = ⟨g, j, none⟩ := by unfold Addr.add; split <;> simp_all
      rw [hadd, hc j (by omega), List.getD_eq_getElem?_getD, hq]
      rfl
    obtain ⟨v', w', r1, r2, r3, _⟩ := run_append_own (P := P) w base t ty e i (.int .i64 0) 1 8 ht hi hz hsize hby rfl (by decide) v n xs hown ad l c (ds.map (Value.int .i64)) (by simp [k1]) hnews (ints_oneCell .i64 ds) (by simp only [maxLen]; omega) (by omega) hbase
    exact ⟨v', w', r1, r2, r3⟩
/-- the same, at a step of a drawn region. -/
theorem step_append_dg {P : Program} (w : World) {ops : Array Oper} {o : Oper} {a : Act} {K : Act → World → Prop} {Q : Exit → Act → World → Prop} {E : Prop} (hgd : o.guard = none) (s x : Operand) (t : TypeId)
    (ho : o.op = .call { callee := .builtin .append, args := #[s, x], argTypes := #[t, t] }) (base : Nat) (e : TypeId) (i : TypeInfo) (ht : P.underlying t = some (.slice e)) (hi : P.info? e = some i) (hz : i.zero = some (.int .i64 0)) (hsize : i.size = 1) (hby : i.bytes = 8)
    (v : Value) (n : Nat) (xs : List Value) (hs : a.eval s = v) (hown : w.ownsRow base e 1 v n xs) (A : Option Addr) (l c : Nat) (ds : List Int) (hx : a.eval x = .slice A l c) (hD : Dg w A l c ds) (hn : n + l ≤ 2000) (hbase : base ≤ w.heap.size)
    (h : ∀ v' w', w'.ownsRow base e 1 v' (n + l) (xs ++ ds.map (Value.int .i64)) → w.grownBy w' v.ownBlock → K (a.put o.dst v') w') :
    if Region.wanted o (yielded ops a.tmps) = true then Oper.wp P o a w K Q else E := by
  rw [if_pos (by simp [Region.wanted, hgd])]
  obtain ⟨v', w', hrun, h2, h3⟩ := run_append_dg (P := P) w base t o.type e i ht hi hz hsize hby v n xs hown A l c ds hD hn hbase
  unfold Oper.wp execOp
  simp only [ho, resolve, invoke, builtin, Sem.run_bind, Sem.run_pure, Result.andThen_ok, List.map_toArray, List.map_cons, List.map_nil, hs, hx, hrun]
  exact h v' w' h2 h3
end Go.Proofs.Ytpopeipcjpfbaaa
namespace Go.Proofs.Ytpopeipcjpfbaaa
open Go.RowKit
set_option linter.unusedVariables false
set_option linter.unusedSimpArgs false
attribute [local go_sem ↓] Go.wp_at_zero Go.wp_at_succ

/-- two numbers come back. -/
def RN2 (n m : Int) (w : World) (e : Ending) (w' : World) : Prop := ∃ x A l c y B k d, e = .returned (.tuple #[.agg #[.bool x, .slice A l c], .agg #[.bool y, .slice B k d]]) ∧ IsN w' x A l c n ∧ IsN w' y B k d m ∧ Below w.heap.size w w'
/-- two numbers come back, in new memory. -/
def RN2F (n m : Int) (w : World) (e : Ending) (w' : World) : Prop := ∃ x A l c y B k d, e = .returned (.tuple #[.agg #[.bool x, .slice A l c], .agg #[.bool y, .slice B k d]]) ∧ IsN w' x A l c n ∧ IsN w' y B k d m ∧ Below w.heap.size w w' ∧ Fr w.heap.size A ∧ Fr w.heap.size B
theorem rest_len {w : World} {z : Bool} {C : Option Addr} {p e m : Nat} {r b : Int} (h : IsN w z C p e r) (hb : b < 10000 ^ m) (h0 : 0 ≤ r) (h1 : r < 10000 * b) : p ≤ m + 1 := h.len (by rw [Int.pow_succ]; omega)
theorem Std.lt {neg : Bool} {ds : List Int} {n : Int} (h : Std neg ds n) : n < 10000 ^ ds.length := by have := dval_lt h.dg; have := h.abs; omega
theorem divI_bd {ds qs : List Int} {k : Nat} {b r d : Int} (h : DivI ds qs k b r d) (hb : 0 < b) : 0 ≤ r ∧ r < 10000 * b ∧ 0 ≤ d := by
  obtain ⟨h1, h2, h3, h4, h5, h6⟩ := h
  refine ⟨h2, ?_, h4⟩
  have : (10000 - d) * b ≤ 10000 * b := Int.mul_le_mul_of_nonneg_right (by omega) (by omega)
  omega
theorem wpAt {P : Program} {c : Code} {Q : Exit → Act → World → Prop} {a : Act} {W : World} (h : ∀ W', W' = W → c.wp P Q a W') : c.wp P Q a W := h W rfl
theorem keepB {W : World} {b b' : Nat} {u v u' v' : Value} (h : Box W b u v) (k : Box W b' u' v') : (W.cell? ⟨b, 0, none⟩ = some u ∧ W.cell? ⟨b, 1, none⟩ = some v) ∧ (W.cell? ⟨b', 0, none⟩ = some u' ∧ W.cell? ⟨b', 1, none⟩ = some v') := ⟨h.1, k.1⟩
theorem keepB3 {W : World} {b b' b'' : Nat} {u v u' v' u'' v'' : Value} (h : Box W b u v) (k : Box W b' u' v') (l : Box W b'' u'' v'') : (W.cell? ⟨b, 0, none⟩ = some u ∧ W.cell? ⟨b, 1, none⟩ = some v) ∧ (W.cell? ⟨b', 0, none⟩ = some u' ∧ W.cell? ⟨b', 1, none⟩ = some v') ∧ (W.cell? ⟨b'', 0, none⟩ = some u'' ∧ W.cell? ⟨b'', 1, none⟩ = some v'') := ⟨h.1, k.1, l.1⟩
theorem app_below {w w' : World} {o : Obj} (h : (w.alloc o).drew.grownBy w' (some w.heap.size)) : Below w.heap.size w w' :=
  (((Below.refl _ _).alloc (Nat.le_refl _) o).drew).grown h (by simp) (fun j hj => by cases hj; exact Nat.le_refl _)
end Go.Proofs.Ytpopeipcjpfbaaa
