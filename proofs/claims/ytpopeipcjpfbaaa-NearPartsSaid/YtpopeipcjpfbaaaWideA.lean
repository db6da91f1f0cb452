/-
  Numbers of 128 bits as the program has them: contracts of package wide's sums, signs and comparisons. My own text; no condition but what each theorem says.
  Contracts of package wide: negatives, comparisons, small numbers. My own text.
-/
import Derived.Test.YtpopeipcjpfbaaaRows
import Derived.WalkKit
import Derived.WalkSpells
import Derived.Lib.Hide
import Derived.BigQuiet
import Derived.BigGuardPart
import Derived.Deep.RegionHeld3
namespace Go.Proofs.Ytpopeipcjpfbaaa
open Go.RowKit
set_option linter.unusedVariables false

@[go_sem] theorem isSome_setCell (w : World) (a b : Addr) (v : Value) : ((w.setCell a v).cell? b).isSome = (w.cell? b).isSome := by
  unfold World.setCell World.cell?
  simp only [Array.getElem?_modify]
  by_cases e : a.block = b.block
  · rw [if_pos e]
    cases w.heap[b.block]? with
    | none => rfl
    | some o =>
      cases o <;> simp only [Option.map_some]
      by_cases s : a.spot.isSome = true
      · simp [s]
      · by_cases t : b.spot.isSome = true
        · simp [t]
        · simp only [if_neg s, if_neg t]
          rw [Array.getElem?_setIfInBounds]
          split
          · rename_i h1
            rw [← h1]
            split
            · rename_i h2; simp [h2]
            · rename_i h2; simp [h2]
          · rfl
  · rw [if_neg e]
theorem bcell {W w1 : World} (hb : Below W.heap.size W w1) : (∀ b o, b < W.heap.size → w1.cell? ⟨b, o, none⟩ = W.cell? ⟨b, o, none⟩) ∧ (∀ b o, b < W.heap.size → w1.frozen? ⟨b, o, none⟩ = W.frozen? ⟨b, o, none⟩) :=
  ⟨fun b o h => hb.cell (p := ⟨b, o, none⟩) h, fun b o h => hb.frozen (p := ⟨b, o, none⟩) h⟩
theorem below_call {w W w1 : World} (h : Below w.heap.size w W) (hb : Below W.heap.size W w1) : Below w.heap.size w w1 := h.trans (hb.mono h.size)
theorem below_alloc {w W : World} (h : Below w.heap.size w W) (o : Obj) : Below w.heap.size w (W.alloc o) := h.alloc h.size o
theorem below_set {w W : World} (h : Below w.heap.size w W) (b o : Nat) (v : Value) (hb : w.heap.size ≤ b) : Below w.heap.size w (W.setCell ⟨b, o, none⟩ v) := h.setCell (p := ⟨b, o, none⟩) hb v

/-- two cells of a block, and that they may be written. -/
def Box (w : World) (b : Nat) (u v : Value) : Prop := (w.cell? ⟨b, 0, none⟩ = some u ∧ w.cell? ⟨b, 1, none⟩ = some v) ∧ (w.frozen? ⟨b, 0, none⟩ = false ∧ w.frozen? ⟨b, 1, none⟩ = false)
theorem Box.lt {w : World} {b : Nat} {u v : Value} (h : Box w b u v) : b < w.heap.size := World.block_lt_of_cell? w _ h.1.1
theorem Box.call {W w1 : World} {b : Nat} {u v : Value} (h : Box W b u v) (hb : Below W.heap.size W w1) : Box w1 b u v := by
  have hl := h.lt
  obtain ⟨⟨h1, h2⟩, h3, h4⟩ := h
  exact ⟨⟨(hb.cell (p := ⟨b, 0, none⟩) hl).trans h1, (hb.cell (p := ⟨b, 1, none⟩) hl).trans h2⟩, (hb.frozen (p := ⟨b, 0, none⟩) hl).trans h3, (hb.frozen (p := ⟨b, 1, none⟩) hl).trans h4⟩
theorem Box.alloc {W : World} {b : Nat} {u v : Value} (h : Box W b u v) (o : Obj) : Box (W.alloc o) b u v := h.call ((Below.refl _ _).alloc (Nat.le_refl _) o)
theorem Box.drew {W : World} {b : Nat} {u v : Value} (h : Box W b u v) : Box W.drew b u v := h.call ((Below.refl _ _).drew)
theorem Box.new {W : World} {b : Nat} {u v : Value} {t : TypeId} (e : b = W.heap.size) : Box (W.alloc (.cells #[u, v] t)) b u v := by
  subst e
  unfold Box
  go_simp
theorem Box.set {W : World} {b g : Nat} {u v x : Value} (h : Box W b u v) (o : Nat) (ne : g ≠ b) : Box (W.setCell ⟨g, o, none⟩ x) b u v := by
  obtain ⟨⟨h1, h2⟩, h3, h4⟩ := h
  have n0 : (⟨g, o, none⟩ : Addr) ≠ ⟨b, 0, none⟩ := fun e => ne (congrArg Addr.block e)
  have n1 : (⟨g, o, none⟩ : Addr) ≠ ⟨b, 1, none⟩ := fun e => ne (congrArg Addr.block e)
  refine ⟨⟨?_, ?_⟩, ?_, ?_⟩
  · rw [World.cell?_setCell_other _ _ _ _ n0]; exact h1
  · rw [World.cell?_setCell_other _ _ _ _ n1]; exact h2
  · go_simp
  · go_simp
/-- there are two cells in the block, and they may be written. -/
def HasBox (w : World) (b : Nat) : Prop := ((w.cell? ⟨b, 0, none⟩).isSome = true ∧ (w.cell? ⟨b, 1, none⟩).isSome = true) ∧ (w.frozen? ⟨b, 0, none⟩ = false ∧ w.frozen? ⟨b, 1, none⟩ = false)
theorem HasBox.of {W : World} {b : Nat} {u v : Value} (h : Box W b u v) : HasBox W b := by
  obtain ⟨⟨h1, h2⟩, h3, h4⟩ := h
  exact ⟨⟨by rw [h1]; rfl, by rw [h2]; rfl⟩, h3, h4⟩
theorem HasBox.box {W : World} {b : Nat} (h : HasBox W b) : ∃ u v, Box W b u v := by
  obtain ⟨⟨h1, h2⟩, h3, h4⟩ := h
  obtain ⟨u, hu⟩ := Option.isSome_iff_exists.1 h1
  obtain ⟨v, hv⟩ := Option.isSome_iff_exists.1 h2
  exact ⟨u, v, ⟨hu, hv⟩, h3, h4⟩
theorem HasBox.call {W w1 : World} {b : Nat} (h : HasBox W b) (hb : Below W.heap.size W w1) : HasBox w1 b := by
  obtain ⟨u, v, k⟩ := h.box
  exact .of (k.call hb)
theorem HasBox.alloc {W : World} {b : Nat} (h : HasBox W b) (o : Obj) : HasBox (W.alloc o) b := by
  obtain ⟨u, v, k⟩ := h.box
  exact .of (k.alloc o)
theorem HasBox.drew {W : World} {b : Nat} (h : HasBox W b) : HasBox W.drew b := by
  obtain ⟨u, v, k⟩ := h.box
  exact .of k.drew
theorem HasBox.new {W : World} {b : Nat} {u v : Value} {t : TypeId} (e : b = W.heap.size) : HasBox (W.alloc (.cells #[u, v] t)) b := .of (Box.new e)
theorem HasBox.set {W : World} {b : Nat} (h : HasBox W b) (a : Addr) (x : Value) : HasBox (W.setCell a x) b := by
  obtain ⟨⟨h1, h2⟩, h3, h4⟩ := h
  refine ⟨⟨by rw [isSome_setCell]; exact h1, by rw [isSome_setCell]; exact h2⟩, ?_, ?_⟩
  · go_simp
  · go_simp
theorem Box.put {W : World} {b : Nat} {u' v' : Value} (h : HasBox W b) : Box ((W.setCell ⟨b, 0, none⟩ u').setCell ⟨b, 1, none⟩ v') b u' v' := by
  obtain ⟨u, v, k⟩ := h.box
  obtain ⟨⟨h1, h2⟩, h3, h4⟩ := k
  unfold Box
  go_simp
theorem bodyPost_at {P : Program} {F : Func} {Q : Ending → World → Prop} {e : Exit} {a : Act} {W : World} (h : ∀ W', W' = W → bodyPost P F Q e a W') : bodyPost P F Q e a W := h W rfl
theorem cutIn {p q : Prop} (h : p) (k : p → q) : q := k h
def eqW (a b c d : Int) : Bool := a == c && b == d
/-- An Int of the program: its two halves, and the number. -/
def IsW (H L n : Int) : Prop := (-9223372036854775808 ≤ H ∧ H < 9223372036854775808) ∧ (0 ≤ L ∧ L < 18446744073709551616) ∧ n = H * 18446744073709551616 + L
/-- A size of the program: its two halves, and the number. -/
def IsS (H L n : Int) : Prop := (0 ≤ H ∧ H < 18446744073709551616) ∧ (0 ≤ L ∧ L < 18446744073709551616) ∧ n = H * 18446744073709551616 + L
/-- the number that goes round at 2^128. -/
def wr (n : Int) : Int := (n + 170141183460469231731687303715884105728) % 340282366920938463463374607431768211456 - 170141183460469231731687303715884105728
def fits (n : Int) : Bool := decide (-170141183460469231731687303715884105728 ≤ n ∧ n < 170141183460469231731687303715884105728)
/-- the Int n comes back; all older memory is as it was. -/
def RW (n : Int) (w : World) (e : Ending) (w' : World) : Prop := ∃ H L, e = .returned (.agg #[.int .i64 H, .int .u64 L]) ∧ IsW H L n ∧ Below w.heap.size w w'
/-- 'n, and true', or zero, and false, if n is none of the program's numbers. -/
def RWF (n : Int) (w : World) (e : Ending) (w' : World) : Prop := ∃ H L, e = .returned (.tuple #[.agg #[.int .i64 H, .int .u64 L], .bool (fits n)]) ∧ IsW H L (if fits n then n else 0) ∧ Below w.heap.size w w'
/-- the size n comes back. -/
def RS (n : Int) (w : World) (e : Ending) (w' : World) : Prop := ∃ H L, e = .returned (.agg #[.int .u64 H, .int .u64 L]) ∧ IsS H L n ∧ Below w.heap.size w w'
/-- a value comes back. -/
def RV (v : Value) (w : World) (e : Ending) (w' : World) : Prop := e = .returned v ∧ Below w.heap.size w w'
def icmp (n m : Int) : Int := if n = m then 0 else if n < m then -1 else 1

theorem isW0 : IsW 0 0 0 := by unfold IsW; omega
theorem IsW.fits {H L n : Int} (h : IsW H L n) : fits n = true := by
  obtain ⟨a, b, rfl⟩ := h
  unfold Proofs.Ytpopeipcjpfbaaa.fits
  rw [decide_eq_true_eq]
  omega
theorem IsW.inj {H L H' L' n : Int} (h : IsW H L n) (k : IsW H' L' n) : H = H' ∧ L = L' := by
  obtain ⟨a, b, rfl⟩ := h
  obtain ⟨c, d, e⟩ := k
  omega
theorem IsW.eq {H L H' L' n m : Int} (h : IsW H L n) (k : IsW H' L' m) : n = m ↔ (H = H' ∧ L = L') := by
  obtain ⟨a, b, rfl⟩ := h
  obtain ⟨c, d, rfl⟩ := k
  omega
theorem IsW.neg {H L n : Int} (h : IsW H L n) : H < 0 ↔ n < 0 := by
  obtain ⟨a, b, rfl⟩ := h
  omega
theorem IsW.eqW {H L H' L' n m : Int} (h : IsW H L n) (k : IsW H' L' m) : eqW H L H' L' = decide (n = m) := by
  obtain ⟨a, b, rfl⟩ := h
  obtain ⟨c, d, rfl⟩ := k
  unfold Proofs.Ytpopeipcjpfbaaa.eqW
  rw [Bool.eq_iff_iff]
  simp only [Bool.and_eq_true, beq_iff_eq, decide_eq_true_eq]
  omega
theorem IsS.eqW {H L H' L' n m : Int} (h : IsS H L n) (k : IsS H' L' m) : eqW H L H' L' = decide (n = m) := by
  obtain ⟨a, b, rfl⟩ := h
  obtain ⟨c, d, rfl⟩ := k
  unfold Proofs.Ytpopeipcjpfbaaa.eqW
  rw [Bool.eq_iff_iff]
  simp only [Bool.and_eq_true, beq_iff_eq, decide_eq_true_eq]
  omega
theorem isS0 : IsS 0 0 0 := by unfold IsS; omega
theorem IsW.conv {H L n m : Int} (h : IsW H L n) (e : n = m) : IsW H L m := e ▸ h
theorem wr_fits {n : Int} (h : fits n = true) : wr n = n := by
  unfold Proofs.Ytpopeipcjpfbaaa.fits at h
  unfold wr
  rw [decide_eq_true_eq] at h
  omega
theorem rwf_yes {n H L : Int} {w w' : World} (h : fits n = true) (k : IsW H L n) (b : Below w.heap.size w w') : RWF n w (.returned (.tuple #[.agg #[.int .i64 H, .int .u64 L], .bool true])) w' := ⟨H, L, by rw [h], by rw [h]; exact k, b⟩
theorem rwf_no {n : Int} {w w' : World} (h : fits n = false) (b : Below w.heap.size w w') : RWF n w (.returned (.tuple #[.agg #[.int .i64 0, .int .u64 0], .bool false])) w' := ⟨0, 0, by rw [h], by rw [h]; exact isW0, b⟩

/-- The model's entry for math/bits.Sub64. -/
def subEntry : Array Value → Sem Value := fun args => do
  let (x, y, b) ← Extern.MathBitsCarry.three "Sub64" args
  pure (Extern.MathBitsCarry.pair ((x + Extern.MathBitsCarry.m64 - y - b) % Extern.MathBitsCarry.m64) (if x < y + b then 1 else 0))
theorem run_subEntry {P : Program} (x y b : Nat) (hb : b ≤ 1) (w : World) :
    (subEntry #[.int .u64 x, .int .u64 y, .int .u64 b]).run P w =
      .ok (.tuple #[.int .u64 (((x + 18446744073709551616 - y - b) % 18446744073709551616 : Nat) : Int), .int .u64 ((if x < y + b then 1 else 0 : Nat) : Int)]) w := by
  have : b = 0 ∨ b = 1 := by omega
  rcases this with rfl | rfl <;> rfl
theorem plus_val (h1 l1 h2 l2 : Int) (b1 : -9223372036854775808 ≤ h1 ∧ h1 < 9223372036854775808) (b2 : 0 ≤ l1 ∧ l1 < 18446744073709551616)
   (b3 : -9223372036854775808 ≤ h2 ∧ h2 < 9223372036854775808) (b4 : 0 ≤ l2 ∧ l2 < 18446744073709551616) :
   IsW (wrap64 ((IntKind.u64.wrap h1 + IntKind.u64.wrap h2 + (l1 + l2 + 0) / 18446744073709551616) % 18446744073709551616)) ((l1 + l2 + 0) % 18446744073709551616) (wr ((h1 * 18446744073709551616 + l1) + (h2 * 18446744073709551616 + l2))) := by
  unfold IsW wr wrap64
  rw [IntKind.wrap_u64, IntKind.wrap_u64]
  omega
theorem minus_val (h1 l1 h2 l2 : Int) (b1 : -9223372036854775808 ≤ h1 ∧ h1 < 9223372036854775808) (b2 : 0 ≤ l1 ∧ l1 < 18446744073709551616)
   (b3 : -9223372036854775808 ≤ h2 ∧ h2 < 9223372036854775808) (b4 : 0 ≤ l2 ∧ l2 < 18446744073709551616) :
   IsW (wrap64 ((IntKind.u64.wrap h1 - IntKind.u64.wrap h2 - -((l1 - l2 - 0) / 18446744073709551616)) % 18446744073709551616)) ((l1 - l2 - 0) % 18446744073709551616) (wr ((h1 * 18446744073709551616 + l1) - (h2 * 18446744073709551616 + l2))) := by
  unfold IsW wr wrap64
  rw [IntKind.wrap_u64, IntKind.wrap_u64]
  omega
theorem u64_range (h : Int) : 0 ≤ IntKind.u64.wrap h ∧ IntKind.u64.wrap h < 18446744073709551616 := by rw [IntKind.wrap_u64]; omega

theorem add_yes {h1 l1 h2 l2 Hs Ls n m : Int} (H1 : IsW h1 l1 n) (H2 : IsW h2 l2 m) (H3 : IsW Hs Ls (wr (n + m))) (h : ¬ (decide (h1 < 0) = decide (h2 < 0)) ∨ (!decide (Hs < 0) == decide (h2 < 0)) = false) : fits (n + m) = true ∧ IsW Hs Ls (n + m) := by
  obtain ⟨b1, b2, rfl⟩ := H1
  obtain ⟨b3, b4, rfl⟩ := H2
  obtain ⟨b5, b6, e⟩ := H3
  unfold wr at e
  unfold fits IsW
  simp only [decide_eq_decide, Bool.not_eq_false', beq_iff_eq] at h
  rw [decide_eq_true_eq]
  omega
theorem add_no {h1 l1 h2 l2 Hs Ls n m : Int} (H1 : IsW h1 l1 n) (H2 : IsW h2 l2 m) (H3 : IsW Hs Ls (wr (n + m))) (h : (decide (h1 < 0) = decide (h2 < 0))) (k : (!decide (Hs < 0) == decide (h2 < 0)) = true) : fits (n + m) = false := by
  obtain ⟨b1, b2, rfl⟩ := H1
  obtain ⟨b3, b4, rfl⟩ := H2
  obtain ⟨b5, b6, e⟩ := H3
  unfold wr at e
  unfold fits
  simp only [decide_eq_decide, Bool.not_eq_true', beq_eq_false_iff_ne, ne_eq] at h k
  rw [decide_eq_false_iff_not]
  omega
theorem sub_yes {h1 l1 h2 l2 Hs Ls n m : Int} (H1 : IsW h1 l1 n) (H2 : IsW h2 l2 m) (H3 : IsW Hs Ls (wr (n - m))) (h : (decide (h1 < 0) = decide (h2 < 0)) ∨ (!decide (Hs < 0) == decide (h1 < 0)) = false) : fits (n - m) = true ∧ IsW Hs Ls (n - m) := by
  obtain ⟨b1, b2, rfl⟩ := H1
  obtain ⟨b3, b4, rfl⟩ := H2
  obtain ⟨b5, b6, e⟩ := H3
  unfold wr at e
  unfold fits IsW
  simp only [decide_eq_decide, Bool.not_eq_false', beq_iff_eq] at h
  rw [decide_eq_true_eq]
  omega
theorem sub_no {h1 l1 h2 l2 Hs Ls n m : Int} (H1 : IsW h1 l1 n) (H2 : IsW h2 l2 m) (H3 : IsW Hs Ls (wr (n - m))) (h : ¬ (decide (h1 < 0) = decide (h2 < 0))) (k : (!decide (Hs < 0) == decide (h1 < 0)) = true) : fits (n - m) = false := by
  obtain ⟨b1, b2, rfl⟩ := H1
  obtain ⟨b3, b4, rfl⟩ := H2
  obtain ⟨b5, b6, e⟩ := H3
  unfold wr at e
  unfold fits
  simp only [decide_eq_decide, Bool.not_eq_true', beq_eq_false_iff_ne, ne_eq] at h k
  rw [decide_eq_false_iff_not]
  omega
end Go.Proofs.Ytpopeipcjpfbaaa
namespace Go.Proofs.Ytpopeipcjpfbaaa
open Go.RowKit
set_option linter.unusedVariables false

theorem ret_int {k : IntKind} {a b : Int} (h : a = b) : Ending.returned (.int k a) = .returned (.int k b) := by rw [h]
theorem ret_bool {a b : Bool} (h : a = b) : Ending.returned (.bool a) = .returned (.bool b) := by rw [h]
theorem isWmin : IsW (-9223372036854775808) 0 (-170141183460469231731687303715884105728) := by unfold IsW; omega
theorem neg_fits {n : Int} (H : fits n = true) : fits (0 - n) = !decide (n = -170141183460469231731687303715884105728) := by
  unfold fits at *
  rw [decide_eq_true_eq] at H
  rw [Bool.eq_iff_iff]
  simp only [decide_eq_true_eq, Bool.not_eq_true', decide_eq_false_iff_not]
  omega
theorem of_val (n : Int) (h0 : -9223372036854775808 ≤ n) (h1 : n < 9223372036854775808) : IsW (n / 9223372036854775808) (IntKind.u64.wrap n) n := by
  unfold IsW
  rw [IntKind.wrap_u64]
  omega
def small (n : Int) : Bool := decide (-9223372036854775808 ≤ n ∧ n < 9223372036854775808)
end Go.Proofs.Ytpopeipcjpfbaaa
