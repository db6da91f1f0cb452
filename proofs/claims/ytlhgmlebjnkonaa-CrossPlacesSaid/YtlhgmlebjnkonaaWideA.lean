/-
  Numbers of 128 bits as the program has them: contracts of package wide's sums, signs and comparisons. My own text; no condition but what each theorem says.
  Contracts of package wide: negatives, comparisons, small numbers. My own text.
-/
import Derived.Test.YtlhgmlebjnkonaaRows
import Derived.WalkKit
import Derived.WalkSpells
import Derived.Lib.Hide
import Derived.BigQuiet
import Derived.BigGuardPart
import Derived.Deep.RegionHeld3
namespace Go.Proofs.Ytlhgmlebjnkonaa
open Go.RowKit
set_option linter.unusedVariables false

@[go_sem] theorem isSome_setCell (w : World) (a b : Addr) (v : Value) : ((w.setCell a v).cell? b).isSome = (w.cell? b).isSome := by
  unfold World.setCell World.cell?
  simp only [Array.getElem?_modify]
  by_cases e : a.block = b.block
  · rw [if_pos e]
    cases w.heap[b.block]? with
    | none => rfl
    | some o =>
      cases o <;> simp only [Option.map_some]
      by_cases s : a.spot.isSome = true
      · simp [s]
      · by_cases t : b.spot.isSome = true
        · simp [t]
        · simp only [if_neg s, if_neg t]
          rw [Array.getElem?_setIfInBounds]
          split
          · rename_i h1
            rw [← h1]
            split
            · rename_i h2; simp [h2]
            · rename_i h2; simp [h2]
          · rfl
  · rw [if_neg e]
theorem bcell {W w1 : World} (hb : Below W.heap.size W w1) : (∀ b o, b < W.heap.size → w1.cell? ⟨b, o, none⟩ = W.cell? ⟨b, o, none⟩) ∧ (∀ b o, b < W.heap.size → w1.frozen? ⟨b, o, none⟩ = W.frozen? ⟨b, o, none⟩) :=
  ⟨fun b o h => hb.cell (p := ⟨b, o, none⟩) h, fun b o h => hb.frozen (p := ⟨b, o, none⟩) h⟩
theorem below_call {w W w1 : World} (h : Below w.heap.size w W) (hb : Below W.heap.size W w1) : Below w.heap.size w w1 := h.trans (hb.mono h.size)
theorem below_alloc {w W : World} (h : Below w.heap.size w W) (o : Obj) : Below w.heap.size w (W.alloc o) := h.alloc h.size o
theorem below_set {w W : World} (h : Below w.heap.size w W) (b o : Nat) (v : Value) (hb : w.heap.size ≤ b) : Below w.heap.size w (W.setCell ⟨b, o, none⟩ v) := h.setCell (p := ⟨b, o, none⟩) hb v

/-- two cells of a block, and that they may be written. -/
def Box (w : World) (b : Nat) (u v : Value) : Prop := (w.cell? ⟨b, 0, none⟩ = some u ∧ w.cell? ⟨b, 1, none⟩ = some v) ∧ (w.frozen? ⟨b, 0, none⟩ = false ∧ w.frozen? ⟨b, 1, none⟩ = false)
theorem Box.lt {w : World} {b : Nat} {u v : Value} (h : Box w b u v) : b < w.heap.size := World.block_lt_of_cell? w _ h.1.1
theorem Box.call {W w1 : World} {b : Nat} {u v : Value} (h : Box W b u v) (hb : Below W.heap.size W w1) : Box w1 b u v := by
  have hl := h.lt
  obtain ⟨⟨h1, h2⟩, h3, h4⟩ := h
  exact ⟨⟨(hb.cell (p := ⟨b, 0, none⟩) hl).trans h1, (hb.cell (p := ⟨b, 1, none⟩) hl).trans h2⟩, (hb.frozen (p := ⟨b, 0, none⟩) hl).trans h3, (hb.frozen (p := ⟨b, 1, none⟩) hl).trans h4⟩
theorem Box.alloc {W : World} {b : Nat} {u v : Value} (h : Box W b u v) (o : Obj) : Box (W.alloc o) b u v := h.call ((Below.refl _ _).alloc (Nat.le_refl _) o)
theorem Box.drew {W : World} {b : Nat} {u v : Value} (h : Box W b u v) : Box W.drew b u v := h.call ((Below.refl _ _).drew)
theorem Box.new {W : World} {b : Nat} {u v : Value} {t : TypeId} (e : b = W.heap.size) : Box (W.alloc (.cells #[u, v] t)) b u v := by
  subst e
  unfold Box
  go_simp
theorem Box.set {W : World} {b g : Nat} {u v x : Value} (h : Box W b u v) (o : Nat) (ne : g ≠ b) : Box (W.setCell ⟨g, o, none⟩ x) b u v := by
  obtain ⟨⟨h1, h2⟩, h3, h4⟩ := h
  have n0 : (⟨g, o, none⟩ : Addr) ≠ ⟨b, 0, none⟩ := fun e => ne (congrArg Addr.block e)
  have n1 : (⟨g, o, none⟩ : Addr) ≠ ⟨b, 1, none⟩ := fun e => ne (congrArg Addr.block e)
  refine ⟨⟨?_, ?_⟩, ?_, ?_⟩
  · rw [World.cell?_setCell_other _ _ _ _ n0]; exact h1
  · rw [World.cell?_setCell_other _ _ _ _ n1]; exact h2
  · go_simp
  · go_simp
/-- there are two cells in the block, and they may be written. -/
def HasBox (w : World) (b : Nat) : Prop := ((w.cell? ⟨b, 0, none⟩).isSome = true ∧ (w.cell? ⟨b, 1, none⟩).isSome = true) ∧ (w.frozen? ⟨b, 0, none⟩ = false ∧ w.frozen? ⟨b, 1, none⟩ = false)
theorem HasBox.of {W : World} {b : Nat} {u v : Value} (h : Box W b u v) : HasBox W b := by
  obtain ⟨⟨h1, h2⟩, h3, h4⟩ := h
  exact ⟨⟨by rw [h1]; rfl, by rw [h2]; rfl⟩, h3, h4⟩
theorem HasBox.box {W : World} {b : Nat} (h : HasBox W b) : ∃ u v, Box W b u v := by
  obtain ⟨⟨h1, h2⟩, h3, h4⟩ := h
  obtain ⟨u, hu⟩ := Option.isSome_iff_exists.1 h1
  obtain ⟨v, hv⟩ := Option.isSome_iff_exists.1 h2
  exact ⟨u, v, ⟨hu, hv⟩, h3, h4⟩
theorem HasBox.call {W w1 : World} {b : Nat} (h : HasBox W b) (hb : Below W.heap.size W w1) : HasBox w1 b := by
  obtain ⟨u, v, k⟩ := h.box
  exact .of (k.call hb)
theorem HasBox.alloc {W : World} {b : Nat} (h : HasBox W b) (o : Obj) : HasBox (W.alloc o) b := by
  obtain ⟨u, v, k⟩ := h.box
  exact .of (k.alloc o)
theorem HasBox.drew {W : World} {b : Nat} (h : HasBox W b) : HasBox W.drew b := by
  obtain ⟨u, v, k⟩ := h.box
  exact .of k.drew
theorem HasBox.new {W : World} {b : Nat} {u v : Value} {t : TypeId} (e : b = W.heap.size) : HasBox (W.alloc (.cells #[u, v] t)) b := .of (Box.new e)
theorem HasBox.set {W : World} {b : Nat} (h : HasBox W b) (a : Addr) (x : Value) : HasBox (W.setCell a x) b := by
  obtain ⟨⟨h1, h2⟩, h3, h4⟩ := h
  refine ⟨⟨by rw [isSome_setCell]; exact h1, by rw [isSome_setCell]; exact h2⟩, ?_, ?_⟩
  · go_simp
  · go_simp
theorem Box.put {W : World} {b : Nat} {u' v' : Value} (h : HasBox W b) : Box ((W.setCell ⟨b, 0, none⟩ u').setCell ⟨b, 1, none⟩ v') b u' v' := by
  obtain ⟨u, v, k⟩ := h.box
  obtain ⟨⟨h1, h2⟩, h3, h4⟩ := k
  unfold Box
  go_simp
theorem bodyPost_at {P : Program} {F : Func} {Q : Ending → World → Prop} {e : Exit} {a : Act} {W : World} (h : ∀ W', W' = W → bodyPost P F Q e a W') : bodyPost P F Q e a W := h W rfl
theorem cutIn {p q : Prop} (h : p) (k : p → q) : q := k h
def eqW (a b c d : Int) : Bool := a == c && b == d
theorem eqW_in (a b c d : Int) (w : World) : (Op.equalIn 10000 27 (.agg #[.int .i64 a, .int .u64 b]) (.agg #[.int .i64 c, .int .u64 d])).run Try.prog w = .ok (eqW a b c d) w := by
  unfold eqW
  go_simp
  by_cases h : a = c <;> by_cases k : b = d <;> simp [h, k]
@[go_sem ↓ high] theorem eqlW (a b c d : Int) (w : World) : (binOp .eql 27 (.agg #[.int .i64 a, .int .u64 b]) (.agg #[.int .i64 c, .int .u64 d])).run Try.prog w = .ok (.bool (eqW a b c d)) w := by
  rw [run_eql_struct, eqW_in]; rfl
@[go_sem ↓ high] theorem neqW (a b c d : Int) (w : World) : (binOp .neq 27 (.agg #[.int .i64 a, .int .u64 b]) (.agg #[.int .i64 c, .int .u64 d])).run Try.prog w = .ok (.bool (!eqW a b c d)) w := by
  rw [run_neq_struct, eqW_in]; rfl
theorem eqS_in (a b c d : Int) (w : World) : (Op.equalIn 10000 104 (.agg #[.int .u64 a, .int .u64 b]) (.agg #[.int .u64 c, .int .u64 d])).run Try.prog w = .ok (eqW a b c d) w := by
  unfold eqW
  go_simp
  by_cases h : a = c <;> by_cases k : b = d <;> simp [h, k]
@[go_sem ↓ high] theorem eqlS (a b c d : Int) (w : World) : (binOp .eql 104 (.agg #[.int .u64 a, .int .u64 b]) (.agg #[.int .u64 c, .int .u64 d])).run Try.prog w = .ok (.bool (eqW a b c d)) w := by
  rw [run_eql_struct, eqS_in]; rfl
@[go_sem ↓ high] theorem neqS (a b c d : Int) (w : World) : (binOp .neq 104 (.agg #[.int .u64 a, .int .u64 b]) (.agg #[.int .u64 c, .int .u64 d])).run Try.prog w = .ok (.bool (!eqW a b c d)) w := by
  rw [run_neq_struct, eqS_in]; rfl

/-- An Int of the program: its two halves, and the number. -/
def IsW (H L n : Int) : Prop := (-9223372036854775808 ≤ H ∧ H < 9223372036854775808) ∧ (0 ≤ L ∧ L < 18446744073709551616) ∧ n = H * 18446744073709551616 + L
/-- A size of the program: its two halves, and the number. -/
def IsS (H L n : Int) : Prop := (0 ≤ H ∧ H < 18446744073709551616) ∧ (0 ≤ L ∧ L < 18446744073709551616) ∧ n = H * 18446744073709551616 + L
/-- the number that goes round at 2^128. -/
def wr (n : Int) : Int := (n + 170141183460469231731687303715884105728) % 340282366920938463463374607431768211456 - 170141183460469231731687303715884105728
def fits (n : Int) : Bool := decide (-170141183460469231731687303715884105728 ≤ n ∧ n < 170141183460469231731687303715884105728)
/-- the Int n comes back; all older memory is as it was. -/
def RW (n : Int) (w : World) (e : Ending) (w' : World) : Prop := ∃ H L, e = .returned (.agg #[.int .i64 H, .int .u64 L]) ∧ IsW H L n ∧ Below w.heap.size w w'
/-- 'n, and true', or zero, and false, if n is none of the program's numbers. -/
def RWF (n : Int) (w : World) (e : Ending) (w' : World) : Prop := ∃ H L, e = .returned (.tuple #[.agg #[.int .i64 H, .int .u64 L], .bool (fits n)]) ∧ IsW H L (if fits n then n else 0) ∧ Below w.heap.size w w'
/-- the size n comes back. -/
def RS (n : Int) (w : World) (e : Ending) (w' : World) : Prop := ∃ H L, e = .returned (.agg #[.int .u64 H, .int .u64 L]) ∧ IsS H L n ∧ Below w.heap.size w w'
/-- a value comes back. -/
def RV (v : Value) (w : World) (e : Ending) (w' : World) : Prop := e = .returned v ∧ Below w.heap.size w w'
def icmp (n m : Int) : Int := if n = m then 0 else if n < m then -1 else 1

theorem isW0 : IsW 0 0 0 := by unfold IsW; omega
theorem IsW.fits {H L n : Int} (h : IsW H L n) : fits n = true := by
  obtain ⟨a, b, rfl⟩ := h
  unfold Proofs.Ytlhgmlebjnkonaa.fits
  rw [decide_eq_true_eq]
  omega
theorem IsW.inj {H L H' L' n : Int} (h : IsW H L n) (k : IsW H' L' n) : H = H' ∧ L = L' := by
  obtain ⟨a, b, rfl⟩ := h
  obtain ⟨c, d, e⟩ := k
  omega
theorem IsW.eq {H L H' L' n m : Int} (h : IsW H L n) (k : IsW H' L' m) : n = m ↔ (H = H' ∧ L = L') := by
  obtain ⟨a, b, rfl⟩ := h
  obtain ⟨c, d, rfl⟩ := k
  omega
theorem IsW.neg {H L n : Int} (h : IsW H L n) : H < 0 ↔ n < 0 := by
  obtain ⟨a, b, rfl⟩ := h
  omega
theorem IsW.eqW {H L H' L' n m : Int} (h : IsW H L n) (k : IsW H' L' m) : eqW H L H' L' = decide (n = m) := by
  obtain ⟨a, b, rfl⟩ := h
  obtain ⟨c, d, rfl⟩ := k
  unfold Proofs.Ytlhgmlebjnkonaa.eqW
  rw [Bool.eq_iff_iff]
  simp only [Bool.and_eq_true, beq_iff_eq, decide_eq_true_eq]
  omega
theorem IsS.eqW {H L H' L' n m : Int} (h : IsS H L n) (k : IsS H' L' m) : eqW H L H' L' = decide (n = m) := by
  obtain ⟨a, b, rfl⟩ := h
  obtain ⟨c, d, rfl⟩ := k
  unfold Proofs.Ytlhgmlebjnkonaa.eqW
  rw [Bool.eq_iff_iff]
  simp only [Bool.and_eq_true, beq_iff_eq, decide_eq_true_eq]
  omega
theorem isS0 : IsS 0 0 0 := by unfold IsS; omega
theorem IsW.conv {H L n m : Int} (h : IsW H L n) (e : n = m) : IsW H L m := e ▸ h
theorem wr_fits {n : Int} (h : fits n = true) : wr n = n := by
  unfold Proofs.Ytlhgmlebjnkonaa.fits at h
  unfold wr
  rw [decide_eq_true_eq] at h
  omega
theorem rwf_yes {n H L : Int} {w w' : World} (h : fits n = true) (k : IsW H L n) (b : Below w.heap.size w w') : RWF n w (.returned (.tuple #[.agg #[.int .i64 H, .int .u64 L], .bool true])) w' := ⟨H, L, by rw [h], by rw [h]; exact k, b⟩
theorem rwf_no {n : Int} {w w' : World} (h : fits n = false) (b : Below w.heap.size w w') : RWF n w (.returned (.tuple #[.agg #[.int .i64 0, .int .u64 0], .bool false])) w' := ⟨0, 0, by rw [h], by rw [h]; exact isW0, b⟩

theorem add64_call (x y c : Int) (hx : 0 ≤ x) (hy : 0 ≤ y) (hc0 : 0 ≤ c) (hc : c ≤ 1) (w : World) :
    (callFunc 88 #[.int .u64 x, .int .u64 y, .int .u64 c]).run Try.prog w =
      .ok (.value (.tuple #[.int .u64 ((x + y + c) % 18446744073709551616), .int .u64 ((x + y + c) / 18446744073709551616)])) w := by
  rw [run_callFunc_extern Try.func88 (by kernel_rfl) (by kernel_rfl) (by kernel_rfl) (e := add64Entry) (by kernel_rfl), run_add64 x y c hx hy hc0 hc]
  rfl
/-- The model's entry for math/bits.Sub64. -/
def subEntry : Array Value → Sem Value := fun args => do
  let (x, y, b) ← Extern.MathBitsCarry.three "Sub64" args
  pure (Extern.MathBitsCarry.pair ((x + Extern.MathBitsCarry.m64 - y - b) % Extern.MathBitsCarry.m64) (if x < y + b then 1 else 0))
theorem run_subEntry {P : Program} (x y b : Nat) (hb : b ≤ 1) (w : World) :
    (subEntry #[.int .u64 x, .int .u64 y, .int .u64 b]).run P w =
      .ok (.tuple #[.int .u64 (((x + 18446744073709551616 - y - b) % 18446744073709551616 : Nat) : Int), .int .u64 ((if x < y + b then 1 else 0 : Nat) : Int)]) w := by
  have : b = 0 ∨ b = 1 := by omega
  rcases this with rfl | rfl <;> rfl
theorem sub64_call (x y c : Int) (hx : 0 ≤ x) (hx2 : x < 18446744073709551616) (hy : 0 ≤ y) (hy2 : y < 18446744073709551616) (hc0 : 0 ≤ c) (hc : c ≤ 1) (w : World) :
    (callFunc 80 #[.int .u64 x, .int .u64 y, .int .u64 c]).run Try.prog w =
      .ok (.value (.tuple #[.int .u64 ((x - y - c) % 18446744073709551616), .int .u64 (-((x - y - c) / 18446744073709551616))])) w := by
  obtain ⟨X, rfl⟩ := Int.eq_ofNat_of_zero_le hx
  obtain ⟨Y, rfl⟩ := Int.eq_ofNat_of_zero_le hy
  obtain ⟨C, rfl⟩ := Int.eq_ofNat_of_zero_le hc0
  rw [run_callFunc_extern Try.func80 (by kernel_rfl) (by kernel_rfl) (by kernel_rfl) (e := subEntry) (by kernel_rfl), run_subEntry X Y C (by omega)]
  simp only [Result.andThen]
  have e1 : (((X + 18446744073709551616 - Y - C) % 18446744073709551616 : Nat) : Int) = ((X : Int) - Y - C) % 18446744073709551616 := by omega
  have e2 : ((if X < Y + C then 1 else 0 : Nat) : Int) = -(((X : Int) - Y - C) / 18446744073709551616) := by split <;> omega
  rw [e1, e2]

theorem plus_val (h1 l1 h2 l2 : Int) (b1 : -9223372036854775808 ≤ h1 ∧ h1 < 9223372036854775808) (b2 : 0 ≤ l1 ∧ l1 < 18446744073709551616)
   (b3 : -9223372036854775808 ≤ h2 ∧ h2 < 9223372036854775808) (b4 : 0 ≤ l2 ∧ l2 < 18446744073709551616) :
   IsW (wrap64 ((IntKind.u64.wrap h1 + IntKind.u64.wrap h2 + (l1 + l2 + 0) / 18446744073709551616) % 18446744073709551616)) ((l1 + l2 + 0) % 18446744073709551616) (wr ((h1 * 18446744073709551616 + l1) + (h2 * 18446744073709551616 + l2))) := by
  unfold IsW wr wrap64
  rw [IntKind.wrap_u64, IntKind.wrap_u64]
  omega
theorem minus_val (h1 l1 h2 l2 : Int) (b1 : -9223372036854775808 ≤ h1 ∧ h1 < 9223372036854775808) (b2 : 0 ≤ l1 ∧ l1 < 18446744073709551616)
   (b3 : -9223372036854775808 ≤ h2 ∧ h2 < 9223372036854775808) (b4 : 0 ≤ l2 ∧ l2 < 18446744073709551616) :
   IsW (wrap64 ((IntKind.u64.wrap h1 - IntKind.u64.wrap h2 - -((l1 - l2 - 0) / 18446744073709551616)) % 18446744073709551616)) ((l1 - l2 - 0) % 18446744073709551616) (wr ((h1 * 18446744073709551616 + l1) - (h2 * 18446744073709551616 + l2))) := by
  unfold IsW wr wrap64
  rw [IntKind.wrap_u64, IntKind.wrap_u64]
  omega
theorem u64_range (h : Int) : 0 ≤ IntKind.u64.wrap h ∧ IntKind.u64.wrap h < 18446744073709551616 := by rw [IntKind.wrap_u64]; omega

set_option maxHeartbeats 400000 in
theorem plus_any (h1 l1 h2 l2 n m : Int) (w : World) (H1 : IsW h1 l1 n) (H2 : IsW h2 l2 m) :
    Calls Try.prog 75 #[.agg #[.int .i64 h1, .int .u64 l1], .agg #[.int .i64 h2, .int .u64 l2]] w (RW (wr (n + m)) w) := by
  obtain ⟨b1, b2, rfl⟩ := H1
  obtain ⟨b3, b4, rfl⟩ := H2
  have hv := plus_val h1 l1 h2 l2 b1 b2 b3 b4
  have e1 := fun w => add64_call l1 l2 0 b2.1 b4.1 (by omega) (by omega) w
  have e2 := fun w => add64_call (IntKind.u64.wrap h1) (IntKind.u64.wrap h2) ((l1 + l2 + 0) / 18446744073709551616) (u64_range h1).1 (u64_range h2).1 (by omega) (by omega) w
  generalize (l1 + l2 + 0) / 18446744073709551616 = c at *
  generalize (l1 + l2 + 0) % 18446744073709551616 = s at *
  generalize (IntKind.u64.wrap h1 + IntKind.u64.wrap h2 + c) % 18446744073709551616 = s' at *
  generalize (IntKind.u64.wrap h1 + IntKind.u64.wrap h2 + c) / 18446744073709551616 = c' at *
  generalize (h1 * 18446744073709551616 + l1) + (h2 * 18446744073709551616 + l2) = nm at *
  clear b1 b2 b3 b4
  go_enter Try.func75, Try.ntmps75
  go_wp2
  refine bodyPost_ret (v := .agg #[.int .i64 (wrap64 s'), .int .u64 s]) (by simp only [results, Try.results75]; go_simp) rfl ⟨_, _, rfl, hv, ?_⟩
  (repeat (first | (with_reducible exact Below.refl _ _) | with_reducible assumption | (with_reducible refine below_alloc ?_ _) | (focus ((with_reducible refine below_set ?_ _ _ _ ?_); rotate_left; omega)) | (with_reducible refine Below.drew ?_)))
set_option maxHeartbeats 400000 in
theorem minus_any (h1 l1 h2 l2 n m : Int) (w : World) (H1 : IsW h1 l1 n) (H2 : IsW h2 l2 m) :
    Calls Try.prog 63 #[.agg #[.int .i64 h1, .int .u64 l1], .agg #[.int .i64 h2, .int .u64 l2]] w (RW (wr (n - m)) w) := by
  obtain ⟨b1, b2, rfl⟩ := H1
  obtain ⟨b3, b4, rfl⟩ := H2
  have hv := minus_val h1 l1 h2 l2 b1 b2 b3 b4
  have e1 := fun w => sub64_call l1 l2 0 b2.1 b2.2 b4.1 b4.2 (by omega) (by omega) w
  have e2 := fun w => sub64_call (IntKind.u64.wrap h1) (IntKind.u64.wrap h2) (-((l1 - l2 - 0) / 18446744073709551616)) (u64_range h1).1 (u64_range h1).2 (u64_range h2).1 (u64_range h2).2 (by omega) (by omega) w
  generalize -((l1 - l2 - 0) / 18446744073709551616) = c at *
  generalize (l1 - l2 - 0) % 18446744073709551616 = s at *
  generalize (IntKind.u64.wrap h1 - IntKind.u64.wrap h2 - c) % 18446744073709551616 = s' at *
  generalize -((IntKind.u64.wrap h1 - IntKind.u64.wrap h2 - c) / 18446744073709551616) = c' at *
  generalize (h1 * 18446744073709551616 + l1) - (h2 * 18446744073709551616 + l2) = nm at *
  clear b1 b2 b3 b4
  go_enter Try.func63, Try.ntmps63
  go_wp2
  refine bodyPost_ret (v := .agg #[.int .i64 (wrap64 s'), .int .u64 s]) (by simp only [results, Try.results63]; go_simp) rfl ⟨_, _, rfl, hv, ?_⟩
  (repeat (first | (with_reducible exact Below.refl _ _) | with_reducible assumption | (with_reducible refine below_alloc ?_ _) | (focus ((with_reducible refine below_set ?_ _ _ _ ?_); rotate_left; omega)) | (with_reducible refine Below.drew ?_)))

theorem add_yes {h1 l1 h2 l2 Hs Ls n m : Int} (H1 : IsW h1 l1 n) (H2 : IsW h2 l2 m) (H3 : IsW Hs Ls (wr (n + m))) (h : ¬ (decide (h1 < 0) = decide (h2 < 0)) ∨ (!decide (Hs < 0) == decide (h2 < 0)) = false) : fits (n + m) = true ∧ IsW Hs Ls (n + m) := by
  obtain ⟨b1, b2, rfl⟩ := H1
  obtain ⟨b3, b4, rfl⟩ := H2
  obtain ⟨b5, b6, e⟩ := H3
  unfold wr at e
  unfold fits IsW
  simp only [decide_eq_decide, Bool.not_eq_false', beq_iff_eq] at h
  rw [decide_eq_true_eq]
  omega
theorem add_no {h1 l1 h2 l2 Hs Ls n m : Int} (H1 : IsW h1 l1 n) (H2 : IsW h2 l2 m) (H3 : IsW Hs Ls (wr (n + m))) (h : (decide (h1 < 0) = decide (h2 < 0))) (k : (!decide (Hs < 0) == decide (h2 < 0)) = true) : fits (n + m) = false := by
  obtain ⟨b1, b2, rfl⟩ := H1
  obtain ⟨b3, b4, rfl⟩ := H2
  obtain ⟨b5, b6, e⟩ := H3
  unfold wr at e
  unfold fits
  simp only [decide_eq_decide, Bool.not_eq_true', beq_eq_false_iff_ne, ne_eq] at h k
  rw [decide_eq_false_iff_not]
  omega
theorem sub_yes {h1 l1 h2 l2 Hs Ls n m : Int} (H1 : IsW h1 l1 n) (H2 : IsW h2 l2 m) (H3 : IsW Hs Ls (wr (n - m))) (h : (decide (h1 < 0) = decide (h2 < 0)) ∨ (!decide (Hs < 0) == decide (h1 < 0)) = false) : fits (n - m) = true ∧ IsW Hs Ls (n - m) := by
  obtain ⟨b1, b2, rfl⟩ := H1
  obtain ⟨b3, b4, rfl⟩ := H2
  obtain ⟨b5, b6, e⟩ := H3
  unfold wr at e
  unfold fits IsW
  simp only [decide_eq_decide, Bool.not_eq_false', beq_iff_eq] at h
  rw [decide_eq_true_eq]
  omega
theorem sub_no {h1 l1 h2 l2 Hs Ls n m : Int} (H1 : IsW h1 l1 n) (H2 : IsW h2 l2 m) (H3 : IsW Hs Ls (wr (n - m))) (h : ¬ (decide (h1 < 0) = decide (h2 < 0))) (k : (!decide (Hs < 0) == decide (h1 < 0)) = true) : fits (n - m) = false := by
  obtain ⟨b1, b2, rfl⟩ := H1
  obtain ⟨b3, b4, rfl⟩ := H2
  obtain ⟨b5, b6, e⟩ := H3
  unfold wr at e
  unfold fits
  simp only [decide_eq_decide, Bool.not_eq_true', beq_eq_false_iff_ne, ne_eq] at h k
  rw [decide_eq_false_iff_not]
  omega
set_option maxHeartbeats 400000 in
theorem Sub_any (h1 l1 h2 l2 n m : Int) (w : World) (H1 : IsW h1 l1 n) (H2 : IsW h2 l2 m) :
    Calls Try.prog 49 #[.agg #[.int .i64 h1, .int .u64 l1], .agg #[.int .i64 h2, .int .u64 l2]] w (RWF (n - m) w) := by
  go_enter Try.func49, Try.ntmps49
  go_wp2_with (go_at_call 63; refine (minus_any _ _ _ _ _ _ _ H1 H2).mono ?_; rintro e w1 ⟨Hs, Ls, rfl, hs, hb⟩; have c_hb_0_0 := Below.cell hb (p := ⟨w.heap.size, 0, none⟩) (by first | (simp; done) | (simp; omega)); have f_hb_0_0 := Below.frozen hb (p := ⟨w.heap.size, 0, none⟩) (by first | (simp; done) | (simp; omega)); have c_hb_0_1 := Below.cell hb (p := ⟨w.heap.size, 1, none⟩) (by first | (simp; done) | (simp; omega)); have f_hb_0_1 := Below.frozen hb (p := ⟨w.heap.size, 1, none⟩) (by first | (simp; done) | (simp; omega)); have c_hb_1_0 := Below.cell hb (p := ⟨w.heap.size + 1, 0, none⟩) (by first | (simp; done) | (simp; omega)); have f_hb_1_0 := Below.frozen hb (p := ⟨w.heap.size + 1, 0, none⟩) (by first | (simp; done) | (simp; omega)); have c_hb_1_1 := Below.cell hb (p := ⟨w.heap.size + 1, 1, none⟩) (by first | (simp; done) | (simp; omega)); have f_hb_1_1 := Below.frozen hb (p := ⟨w.heap.size + 1, 1, none⟩) (by first | (simp; done) | (simp; omega)); have c_hb_2_0 := Below.cell hb (p := ⟨w.heap.size + 1 + 1, 0, none⟩) (by first | (simp; done) | (simp; omega)); have f_hb_2_0 := Below.frozen hb (p := ⟨w.heap.size + 1 + 1, 0, none⟩) (by first | (simp; done) | (simp; omega)); have c_hb_2_1 := Below.cell hb (p := ⟨w.heap.size + 1 + 1, 1, none⟩) (by first | (simp; done) | (simp; omega)); have f_hb_2_1 := Below.frozen hb (p := ⟨w.heap.size + 1 + 1, 1, none⟩) (by first | (simp; done) | (simp; omega)); have hz_hb := Below.size hb; (try simp at hz_hb); have ne_hb_0 : ¬ w1.heap.size = w.heap.size := (by omega); have ne_hb_1 : ¬ w1.heap.size = w.heap.size + 1 := (by omega); have ne_hb_2 : ¬ w1.heap.size = w.heap.size + 1 + 1 := (by omega))
  · refine bodyPost_ret (v := .tuple #[.agg #[.int .i64 0, .int .u64 0], .bool false]) (by simp only [results, Try.results49]; go_simp) rfl (rwf_no (sub_no H1 H2 hs ‹_› ‹_›) ?_)
    (repeat (first | (with_reducible exact Below.refl _ _) | with_reducible assumption | (with_reducible refine below_alloc ?_ _) | (focus ((with_reducible refine below_set ?_ _ _ _ ?_); rotate_left; omega)) | (with_reducible refine Below.drew ?_) | (with_reducible refine below_call ?_ hb)))
  · refine bodyPost_ret (v := .tuple #[.agg #[.int .i64 Hs, .int .u64 Ls], .bool true]) (by simp only [results, Try.results49]; go_simp) rfl (rwf_yes (sub_yes H1 H2 hs (.inr ‹_›)).1 (sub_yes H1 H2 hs (.inr ‹_›)).2 ?_)
    (repeat (first | (with_reducible exact Below.refl _ _) | with_reducible assumption | (with_reducible refine below_alloc ?_ _) | (focus ((with_reducible refine below_set ?_ _ _ _ ?_); rotate_left; omega)) | (with_reducible refine Below.drew ?_) | (with_reducible refine below_call ?_ hb)))
  · refine bodyPost_ret (v := .tuple #[.agg #[.int .i64 Hs, .int .u64 Ls], .bool true]) (by simp only [results, Try.results49]; go_simp) rfl (rwf_yes (sub_yes H1 H2 hs (.inl ‹_›)).1 (sub_yes H1 H2 hs (.inl ‹_›)).2 ?_)
    (repeat (first | (with_reducible exact Below.refl _ _) | with_reducible assumption | (with_reducible refine below_alloc ?_ _) | (focus ((with_reducible refine below_set ?_ _ _ _ ?_); rotate_left; omega)) | (with_reducible refine Below.drew ?_) | (with_reducible refine below_call ?_ hb)))
end Go.Proofs.Ytlhgmlebjnkonaa
namespace Go.Proofs.Ytlhgmlebjnkonaa
open Go.RowKit
set_option linter.unusedVariables false

theorem ret_int {k : IntKind} {a b : Int} (h : a = b) : Ending.returned (.int k a) = .returned (.int k b) := by rw [h]
theorem ret_bool {a b : Bool} (h : a = b) : Ending.returned (.bool a) = .returned (.bool b) := by rw [h]
theorem isWmin : IsW (-9223372036854775808) 0 (-170141183460469231731687303715884105728) := by unfold IsW; omega
theorem neg_fits {n : Int} (H : fits n = true) : fits (0 - n) = !decide (n = -170141183460469231731687303715884105728) := by
  unfold fits at *
  rw [decide_eq_true_eq] at H
  rw [Bool.eq_iff_iff]
  simp only [decide_eq_true_eq, Bool.not_eq_true', decide_eq_false_iff_not]
  omega
set_option maxHeartbeats 400000 in
set_option maxRecDepth 100000 in
theorem Neg_any (h1 l1 n : Int) (w : World) (H1 : IsW h1 l1 n) :
    Calls Try.prog 65 #[.agg #[.int .i64 h1, .int .u64 l1]] w (RWF (-n) w) := by
  have Hn := Lib.hid (neg_fits H1.fits)
  have he := H1.eqW isWmin
  rw [← Int.zero_sub]
  by_cases e : n = -170141183460469231731687303715884105728
  · have hd : eqW h1 l1 (-9223372036854775808) 0 = true := by rw [he]; exact decide_eq_true e
    have Hf : Hid (fits (0 - n) = false) := by have := Hn.out; rw [decide_eq_true e] at this; exact this
    clear he Hn e
    go_enter Try.func65, Try.ntmps65
    go_wp2
    refine bodyPost_ret (v := .tuple #[.agg #[.int .i64 0, .int .u64 0], .bool false]) (by simp only [results, Try.results65]; go_simp) rfl (rwf_no Hf.out ?_)
    (repeat (first | (with_reducible exact Below.refl _ _) | with_reducible assumption | (with_reducible refine below_alloc ?_ _) | (focus ((with_reducible refine below_set ?_ _ _ _ ?_); rotate_left; omega)) | (with_reducible refine Below.drew ?_)))
  · have hd : eqW h1 l1 (-9223372036854775808) 0 = false := by rw [he]; exact decide_eq_false e
    have Hf : Hid (fits (0 - n) = true) := by have := Hn.out; rw [decide_eq_false e] at this; exact this
    clear he Hn e
    go_enter Try.func65, Try.ntmps65
    go_wp2_with (go_at_call 63; refine (minus_any _ _ _ _ _ _ _ isW0 H1).mono ?_; rintro e w1 ⟨Hs, Ls, rfl, hs, hb⟩; have c_hb_0_0 := Below.cell hb (p := ⟨w.heap.size, 0, none⟩) (by first | (simp; done) | (simp; omega)); have f_hb_0_0 := Below.frozen hb (p := ⟨w.heap.size, 0, none⟩) (by first | (simp; done) | (simp; omega)); have c_hb_0_1 := Below.cell hb (p := ⟨w.heap.size, 1, none⟩) (by first | (simp; done) | (simp; omega)); have f_hb_0_1 := Below.frozen hb (p := ⟨w.heap.size, 1, none⟩) (by first | (simp; done) | (simp; omega)); have c_hb_1_0 := Below.cell hb (p := ⟨w.heap.size + 1, 0, none⟩) (by first | (simp; done) | (simp; omega)); have f_hb_1_0 := Below.frozen hb (p := ⟨w.heap.size + 1, 0, none⟩) (by first | (simp; done) | (simp; omega)); have c_hb_1_1 := Below.cell hb (p := ⟨w.heap.size + 1, 1, none⟩) (by first | (simp; done) | (simp; omega)); have f_hb_1_1 := Below.frozen hb (p := ⟨w.heap.size + 1, 1, none⟩) (by first | (simp; done) | (simp; omega)); have hz_hb := Below.size hb; (try simp at hz_hb); have ne_hb_0 : ¬ w1.heap.size = w.heap.size := (by omega); have ne_hb_1 : ¬ w1.heap.size = w.heap.size + 1 := (by omega))
    rw [wr_fits Hf.out] at hs
    refine bodyPost_ret (v := .tuple #[.agg #[.int .i64 Hs, .int .u64 Ls], .bool true]) (by simp only [results, Try.results65]; go_simp) rfl (rwf_yes Hf.out hs ?_)
    (repeat (first | (with_reducible exact Below.refl _ _) | with_reducible assumption | (with_reducible refine below_alloc ?_ _) | (focus ((with_reducible refine below_set ?_ _ _ _ ?_); rotate_left; omega)) | (with_reducible refine Below.drew ?_) | (with_reducible refine below_call ?_ hb)))
set_option maxHeartbeats 400000 in
theorem Cmp_any (h1 l1 h2 l2 n m : Int) (w : World) (H1 : IsW h1 l1 n) (H2 : IsW h2 l2 m) :
    Calls Try.prog 44 #[.agg #[.int .i64 h1, .int .u64 l1], .agg #[.int .i64 h2, .int .u64 l2]] w (RV (.int .i64 (icmp n m)) w) := by
  go_enter Try.func44, Try.ntmps44
  go_wp2
  all_goals
    go_ret
    refine ⟨ret_int ?_, by (repeat (first | (with_reducible exact Below.refl _ _) | with_reducible assumption | (with_reducible refine below_alloc ?_ _) | (focus ((with_reducible refine below_set ?_ _ _ _ ?_); rotate_left; omega)) | (with_reducible refine Below.drew ?_)))⟩
    simp only [H1.eqW H2, decide_eq_true_eq, decide_eq_false_iff_not] at *
    obtain ⟨b1, b2, e1⟩ := H1
    obtain ⟨b3, b4, e2⟩ := H2
    unfold icmp
    repeat' split
    all_goals omega
set_option maxHeartbeats 400000 in
theorem Sign_any (h1 l1 n : Int) (w : World) (H1 : IsW h1 l1 n) :
    Calls Try.prog 45 #[.agg #[.int .i64 h1, .int .u64 l1]] w (RV (.int .i64 (icmp n 0)) w) := by
  go_enter Try.func45, Try.ntmps45
  go_wp2_with (go_at_call 44; refine (Cmp_any _ _ _ _ _ _ _ H1 isW0).mono ?_; rintro e w1 ⟨rfl, hb⟩)
  go_ret
  exact ⟨rfl, by (repeat (first | (with_reducible exact Below.refl _ _) | with_reducible assumption | (with_reducible refine below_alloc ?_ _) | (focus ((with_reducible refine below_set ?_ _ _ _ ?_); rotate_left; omega)) | (with_reducible refine Below.drew ?_) | (with_reducible refine below_call ?_ hb)))⟩
theorem of_val (n : Int) (h0 : -9223372036854775808 ≤ n) (h1 : n < 9223372036854775808) : IsW (n / 9223372036854775808) (IntKind.u64.wrap n) n := by
  unfold IsW
  rw [IntKind.wrap_u64]
  omega
set_option maxHeartbeats 400000 in
theorem Of_any (n : Int) (w : World) (h0 : -9223372036854775808 ≤ n) (h1 : n < 9223372036854775808) :
    Calls Try.prog 27 #[.int .i64 n] w (RW n w) := by
  have hv := of_val n h0 h1
  go_enter Try.func27, Try.ntmps27
  go_wp2
  refine bodyPost_ret (v := .agg #[.int .i64 (n / 9223372036854775808), .int .u64 (IntKind.u64.wrap n)]) (by simp only [results, Try.results27]; go_simp) rfl ⟨_, _, rfl, hv, ?_⟩
  (repeat (first | (with_reducible exact Below.refl _ _) | with_reducible assumption | (with_reducible refine below_alloc ?_ _) | (focus ((with_reducible refine below_set ?_ _ _ _ ?_); rotate_left; omega)) | (with_reducible refine Below.drew ?_)))
end Go.Proofs.Ytlhgmlebjnkonaa
