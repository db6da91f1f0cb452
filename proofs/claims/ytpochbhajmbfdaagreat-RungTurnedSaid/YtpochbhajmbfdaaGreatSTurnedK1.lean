/-
  My own texts, without what this claim does not need. My own text.
-/
import Derived.WalkKit
import Derived.WalkSpells
import Derived.Lib.Hide
import Derived.BigQuiet
import Derived.BigGuardPart
import Derived.Deep.RegionHeld3
import Derived.Test.YtpochbhajmbfdaaGreatRows
set_option maxRecDepth 100000
set_option maxHeartbeats 64000000
set_option linter.unusedVariables false
set_option linter.unusedSimpArgs false
set_option linter.unusedSectionVars false
open Go.Proofs.Tryz renaming prog → aj
namespace Go.Proofs.YtpochbhajmbfdaaGreat
theorem bF : type_of% @decide_eq_true := @decide_eq_true
theorem bP : type_of% @List.getElem?_eq_some_iff := @List.getElem?_eq_some_iff
theorem b5 : type_of% @decide_eq_false := @decide_eq_false
theorem cj : type_of% @List.getElem?_eq_getElem := @List.getElem?_eq_getElem
theorem cB : type_of% @List.all_eq_true := @List.all_eq_true
theorem cL : type_of% @decide_eq_true_eq := @decide_eq_true_eq
theorem cX : type_of% @List.length_append := @List.length_append
theorem du : type_of% @Nat.le_of_ble_eq_true := @Nat.le_of_ble_eq_true
theorem dL : type_of% @List.mem_of_getElem? := @List.mem_of_getElem?
theorem eb : type_of% @Nat.le_refl := @Nat.le_refl
theorem eh : type_of% @Bool.and_eq_true := @Bool.and_eq_true
theorem eu : type_of% @List.length_take := @List.length_take
theorem eF : type_of% @Nat.zero_le := @Nat.zero_le
theorem eG : type_of% @List.getElem?_map := @List.getElem?_map
theorem gf : type_of% @List.getElem?_append_right := @List.getElem?_append_right
theorem gl : type_of% @List.getElem?_take_of_lt := @List.getElem?_take_of_lt
theorem gE : type_of% @Option.some.injEq := @Option.some.injEq
theorem gF : type_of% @List.getElem?_drop := @List.getElem?_drop
theorem gG : type_of% @List.getElem?_append_left := @List.getElem?_append_left
theorem gS : type_of% @List.mem_cons := @List.mem_cons
theorem hy : type_of% @Option.map_some := @Option.map_some
theorem hP : type_of% @Nat.eq_of_beq_eq_true := @Nat.eq_of_beq_eq_true
theorem hQ : type_of% @List.take_of_length_le := @List.take_of_length_le
theorem il : type_of% @Int.mul_nonneg := @Int.mul_nonneg
theorem iC : type_of% @List.length_drop := @List.length_drop
theorem iV : type_of% @List.append_assoc := @List.append_assoc
theorem iW : type_of% @List.mem_map := @List.mem_map
theorem iX : type_of% @Nat.ne_of_gt := @Nat.ne_of_gt
theorem iY : type_of% @Nat.ne_of_lt := @Nat.ne_of_lt
theorem js : type_of% @List.mem_singleton := @List.mem_singleton
theorem jt : type_of% @Nat.lt_or_ge := @Nat.lt_or_ge
theorem ju : type_of% @Nat.zero_add := @Nat.zero_add
theorem jv : type_of% @List.pairwise_cons := @List.pairwise_cons
theorem jK : type_of% @List.length_map := @List.length_map
theorem jL : type_of% @Nat.zero_lt_succ := @Nat.zero_lt_succ
theorem jM : type_of% @Int.pow_pos := @Int.pow_pos
theorem kf : type_of% @Int.mul_comm := @Int.mul_comm
theorem kA : type_of% @List.getElem?_of_mem := @List.getElem?_of_mem
theorem kB : type_of% @Nat.add_mul := @Nat.add_mul
theorem kC : type_of% @Nat.mul_le_mul_right := @Nat.mul_le_mul_right
theorem kD : type_of% @List.mem_append := @List.mem_append
theorem kE : type_of% @Option.bind_some := @Option.bind_some
theorem kF : type_of% @List.all_cons := @List.all_cons
theorem kG : type_of% @Rat.mul_nonneg := @Rat.mul_nonneg
theorem k2 : type_of% @List.mem_cons_self := @List.mem_cons_self
theorem k3 : type_of% @List.take_append_drop := @List.take_append_drop
theorem k4 : type_of% @Array.getElem?_eq_some_iff := @Array.getElem?_eq_some_iff
theorem k5 : type_of% @List.map_cons := @List.map_cons
theorem k6 : type_of% @Int.toNat_natCast := @Int.toNat_natCast
theorem lB : type_of% @List.length_cons := @List.length_cons
theorem lC : type_of% @Nat.le_trans := @Nat.le_trans
theorem lD : type_of% @Int.mul_assoc := @Int.mul_assoc
theorem l0 : type_of% @decide_eq_false_iff_not := @decide_eq_false_iff_not
theorem mC : type_of% @Bool.eq_iff_iff := @Bool.eq_iff_iff
theorem mD : type_of% @Option.some.inj := @Option.some.inj
theorem mE : type_of% @List.eq_nil_of_length_eq_zero := @List.eq_nil_of_length_eq_zero
theorem ng : type_of% @Int.eq_ofNat_of_zero_le := @Int.eq_ofNat_of_zero_le
theorem nh : type_of% @List.all_nil := @List.all_nil
theorem nL : type_of% @List.drop_eq_getElem_cons := @List.drop_eq_getElem_cons
theorem nM : type_of% @Int.le_refl := @Int.le_refl
theorem nN : type_of% @List.mem_of_mem_drop := @List.mem_of_mem_drop
theorem nO : type_of% @List.take_succ_eq_append_getElem := @List.take_succ_eq_append_getElem
theorem oA : type_of% @List.mem_cons_of_mem := @List.mem_cons_of_mem
theorem oB : type_of% @List.getElem?_cons_zero := @List.getElem?_cons_zero
theorem oC : type_of% @Bool.false_eq_true := @Bool.false_eq_true
theorem oD : type_of% @List.map_congr_left := @List.map_congr_left
theorem oE : type_of% @Int.emod_lt_of_pos := @Int.emod_lt_of_pos
theorem py : type_of% @List.mem_of_mem_take := @List.mem_of_mem_take
theorem pz : type_of% @Int.emod_nonneg := @Int.emod_nonneg
theorem qz : type_of% @List.append_nil := @List.append_nil
theorem qA : type_of% @Int.mul_le_mul_of_nonneg_left := @Int.mul_le_mul_of_nonneg_left
theorem qB : type_of% @Int.mul_le_mul_of_nonneg_right := @Int.mul_le_mul_of_nonneg_right
theorem qC : type_of% @Nat.min_eq_left := @Nat.min_eq_left
theorem qD : type_of% @Int.lt_or_le := @Int.lt_or_le
theorem qE : type_of% @Int.ediv_nonneg := @Int.ediv_nonneg
theorem qF : type_of% @Int.le_of_lt := @Int.le_of_lt
theorem qG : type_of% @Int.le_ediv_iff_mul_le := @Int.le_ediv_iff_mul_le
theorem qH : type_of% @Bool.true_and := @Bool.true_and
theorem qI : type_of% @List.length_reverse := @List.length_reverse
theorem rG : type_of% @List.getD_eq_getElem?_getD := @List.getD_eq_getElem?_getD
theorem rH : type_of% @List.not_mem_nil := @List.not_mem_nil
theorem rI : type_of% @List.getElem?_cons_succ := @List.getElem?_cons_succ
theorem rJ : type_of% @List.getElem?_eq_none := @List.getElem?_eq_none
theorem rK : type_of% @Bool.or_eq_true := @Bool.or_eq_true
theorem rL : type_of% @List.cons.inj := @List.cons.inj
theorem tf : type_of% @Bool.not_eq_true' := @Bool.not_eq_true'
theorem tg : type_of% @List.mem_filter := @List.mem_filter
theorem th : type_of% @Int.mul_eq_zero := @Int.mul_eq_zero
theorem ti : type_of% @Int.mul_ediv_add_emod := @Int.mul_ediv_add_emod
theorem tj : type_of% @Option.map_none := @Option.map_none
theorem tk : type_of% @Int.mul_le_mul := @Int.mul_le_mul
theorem tl : type_of% @Rat.intCast_add := @Rat.intCast_add
theorem u1 : type_of% @Array.getElem?_modify := @Array.getElem?_modify
theorem u2 : type_of% @Nat.lt_of_lt_of_le := @Nat.lt_of_lt_of_le
theorem u3 : type_of% @Nat.eq_zero_or_pos := @Nat.eq_zero_or_pos
theorem u4 : type_of% @List.drop_of_length_le := @List.drop_of_length_le
theorem wL : type_of% @List.getElem?_range := @List.getElem?_range
theorem wM : type_of% @Array.getElem?_eq_none := @Array.getElem?_eq_none
theorem yw : type_of% @Array.getD_eq_getD_getElem? := @Array.getD_eq_getD_getElem?
theorem yx : type_of% @Int.ediv_ediv_of_nonneg := @Int.ediv_ediv_of_nonneg
theorem Bk : type_of% @List.take_append_of_le_length := @List.take_append_of_le_length
end Go.Proofs.YtpochbhajmbfdaaGreat
namespace Go.Proofs.YtpochbhajmbfdaaGreat
theorem hG : (∀ b : Bool, ((!b) = true) = (b = false)) ∧ (∀ b : Bool, ((!b) = false) = (b = true)) ∧ (∀ (p : Prop) [Decidable p], (decide p = true) = p) ∧ ∀ (p : Prop) [Decidable p], (decide p = false) = ¬ p := ⟨by simp, by simp, by simp, by simp⟩
end Go.Proofs.YtpochbhajmbfdaaGreat
namespace Go.Proofs.YtpochbhajmbfdaaGreat
open Go.RowKit
@[go_sem] theorem OP (w : World) (a b : Addr) (v : Value) : ((w.setCell a v).cell? b).isSome = (w.cell? b).isSome := by
  unfold World.setCell World.cell?;simp only [u1]
  by_cases e : a.block = b.block
  · rw [if_pos e]
    cases w.heap[b.block]? with
    | none => rfl
    | some o =>
      cases o <;> simp only [hy]
      by_cases s : a.spot.isSome = true
      · simp [s]
      · by_cases t : b.spot.isSome = true
        · simp [t]
        · simp only [if_neg s, if_neg t]
          rw [Array.getElem?_setIfInBounds]
          split
          · rename_i h1
            rw [← h1]
            split
            · rename_i h2; simp [h2]
            · rename_i h2; simp [h2]
          · rfl
  · rw [if_neg e]
theorem cc {w W aT : World} (h : Below w.heap.size w W) (ab : Below W.heap.size W aT) : Below w.heap.size w aT := h.trans (ab.mono h.size)
theorem c7 {w W : World} (h : Below w.heap.size w W) (o : Obj) : Below w.heap.size w (W.alloc o) := h.alloc h.size o
theorem eV {w W : World} (h : Below w.heap.size w W) (b o : Nat) (v : Value) (ab : w.heap.size ≤ b) : Below w.heap.size w (W.setCell ⟨b, o, none⟩ v) := h.setCell (p := ⟨b, o, none⟩) ab v
def ah (w : World) (b : Nat) (u v : Value) : Prop := (w.cell? ⟨b, 0, none⟩ = some u ∧ w.cell? ⟨b, 1, none⟩ = some v) ∧ (w.frozen? ⟨b, 0, none⟩ = false ∧ w.frozen? ⟨b, 1, none⟩ = false)
theorem ah.lt {w : World} {b : Nat} {u v : Value} (h : ah w b u v) : b < w.heap.size := World.block_lt_of_cell? w _ h.1.1
theorem ah.call {W aT : World} {b : Nat} {u v : Value} (h : ah W b u v) (ab : Below W.heap.size W aT) : ah aT b u v := by
  have ap := h.lt;obtain ⟨⟨h1, h2⟩, ao, aH⟩ := h;exact ⟨⟨(ab.cell (p := ⟨b, 0, none⟩) ap).trans h1, (ab.cell (p := ⟨b, 1, none⟩) ap).trans h2⟩, (ab.frozen (p := ⟨b, 0, none⟩) ap).trans ao, (ab.frozen (p := ⟨b, 1, none⟩) ap).trans aH⟩
theorem ah.alloc {W : World} {b : Nat} {u v : Value} (h : ah W b u v) (o : Obj) : ah (W.alloc o) b u v := h.call ((Below.refl _ _).alloc (eb _) o)
theorem ah.drew {W : World} {b : Nat} {u v : Value} (h : ah W b u v) : ah W.drew b u v := h.call ((Below.refl _ _).drew)
theorem ah.new {W : World} {b : Nat} {u v : Value} {t : TypeId} (e : b = W.heap.size) : ah (W.alloc (.cells #[u, v] t)) b u v := by
  subst e;unfold ah
  go_simp
theorem ah.set {W : World} {b g : Nat} {u v x : Value} (h : ah W b u v) (o : Nat) (ne : g ≠ b) : ah (W.setCell ⟨g, o, none⟩ x) b u v := by
  obtain ⟨⟨h1, h2⟩, ao, aH⟩ := h;have nc : (⟨g, o, none⟩ : Addr) ≠ ⟨b, 0, none⟩ := fun e => ne (congrArg Addr.block e);have fT : (⟨g, o, none⟩ : Addr) ≠ ⟨b, 1, none⟩ := fun e => ne (congrArg Addr.block e);refine ⟨⟨?_, ?_⟩, ?_, ?_⟩
  · rw [World.cell?_setCell_other _ _ _ _ nc]; exact h1
  · rw [World.cell?_setCell_other _ _ _ _ fT]; exact h2
  · go_simp
  · go_simp
def fE (w : World) (b : Nat) : Prop := ((w.cell? ⟨b, 0, none⟩).isSome = true ∧ (w.cell? ⟨b, 1, none⟩).isSome = true) ∧ (w.frozen? ⟨b, 0, none⟩ = false ∧ w.frozen? ⟨b, 1, none⟩ = false)
theorem fE.of {W : World} {b : Nat} {u v : Value} (h : ah W b u v) : fE W b := by
  obtain ⟨⟨h1, h2⟩, ao, aH⟩ := h;exact ⟨⟨by rw [h1]; rfl, by rw [h2]; rfl⟩, ao, aH⟩
theorem fE.box {W : World} {b : Nat} (h : fE W b) : ∃ u v, ah W b u v := by
  obtain ⟨⟨h1, h2⟩, ao, aH⟩ := h;obtain ⟨u, hu⟩ := Option.isSome_iff_exists.1 h1;obtain ⟨v, hv⟩ := Option.isSome_iff_exists.1 h2;exact ⟨u, v, ⟨hu, hv⟩, ao, aH⟩
theorem fE.set {W : World} {b : Nat} (h : fE W b) (a : Addr) (x : Value) : fE (W.setCell a x) b := by
  obtain ⟨⟨h1, h2⟩, ao, aH⟩ := h;refine ⟨⟨by rw [OP]; exact h1, by rw [OP]; exact h2⟩, ?_, ?_⟩
  · go_simp
  · go_simp
theorem ah.put {W : World} {b : Nat} {k8 a7 : Value} (h : fE W b) : ah ((W.setCell ⟨b, 0, none⟩ k8).setCell ⟨b, 1, none⟩ a7) b k8 a7 := by
  obtain ⟨u, v, k⟩ := h.box;obtain ⟨⟨h1, h2⟩, ao, aH⟩ := k;unfold ah
  go_simp
theorem zk {P : Program} {F : Func} {Q : Ending → World → Prop} {e : Exit} {a : Act} {W : World} (h : ∀ bn, bn = W → bodyPost P F Q e a bn) : bodyPost P F Q e a W := h W rfl
theorem lP {p q : Prop} (h : p) (k : p → q) : q := k h
def gh (a b c d : Int) : Bool := a == c && b == d
theorem MZ (a b c d : Int) (w : World) : (Op.equalIn 10000 159 (.agg #[.int .i64 a, .int .u64 b]) (.agg #[.int .i64 c, .int .u64 d])).run aj w = .ok (gh a b c d) w := by
  unfold gh
  go_simp
  by_cases h : a = c <;> by_cases k : b = d <;> simp [h, k]
@[go_sem ↓ high] theorem aim (a b c d : Int) (w : World) : (binOp .eql 159 (.agg #[.int .i64 a, .int .u64 b]) (.agg #[.int .i64 c, .int .u64 d])).run aj w = .ok (.bool (gh a b c d)) w := by
  rw [run_eql_struct, MZ]; rfl
@[go_sem ↓ high] theorem ake (a b c d : Int) (w : World) : (binOp .neq 159 (.agg #[.int .i64 a, .int .u64 b]) (.agg #[.int .i64 c, .int .u64 d])).run aj w = .ok (.bool (!gh a b c d)) w := by
  rw [run_neq_struct, MZ]; rfl
theorem Xh (a b c d : Int) (w : World) : (Op.equalIn 10000 311 (.agg #[.int .u64 a, .int .u64 b]) (.agg #[.int .u64 c, .int .u64 d])).run aj w = .ok (gh a b c d) w := by
  unfold gh
  go_simp
  by_cases h : a = c <;> by_cases k : b = d <;> simp [h, k]
@[go_sem ↓ high] theorem akd (a b c d : Int) (w : World) : (binOp .neq 311 (.agg #[.int .u64 a, .int .u64 b]) (.agg #[.int .u64 c, .int .u64 d])).run aj w = .ok (.bool (!gh a b c d)) w := by
  rw [run_neq_struct, Xh]; rfl
def bz (H L n : Int) : Prop := (-9223372036854775808 ≤ H ∧ H < 9223372036854775808) ∧ (0 ≤ L ∧ L < 18446744073709551616) ∧ n = H * 18446744073709551616 + L
def cP (H L n : Int) : Prop := (0 ≤ H ∧ H < 18446744073709551616) ∧ (0 ≤ L ∧ L < 18446744073709551616) ∧ n = H * 18446744073709551616 + L
def wr (n : Int) : Int := (n + 170141183460469231731687303715884105728) % 340282366920938463463374607431768211456 - 170141183460469231731687303715884105728
def fits (n : Int) : Bool := decide (-170141183460469231731687303715884105728 ≤ n ∧ n < 170141183460469231731687303715884105728)
def pS (n : Int) (w : World) (e : Ending) (w' : World) : Prop := ∃ H L, e = .returned (.agg #[.int .i64 H, .int .u64 L]) ∧ bz H L n ∧ Below w.heap.size w w'
def mJ (n : Int) (w : World) (e : Ending) (w' : World) : Prop := ∃ H L, e = .returned (.tuple #[.agg #[.int .i64 H, .int .u64 L], .bool (fits n)]) ∧ bz H L (if fits n then n else 0) ∧ Below w.heap.size w w'
def aN (n : Int) (w : World) (e : Ending) (w' : World) : Prop := ∃ H L, e = .returned (.agg #[.int .u64 H, .int .u64 L]) ∧ cP H L n ∧ Below w.heap.size w w'
def hD (v : Value) (w : World) (e : Ending) (w' : World) : Prop := e = .returned v ∧ Below w.heap.size w w'
def gj (n m : Int) : Int := if n = m then 0 else if n < m then -1 else 1
theorem pb : bz 0 0 0 := by unfold bz; omega
theorem bz.fits {H L n : Int} (h : bz H L n) : fits n = true := by
  obtain ⟨a, b, rfl⟩ := h;unfold Proofs.YtpochbhajmbfdaaGreat.fits;rw [cL];omega
theorem bz.inj {H L cn L' n : Int} (h : bz H L n) (k : bz cn L' n) : H = cn ∧ L = L' := by
  obtain ⟨a, b, rfl⟩ := h;obtain ⟨c, d, e⟩ := k;omega
theorem bz.neg {H L n : Int} (h : bz H L n) : H < 0 ↔ n < 0 := by
  obtain ⟨a, b, rfl⟩ := h;omega
theorem bz.gh {H L cn L' n m : Int} (h : bz H L n) (k : bz cn L' m) : gh H L cn L' = decide (n = m) := by
  obtain ⟨a, b, rfl⟩ := h;obtain ⟨c, d, rfl⟩ := k;unfold Proofs.YtpochbhajmbfdaaGreat.gh;rw [mC];simp only [eh, beq_iff_eq, cL];omega
theorem cP.gh {H L cn L' n m : Int} (h : cP H L n) (k : cP cn L' m) : gh H L cn L' = decide (n = m) := by
  obtain ⟨a, b, rfl⟩ := h;obtain ⟨c, d, rfl⟩ := k;unfold Proofs.YtpochbhajmbfdaaGreat.gh;rw [mC];simp only [eh, beq_iff_eq, cL];omega
theorem AJ : cP 0 0 0 := by unfold cP; omega
theorem bz.conv {H L n m : Int} (h : bz H L n) (e : n = m) : bz H L m := e ▸ h
theorem KD {n : Int} (h : fits n = true) : wr n = n := by
  unfold Proofs.YtpochbhajmbfdaaGreat.fits at h;unfold wr;rw [cL] at h;omega
theorem tu {n H L : Int} {w w' : World} (h : fits n = true) (k : bz H L n) (b : Below w.heap.size w w') : mJ n w (.returned (.tuple #[.agg #[.int .i64 H, .int .u64 L], .bool true])) w' := ⟨H, L, by rw [h], by rw [h]; exact k, b⟩
theorem wQ {n : Int} {w w' : World} (h : fits n = false) (b : Below w.heap.size w w') : mJ n w (.returned (.tuple #[.agg #[.int .i64 0, .int .u64 0], .bool false])) w' := ⟨0, 0, by rw [h], by rw [h]; exact pb, b⟩
theorem CB (x y c : Int) (aa : 0 ≤ x) (ag : 0 ≤ y) (HX : 0 ≤ c) (ak : c ≤ 1) (w : World) :
    (callFunc 293 #[.int .u64 x, .int .u64 y, .int .u64 c]).run aj w =
      .ok (.value (.tuple #[.int .u64 ((x + y + c) % 18446744073709551616), .int .u64 ((x + y + c) / 18446744073709551616)])) w := by
  rw [run_callFunc_extern Tryz.func293 (by kernel_rfl) (by kernel_rfl) (by kernel_rfl) (e := add64Entry) (by kernel_rfl), run_add64 x y c aa ag HX ak];rfl
def Sf : Array Value → Sem Value := fun args => do
  let (x, y, b) ← Extern.MathBitsCarry.three "Sub64" args
  pure (Extern.MathBitsCarry.pair ((x + Extern.MathBitsCarry.m64 - y - b) % Extern.MathBitsCarry.m64) (if x < y + b then 1 else 0))
theorem afZ {P : Program} (x y b : Nat) (ab : b ≤ 1) (w : World) :
    (Sf #[.int .u64 x, .int .u64 y, .int .u64 b]).run P w =
      .ok (.tuple #[.int .u64 (((x + 18446744073709551616 - y - b) % 18446744073709551616 : Nat) : Int), .int .u64 ((if x < y + b then 1 else 0 : Nat) : Int)]) w := by
  have : b = 0 ∨ b = 1 := by omega
  rcases this with rfl | rfl <;> rfl
theorem FM (x y c : Int) (aa : 0 ≤ x) (II : x < 18446744073709551616) (ag : 0 ≤ y) (AA : y < 18446744073709551616) (HX : 0 ≤ c) (ak : c ≤ 1) (w : World) :
    (callFunc 277 #[.int .u64 x, .int .u64 y, .int .u64 c]).run aj w =
      .ok (.value (.tuple #[.int .u64 ((x - y - c) % 18446744073709551616), .int .u64 (-((x - y - c) / 18446744073709551616))])) w := by
  obtain ⟨X, rfl⟩ := ng aa;obtain ⟨Y, rfl⟩ := ng ag;obtain ⟨C, rfl⟩ := ng HX;rw [run_callFunc_extern Tryz.func277 (by kernel_rfl) (by kernel_rfl) (by kernel_rfl) (e := Sf) (by kernel_rfl), afZ X Y C (by omega)];simp only [Result.andThen];have aG : (((X + 18446744073709551616 - Y - C) % 18446744073709551616 : Nat) : Int) = ((X : Int) - Y - C) % 18446744073709551616 := by omega
  have aM : ((if X < Y + C then 1 else 0 : Nat) : Int) = -(((X : Int) - Y - C) / 18446744073709551616) := by split <;> omega
  rw [aG, aM]
theorem aeU (h1 l1 h2 l2 : Int) (b1 : -9223372036854775808 ≤ h1 ∧ h1 < 9223372036854775808) (b2 : 0 ≤ l1 ∧ l1 < 18446744073709551616)
   (ey : -9223372036854775808 ≤ h2 ∧ h2 < 9223372036854775808) (dQ : 0 ≤ l2 ∧ l2 < 18446744073709551616) :
   bz (wrap64 ((IntKind.u64.wrap h1 + IntKind.u64.wrap h2 + (l1 + l2 + 0) / 18446744073709551616) % 18446744073709551616)) ((l1 + l2 + 0) % 18446744073709551616) (wr ((h1 * 18446744073709551616 + l1) + (h2 * 18446744073709551616 + l2))) := by
  unfold bz wr wrap64;rw [IntKind.wrap_u64, IntKind.wrap_u64];omega
theorem acr (h1 l1 h2 l2 : Int) (b1 : -9223372036854775808 ≤ h1 ∧ h1 < 9223372036854775808) (b2 : 0 ≤ l1 ∧ l1 < 18446744073709551616)
   (ey : -9223372036854775808 ≤ h2 ∧ h2 < 9223372036854775808) (dQ : 0 ≤ l2 ∧ l2 < 18446744073709551616) :
   bz (wrap64 ((IntKind.u64.wrap h1 - IntKind.u64.wrap h2 - -((l1 - l2 - 0) / 18446744073709551616)) % 18446744073709551616)) ((l1 - l2 - 0) % 18446744073709551616) (wr ((h1 * 18446744073709551616 + l1) - (h2 * 18446744073709551616 + l2))) := by
  unfold bz wr wrap64;rw [IntKind.wrap_u64, IntKind.wrap_u64];omega
theorem wZ (h : Int) : 0 ≤ IntKind.u64.wrap h ∧ IntKind.u64.wrap h < 18446744073709551616 := by rw [IntKind.wrap_u64]; omega
theorem Ra (h1 l1 h2 l2 n m : Int) (w : World) (H1 : bz h1 l1 n) (bZ : bz h2 l2 m) :
    Calls aj 299 #[.agg #[.int .i64 h1, .int .u64 l1], .agg #[.int .i64 h2, .int .u64 l2]] w (pS (wr (n + m)) w) := by
  obtain ⟨b1, b2, rfl⟩ := H1;obtain ⟨ey, dQ, rfl⟩ := bZ;have hv := aeU h1 l1 h2 l2 b1 b2 ey dQ;have aG := fun w => CB l1 l2 0 b2.1 dQ.1 (by omega) (by omega) w;have aM := fun w => CB (IntKind.u64.wrap h1) (IntKind.u64.wrap h2) ((l1 + l2 + 0) / 18446744073709551616) (wZ h1).1 (wZ h2).1 (by omega) (by omega) w;generalize (l1 + l2 + 0) / 18446744073709551616 = c at *;generalize (l1 + l2 + 0) % 18446744073709551616 = s at *;generalize (IntKind.u64.wrap h1 + IntKind.u64.wrap h2 + c) % 18446744073709551616 = s' at *;generalize (IntKind.u64.wrap h1 + IntKind.u64.wrap h2 + c) / 18446744073709551616 = c' at *;generalize (h1 * 18446744073709551616 + l1) + (h2 * 18446744073709551616 + l2) = Qe at *;clear b1 b2 ey dQ
  go_enter Tryz.func299, Tryz.ntmps299
  go_wp2
  refine bodyPost_ret (v := .agg #[.int .i64 (wrap64 s'), .int .u64 s]) (by simp only [results, Tryz.results299]; go_simp) rfl ⟨_, _, rfl, hv, ?_⟩;(repeat first | with_reducible exact Below.refl _ _ | with_reducible refine c7 ?_ _)
theorem A0 (h1 l1 h2 l2 n m : Int) (w : World) (H1 : bz h1 l1 n) (bZ : bz h2 l2 m) :
    Calls aj 245 #[.agg #[.int .i64 h1, .int .u64 l1], .agg #[.int .i64 h2, .int .u64 l2]] w (pS (wr (n - m)) w) := by
  obtain ⟨b1, b2, rfl⟩ := H1;obtain ⟨ey, dQ, rfl⟩ := bZ;have hv := acr h1 l1 h2 l2 b1 b2 ey dQ;have aG := fun w => FM l1 l2 0 b2.1 b2.2 dQ.1 dQ.2 (by omega) (by omega) w;have aM := fun w => FM (IntKind.u64.wrap h1) (IntKind.u64.wrap h2) (-((l1 - l2 - 0) / 18446744073709551616)) (wZ h1).1 (wZ h1).2 (wZ h2).1 (wZ h2).2 (by omega) (by omega) w;generalize -((l1 - l2 - 0) / 18446744073709551616) = c at *;generalize (l1 - l2 - 0) % 18446744073709551616 = s at *;generalize (IntKind.u64.wrap h1 - IntKind.u64.wrap h2 - c) % 18446744073709551616 = s' at *;generalize -((IntKind.u64.wrap h1 - IntKind.u64.wrap h2 - c) / 18446744073709551616) = c' at *;generalize (h1 * 18446744073709551616 + l1) - (h2 * 18446744073709551616 + l2) = Qe at *;clear b1 b2 ey dQ
  go_enter Tryz.func245, Tryz.ntmps245
  go_wp2
  refine bodyPost_ret (v := .agg #[.int .i64 (wrap64 s'), .int .u64 s]) (by simp only [results, Tryz.results245]; go_simp) rfl ⟨_, _, rfl, hv, ?_⟩;(repeat first | with_reducible exact Below.refl _ _ | with_reducible refine c7 ?_ _)
theorem CC {h1 l1 h2 l2 gJ iu n m : Int} (H1 : bz h1 l1 n) (bZ : bz h2 l2 m) (vf : bz gJ iu (wr (n + m))) (h : ¬ (decide (h1 < 0) = decide (h2 < 0)) ∨ (!decide (gJ < 0) == decide (h2 < 0)) = false) : fits (n + m) = true ∧ bz gJ iu (n + m) := by
  obtain ⟨b1, b2, rfl⟩ := H1;obtain ⟨ey, dQ, rfl⟩ := bZ;obtain ⟨GL, GM, e⟩ := vf;unfold wr at e;unfold fits bz;simp only [decide_eq_decide, Bool.not_eq_false', beq_iff_eq] at h;rw [cL];omega
theorem Uu {h1 l1 h2 l2 gJ iu n m : Int} (H1 : bz h1 l1 n) (bZ : bz h2 l2 m) (vf : bz gJ iu (wr (n + m))) (h : (decide (h1 < 0) = decide (h2 < 0))) (k : (!decide (gJ < 0) == decide (h2 < 0)) = true) : fits (n + m) = false := by
  obtain ⟨b1, b2, rfl⟩ := H1;obtain ⟨ey, dQ, rfl⟩ := bZ;obtain ⟨GL, GM, e⟩ := vf;unfold wr at e;unfold fits;simp only [decide_eq_decide, tf, beq_eq_false_iff_ne, ne_eq] at h k;rw [l0];omega
theorem SU (h1 l1 h2 l2 n m : Int) (w : World) (H1 : bz h1 l1 n) (bZ : bz h2 l2 m) :
    Calls aj 290 #[.agg #[.int .i64 h1, .int .u64 l1], .agg #[.int .i64 h2, .int .u64 l2]] w (mJ (n + m) w) := by
  go_enter Tryz.func290, Tryz.ntmps290
  go_wp2_with (go_at_call 299; refine (Ra _ _ _ _ _ _ _ H1 bZ).mono ?_; rintro e aT ⟨gJ, iu, rfl, hs, ab⟩; have zl := Below.cell ab (p := ⟨w.heap.size, 0, none⟩) (by (simp; omega)); have zF := Below.frozen ab (p := ⟨w.heap.size, 0, none⟩) (by (simp; omega)); have zm := Below.cell ab (p := ⟨w.heap.size, 1, none⟩) (by (simp; omega)); have zG := Below.frozen ab (p := ⟨w.heap.size, 1, none⟩) (by (simp; omega)); have CU := Below.cell ab (p := ⟨w.heap.size + 1, 0, none⟩) (by (simp; done)); have Dm := Below.frozen ab (p := ⟨w.heap.size + 1, 0, none⟩) (by (simp; done)); have CV := Below.cell ab (p := ⟨w.heap.size + 1, 1, none⟩) (by (simp; done)); have Dn := Below.frozen ab (p := ⟨w.heap.size + 1, 1, none⟩) (by (simp; done)); have VF := Below.cell ab (p := ⟨w.heap.size + 1 + 1, 0, none⟩) (by (simp; done)); have Xr := Below.frozen ab (p := ⟨w.heap.size + 1 + 1, 0, none⟩) (by (simp; done)); have VG := Below.cell ab (p := ⟨w.heap.size + 1 + 1, 1, none⟩) (by (simp; done)); have Xs := Below.frozen ab (p := ⟨w.heap.size + 1 + 1, 1, none⟩) (by (simp; done)); have oo := Below.size ab; (try simp at oo); have ym : ¬ aT.heap.size = w.heap.size := (by omega); have A6 : ¬ aT.heap.size = w.heap.size + 1 := (by omega); have acO : ¬ aT.heap.size = w.heap.size + 1 + 1 := (by omega))
  · refine bodyPost_ret (v := .tuple #[.agg #[.int .i64 0, .int .u64 0], .bool false]) (by simp only [results, Tryz.results290]; go_simp) rfl (wQ (Uu H1 bZ hs ‹_› ‹_›) ?_)
    (repeat first | with_reducible exact Below.refl _ _ | with_reducible refine c7 ?_ _ | focus ((with_reducible refine eV ?_ _ _ _ ?_); rotate_left; omega) | with_reducible refine cc ?_ ab)
  · refine bodyPost_ret (v := .tuple #[.agg #[.int .i64 gJ, .int .u64 iu], .bool true]) (by simp only [results, Tryz.results290]; go_simp) rfl (tu (CC H1 bZ hs (.inr ‹_›)).1 (CC H1 bZ hs (.inr ‹_›)).2 ?_)
    (repeat first | with_reducible exact Below.refl _ _ | with_reducible refine c7 ?_ _ | focus ((with_reducible refine eV ?_ _ _ _ ?_); rotate_left; omega) | with_reducible refine cc ?_ ab)
  · refine bodyPost_ret (v := .tuple #[.agg #[.int .i64 gJ, .int .u64 iu], .bool true]) (by simp only [results, Tryz.results290]; go_simp) rfl (tu (CC H1 bZ hs (.inl ‹_›)).1 (CC H1 bZ hs (.inl ‹_›)).2 ?_)
    (repeat first | with_reducible exact Below.refl _ _ | with_reducible refine c7 ?_ _ | focus ((with_reducible refine eV ?_ _ _ _ ?_); rotate_left; omega) | with_reducible refine cc ?_ ab)
theorem FN {h1 l1 h2 l2 gJ iu n m : Int} (H1 : bz h1 l1 n) (bZ : bz h2 l2 m) (vf : bz gJ iu (wr (n - m))) (h : (decide (h1 < 0) = decide (h2 < 0)) ∨ (!decide (gJ < 0) == decide (h1 < 0)) = false) : fits (n - m) = true ∧ bz gJ iu (n - m) := by
  obtain ⟨b1, b2, rfl⟩ := H1;obtain ⟨ey, dQ, rfl⟩ := bZ;obtain ⟨GL, GM, e⟩ := vf;unfold wr at e;unfold fits bz;simp only [decide_eq_decide, Bool.not_eq_false', beq_iff_eq] at h;rw [cL];omega
theorem agN {h1 l1 h2 l2 gJ iu n m : Int} (H1 : bz h1 l1 n) (bZ : bz h2 l2 m) (vf : bz gJ iu (wr (n - m))) (h : ¬ (decide (h1 < 0) = decide (h2 < 0))) (k : (!decide (gJ < 0) == decide (h1 < 0)) = true) : fits (n - m) = false := by
  obtain ⟨b1, b2, rfl⟩ := H1;obtain ⟨ey, dQ, rfl⟩ := bZ;obtain ⟨GL, GM, e⟩ := vf;unfold wr at e;unfold fits;simp only [decide_eq_decide, tf, beq_eq_false_iff_ne, ne_eq] at h k;rw [l0];omega
theorem La (h1 l1 h2 l2 n m : Int) (w : World) (H1 : bz h1 l1 n) (bZ : bz h2 l2 m) :
    Calls aj 221 #[.agg #[.int .i64 h1, .int .u64 l1], .agg #[.int .i64 h2, .int .u64 l2]] w (mJ (n - m) w) := by
  go_enter Tryz.func221, Tryz.ntmps221
  go_wp2_with (go_at_call 245; refine (A0 _ _ _ _ _ _ _ H1 bZ).mono ?_; rintro e aT ⟨gJ, iu, rfl, hs, ab⟩; have zl := Below.cell ab (p := ⟨w.heap.size, 0, none⟩) (by (simp; omega)); have zF := Below.frozen ab (p := ⟨w.heap.size, 0, none⟩) (by (simp; omega)); have zm := Below.cell ab (p := ⟨w.heap.size, 1, none⟩) (by (simp; omega)); have zG := Below.frozen ab (p := ⟨w.heap.size, 1, none⟩) (by (simp; omega)); have CU := Below.cell ab (p := ⟨w.heap.size + 1, 0, none⟩) (by (simp; done)); have Dm := Below.frozen ab (p := ⟨w.heap.size + 1, 0, none⟩) (by (simp; done)); have CV := Below.cell ab (p := ⟨w.heap.size + 1, 1, none⟩) (by (simp; done)); have Dn := Below.frozen ab (p := ⟨w.heap.size + 1, 1, none⟩) (by (simp; done)); have VF := Below.cell ab (p := ⟨w.heap.size + 1 + 1, 0, none⟩) (by (simp; done)); have Xr := Below.frozen ab (p := ⟨w.heap.size + 1 + 1, 0, none⟩) (by (simp; done)); have VG := Below.cell ab (p := ⟨w.heap.size + 1 + 1, 1, none⟩) (by (simp; done)); have Xs := Below.frozen ab (p := ⟨w.heap.size + 1 + 1, 1, none⟩) (by (simp; done)); have oo := Below.size ab; (try simp at oo); have ym : ¬ aT.heap.size = w.heap.size := (by omega); have A6 : ¬ aT.heap.size = w.heap.size + 1 := (by omega); have acO : ¬ aT.heap.size = w.heap.size + 1 + 1 := (by omega))
  · refine bodyPost_ret (v := .tuple #[.agg #[.int .i64 0, .int .u64 0], .bool false]) (by simp only [results, Tryz.results221]; go_simp) rfl (wQ (agN H1 bZ hs ‹_› ‹_›) ?_)
    (repeat first | with_reducible exact Below.refl _ _ | with_reducible refine c7 ?_ _ | focus ((with_reducible refine eV ?_ _ _ _ ?_); rotate_left; omega) | with_reducible refine cc ?_ ab)
  · refine bodyPost_ret (v := .tuple #[.agg #[.int .i64 gJ, .int .u64 iu], .bool true]) (by simp only [results, Tryz.results221]; go_simp) rfl (tu (FN H1 bZ hs (.inr ‹_›)).1 (FN H1 bZ hs (.inr ‹_›)).2 ?_)
    (repeat first | with_reducible exact Below.refl _ _ | with_reducible refine c7 ?_ _ | focus ((with_reducible refine eV ?_ _ _ _ ?_); rotate_left; omega) | with_reducible refine cc ?_ ab)
  · refine bodyPost_ret (v := .tuple #[.agg #[.int .i64 gJ, .int .u64 iu], .bool true]) (by simp only [results, Tryz.results221]; go_simp) rfl (tu (FN H1 bZ hs (.inl ‹_›)).1 (FN H1 bZ hs (.inl ‹_›)).2 ?_)
    (repeat first | with_reducible exact Below.refl _ _ | with_reducible refine c7 ?_ _ | focus ((with_reducible refine eV ?_ _ _ _ ?_); rotate_left; omega) | with_reducible refine cc ?_ ab)
end Go.Proofs.YtpochbhajmbfdaaGreat
namespace Go.Proofs.YtpochbhajmbfdaaGreat
open Go.RowKit
theorem afm {k : IntKind} {a b : Int} (h : a = b) : Ending.returned (.int k a) = .returned (.int k b) := by rw [h]
theorem RF {a b : Bool} (h : a = b) : Ending.returned (.bool a) = .returned (.bool b) := by rw [h]
theorem aaR : bz (-9223372036854775808) 0 (-170141183460469231731687303715884105728) := by unfold bz; omega
theorem acQ {n : Int} (H : fits n = true) : fits (0 - n) = !decide (n = -170141183460469231731687303715884105728) := by
  unfold fits at *;rw [cL] at H;rw [mC];simp only [cL, tf, l0];omega
theorem KW (h1 l1 n : Int) (w : World) (H1 : bz h1 l1 n) :
    Calls aj 248 #[.agg #[.int .i64 h1, .int .u64 l1]] w (mJ (-n) w) := by
  have Ch := Lib.hid (acQ H1.fits);have he := H1.gh aaR;rw [← Int.zero_sub]
  by_cases e : n = -170141183460469231731687303715884105728
  · have hd : gh h1 l1 (-9223372036854775808) 0 = true := by rw [he]; exact bF e
    have Cg : Hid (fits (0 - n) = false) := by have := Ch.out; rw [bF e] at this; exact this
    clear he Ch e
    go_enter Tryz.func248, Tryz.ntmps248
    go_wp2
    refine bodyPost_ret (v := .tuple #[.agg #[.int .i64 0, .int .u64 0], .bool false]) (by simp only [results, Tryz.results248]; go_simp) rfl (wQ Cg.out ?_);(repeat first | with_reducible exact Below.refl _ _ | with_reducible refine c7 ?_ _)
  · have hd : gh h1 l1 (-9223372036854775808) 0 = false := by rw [he]; exact b5 e
    have Cg : Hid (fits (0 - n) = true) := by have := Ch.out; rw [b5 e] at this; exact this
    clear he Ch e
    go_enter Tryz.func248, Tryz.ntmps248
    go_wp2_with (go_at_call 245; refine (A0 _ _ _ _ _ _ _ pb H1).mono ?_; rintro e aT ⟨gJ, iu, rfl, hs, ab⟩; have zl := Below.cell ab (p := ⟨w.heap.size, 0, none⟩) (by (simp; omega)); have zF := Below.frozen ab (p := ⟨w.heap.size, 0, none⟩) (by (simp; omega)); have zm := Below.cell ab (p := ⟨w.heap.size, 1, none⟩) (by (simp; omega)); have zG := Below.frozen ab (p := ⟨w.heap.size, 1, none⟩) (by (simp; omega)); have CU := Below.cell ab (p := ⟨w.heap.size + 1, 0, none⟩) (by (simp; done)); have Dm := Below.frozen ab (p := ⟨w.heap.size + 1, 0, none⟩) (by (simp; done)); have CV := Below.cell ab (p := ⟨w.heap.size + 1, 1, none⟩) (by (simp; done)); have Dn := Below.frozen ab (p := ⟨w.heap.size + 1, 1, none⟩) (by (simp; done)); have oo := Below.size ab; (try simp at oo); have ym : ¬ aT.heap.size = w.heap.size := (by omega); have A6 : ¬ aT.heap.size = w.heap.size + 1 := (by omega))
    rw [KD Cg.out] at hs;refine bodyPost_ret (v := .tuple #[.agg #[.int .i64 gJ, .int .u64 iu], .bool true]) (by simp only [results, Tryz.results248]; go_simp) rfl (tu Cg.out hs ?_);(repeat first | with_reducible exact Below.refl _ _ | with_reducible refine c7 ?_ _ | focus ((with_reducible refine eV ?_ _ _ _ ?_); rotate_left; omega) | with_reducible refine cc ?_ ab)
theorem KM (h1 l1 h2 l2 n m : Int) (w : World) (H1 : bz h1 l1 n) (bZ : bz h2 l2 m) :
    Calls aj 281 #[.agg #[.int .i64 h1, .int .u64 l1], .agg #[.int .i64 h2, .int .u64 l2]] w (hD (.int .i64 (gj n m)) w) := by
  go_enter Tryz.func281, Tryz.ntmps281
  go_wp2
  all_goals
    go_ret
    refine ⟨afm ?_, by (repeat first | with_reducible exact Below.refl _ _ | with_reducible refine c7 ?_ _)⟩;simp only [H1.gh bZ, cL, l0] at *;obtain ⟨b1, b2, aG⟩ := H1;obtain ⟨ey, dQ, aM⟩ := bZ;unfold gj
    repeat' split
    all_goals omega
theorem Cy (h1 l1 n : Int) (w : World) (H1 : bz h1 l1 n) :
    Calls aj 247 #[.agg #[.int .i64 h1, .int .u64 l1]] w (hD (.int .i64 (gj n 0)) w) := by
  go_enter Tryz.func247, Tryz.ntmps247
  go_wp2_with (go_at_call 281; refine (KM _ _ _ _ _ _ _ H1 pb).mono ?_; rintro e aT ⟨rfl, ab⟩)
  go_ret
  exact ⟨rfl, by (repeat first | with_reducible exact Below.refl _ _ | with_reducible refine c7 ?_ _ | with_reducible refine cc ?_ ab)⟩
theorem adm (n : Int) (aJ : -9223372036854775808 ≤ n) (h1 : n < 9223372036854775808) : bz (n / 9223372036854775808) (IntKind.u64.wrap n) n := by
  unfold bz;rw [IntKind.wrap_u64];omega
theorem sa (n : Int) (w : World) (aJ : -9223372036854775808 ≤ n) (h1 : n < 9223372036854775808) :
    Calls aj 224 #[.int .i64 n] w (pS n w) := by
  have hv := adm n aJ h1
  go_enter Tryz.func224, Tryz.ntmps224
  go_wp2
  refine bodyPost_ret (v := .agg #[.int .i64 (n / 9223372036854775808), .int .u64 (IntKind.u64.wrap n)]) (by simp only [results, Tryz.results224]; go_simp) rfl ⟨_, _, rfl, hv, ?_⟩;(repeat first | with_reducible exact Below.refl _ _ | with_reducible refine c7 ?_ _)
def small (n : Int) : Bool := decide (-9223372036854775808 ≤ n ∧ n < 9223372036854775808)
theorem Sb (l : Int) : -9223372036854775808 ≤ wrap64 l ∧ wrap64 l < 9223372036854775808 := by unfold wrap64; omega
theorem agw {h l n a b : Int} (H : bz h l n) (K : bz a b (wrap64 l)) (e : gh a b h l = true) : small n = true ∧ wrap64 l = n := by
  rw [K.gh H, cL] at e;have W1 := e; clear e;obtain ⟨b1, b2, rfl⟩ := H;obtain ⟨ey, dQ, e⟩ := K;unfold wrap64 at *;unfold small;rw [cL];omega
theorem agv {h l n a b : Int} (H : bz h l n) (K : bz a b (wrap64 l)) (e : gh a b h l = false) : small n = false := by
  rw [K.gh H, l0] at e;have W1 := e; clear e;obtain ⟨b1, b2, rfl⟩ := H;obtain ⟨ey, dQ, e⟩ := K;unfold wrap64 at *;unfold small;rw [l0];omega
def xh (n : Int) (w : World) (e : Ending) (w' : World) : Prop := e = .returned (.tuple #[.int .i64 (if small n then n else 0), .bool (small n)]) ∧ Below w.heap.size w w'
theorem afQ {n m : Int} {w w' : World} (h : small n = true) (e : m = n) (b : Below w.heap.size w w') : xh n w (.returned (.tuple #[.int .i64 m, .bool true])) w' := ⟨by rw [h, e]; rfl, b⟩
theorem afP {n : Int} {w w' : World} (h : small n = false) (b : Below w.heap.size w w') : xh n w (.returned (.tuple #[.int .i64 0, .bool false])) w' := ⟨by rw [h]; rfl, b⟩
theorem Gs (h1 l1 n : Int) (w : World) (H1 : bz h1 l1 n) :
    Calls aj 241 #[.agg #[.int .i64 h1, .int .u64 l1]] w (xh n w) := by
  go_enter Tryz.func241, Tryz.ntmps241
  go_wp2_with fail
  go_region_held3 (fun w' => w'.cell? ⟨w.heap.size, 0, none⟩ = some (.int .i64 h1) ∧ w'.cell? ⟨w.heap.size, 1, none⟩ = some (.int .u64 l1)) (go_keep)
    ((go_at_call 224; refine (sa _ _ (Sb l1).1 (Sb l1).2).mono ?_; rintro e aT ⟨gJ, iu, rfl, hs, ab⟩; have zl := Below.cell ab (p := ⟨w.heap.size, 0, none⟩) (by (simp; done)); have zF := Below.frozen ab (p := ⟨w.heap.size, 0, none⟩) (by (simp; done)); have zm := Below.cell ab (p := ⟨w.heap.size, 1, none⟩) (by (simp; done)); have zG := Below.frozen ab (p := ⟨w.heap.size, 1, none⟩) (by (simp; done)); have oo := Below.size ab; (try simp at oo); have ym : ¬ aT.heap.size = w.heap.size := (by omega)))
  go_wp2
  · go_ret2
    exact afP (agv H1 hs (by simpa using ‹(!gh gJ iu h1 l1) = true›)) (by (repeat first | with_reducible exact Below.refl _ _ | with_reducible refine c7 ?_ _ | with_reducible refine Below.drew ?_ | with_reducible refine cc ?_ ab))
  · go_ret2
    have ag := agw H1 hs (by simpa using ‹(!gh gJ iu h1 l1) = false›);exact afQ ag.1 ag.2 (by (repeat first | with_reducible exact Below.refl _ _ | with_reducible refine c7 ?_ _ | with_reducible refine Below.drew ?_ | with_reducible refine cc ?_ ab))
end Go.Proofs.YtpochbhajmbfdaaGreat
namespace Go.Proofs.YtpochbhajmbfdaaGreat.bt
structure bN (α : Type) where
 DT : α → α → α → Bool
 dj : α → α → List α → List α
 cut : α × α → α × α → Option α
 n : Nat
 P : Nat → α
 Q : Nat → α
 lA : Nat → Nat → Option α
 R : Nat
 hk : α → Prop
structure aN (α : Type) where
 ph : Nat
 I : Nat
 J : Nat
 T : Nat
 dirty : Bool
 hot : List α
 fnd : List α
 ch : List (List α × List Int)
variable {α : Type} [DecidableEq α]
def gB : List α → List (α × α)
 | p :: q :: W => (p, q) :: gB (q :: W)
 | _ => []
def aQ (ch : List (List α × List Int)) : List (α × α) := ch.flatMap fun c => gB c.1
def cz (V : List α) (j : Nat) (l : List α) : List α := V.take (j + 1) ++ l ++ V.drop (j + 1)
def dq (D : List Int) (j : Nat) (n : Nat) : List Int := D.take j ++ List.replicate (n + 1) (D.getD j 0 + 1) ++ D.drop (j + 1)
def fr (p q : α) : List α × List Int := if p = q then ([p], []) else ([p, q], [1])
def eI (s : aN α) (ph I J : Nat) : aN α := { s with ph := ph, I := I, J := J, T := 0, fnd := [] }
def dt (o : bN α) (s : aN α) (q : α) : aN α :=
 if q ∈ s.hot then s else if s.hot.length < o.R then { s with hot := s.hot ++ [q] } else eI s 5 0 0
def tv : List (List α × List Int) → Nat → Nat → Option (Nat × Nat)
 | [], _, _ => none
 | c :: cs, i, j => if j + 1 < c.1.length then some (i, j) else tv cs (i + 1) 0
def lF (s : aN α) : aN α :=
 match tv (s.ch.drop s.I) s.I s.J with
 | some sW => { s with I := sW.1, J := sW.2 }
 | none => if (aQ s.ch).length < 2 then eI s 4 0 0 else eI s 3 0 1
def l6 (s : aN α) : aN α := if s.dirty = true then lF (eI { s with dirty := false } 2 0 0) else eI s 4 0 0
def kZ (o : bN α) (s : aN α) : aN α := lF (eI { s with ch := (List.range o.n).map fun k => fr (o.P k) (o.Q k) } 2 0 0)
def qb (o : bN α) (s : aN α) : aN α :=
 if (dt o s (o.P s.I)).ph = 5 then dt o s (o.P s.I) else
 if (dt o (dt o s (o.P s.I)) (o.Q s.I)).ph = 5 then dt o (dt o s (o.P s.I)) (o.Q s.I) else
 if s.I + 1 < o.n then { dt o (dt o s (o.P s.I)) (o.Q s.I) with I := s.I + 1 } else
 if o.n < 2 then kZ o (dt o (dt o s (o.P s.I)) (o.Q s.I)) else eI (dt o (dt o s (o.P s.I)) (o.Q s.I)) 1 0 1
def bB (many I J : Nat) : Nat × Nat := if many ≤ J + 1 then (I + 1, I + 2) else (I, J + 1)
def kv (o : bN α) (s : aN α) : Option α → aN α
 | some x => dt o s x
 | none => s
def qy (o : bN α) (s : aN α) : aN α :=
 if (kv o s (o.lA s.I s.J)).ph = 5 then kv o s (o.lA s.I s.J) else
 if (bB o.n s.I s.J).2 < o.n then { kv o s (o.lA s.I s.J) with I := (bB o.n s.I s.J).1, J := (bB o.n s.I s.J).2 } else kZ o (kv o s (o.lA s.I s.J))
def fF (o : bN α) (p q x : α) : Bool := decide (x ≠ p) && decide (x ≠ q) && o.DT p q x
def jZ (o : bN α) (p q x : α) (fnd : List α) : List α := if fF o p q x = true then fnd ++ [x] else fnd
def pe (o : bN α) (s : aN α) (c : List α × List Int) (p q : α) (fnd : List α) : aN α :=
 if s.T + 1 < s.hot.length then { s with fnd := fnd, T := s.T + 1 } else
 if fnd = [] then lF { s with T := 0, fnd := [], J := s.J + 1 } else
 { s with T := 0, fnd := [], ch := s.ch.set s.I (cz c.1 s.J (o.dj p q fnd), dq c.2 s.J fnd.length) }
def tr (o : bN α) (s : aN α) : aN α :=
 match s.ch[s.I]? with
 | some c =>
  match c.1[s.J]?, c.1[s.J + 1]?, s.hot[s.T]? with
  | some p, some q, some x => pe o s c p q (jZ o p q x s.fnd)
  | _, _, _ => s
 | none => s
def dE (o : bN α) (s : aN α) : Option α → aN α
 | some x => if (dt o s x).ph = 5 then dt o s x else { dt o s x with dirty := true }
 | none => s
def pf (o : bN α) (s : aN α) : aN α :=
 match (aQ s.ch)[s.I]?, (aQ s.ch)[s.J]? with
 | some a, some b =>
  if (dE o s (o.cut a b)).ph = 5 then dE o s (o.cut a b) else
  if (bB (aQ s.ch).length s.I s.J).2 < (aQ s.ch).length then { dE o s (o.cut a b) with I := (bB (aQ s.ch).length s.I s.J).1, J := (bB (aQ s.ch).length s.I s.J).2 } else l6 (dE o s (o.cut a b))
 | _, _ => s
def dV (o : bN α) (s : aN α) : aN α :=
 match s.ph with
 | 0 => qb o s
 | 1 => qy o s
 | 2 => tr o s
 | 3 => pf o s
 | _ => s
def nv (o : bN α) (hot : List α) (p q : α) : Prop := ∀ x ∈ hot, fF o p q x = false
structure gT (o : bN α) (ok : Nat → List α × List Int → Prop) : Prop where
 nodup : ∀ i c, ok i c → c.1.Nodup
 new : ∀ i, i < o.n → ok i (fr (o.P i) (o.Q i))
 split : ∀ (i : Nat) (c : List α × List Int) (j : Nat) (p q : α) (fs : List α), ok i c → c.1.length = c.2.length + 1 → c.1[j]? = some p → c.1[j + 1]? = some q → fs.Nodup → fs ≠ [] → (∀ x ∈ fs, fF o p q x = true) → ok i (cz c.1 j (o.dj p q fs), dq c.2 j fs.length)
 dj : ∀ (p q : α) (fs : List α), (o.dj p q fs).Perm fs
 zL : ∀ i, i < o.n → o.hk (o.P i) ∧ o.hk (o.Q i)
 Hz : ∀ i j x, i < j → j < o.n → o.lA i j = some x → o.hk x
 Nn : ∀ (p q dA bT x : α), o.hk p → o.hk q → o.hk dA → o.hk bT → o.cut (p, q) (dA, bT) = some x → o.hk x
 cut : ∀ (hot : List α) (p q dA bT x : α), (∀ y ∈ hot, o.hk y) → p ≠ q → dA ≠ bT → p ∈ hot → q ∈ hot → dA ∈ hot → bT ∈ hot → nv o hot p q → nv o hot dA bT → o.cut (p, q) (dA, bT) = some x → x ∉ hot
structure gK (o : bN α) (s : aN α) : Prop where
 nd : s.hot.Nodup
 room : s.hot.length ≤ o.R
 fW : ∀ x ∈ s.hot, o.hk x
structure B6 (o : bN α) (ok : Nat → List α × List Int → Prop) (hot : List α) (i : Nat) (c : List α × List Int) : Prop where
 hk : ok i c
 len : c.1.length = c.2.length + 1
 head : c.1.head? = some (o.P i)
 last : c.1.getLast? = some (o.Q i)
 hot : ∀ v ∈ c.1, v ∈ hot
 deep : ∀ d ∈ c.2, 1 ≤ d ∧ d ≤ c.2.length
structure kp (o : bN α) (ok : Nat → List α × List Int → Prop) (s : aN α) : Prop where
 len : s.ch.length = o.n
 gq : ∀ i c, s.ch[i]? = some c → B6 o ok s.hot i c
def yS (o : bN α) (hot : List α) (ch : List (List α × List Int)) (I J : Nat) : Prop :=
 ∀ i c j p q, ch[i]? = some c → c.1[j]? = some p → c.1[j + 1]? = some q → (i < I ∨ (i = I ∧ j < J)) → nv o hot p q
def KX (o : bN α) (ch : List (List α × List Int)) (I J : Nat) : Prop :=
 ∀ a b l m, (aQ ch)[a]? = some l → (aQ ch)[b]? = some m → a < b → (a < I ∨ (a = I ∧ b < J)) → o.cut l m = none
def w7 (o : bN α) (s : aN α) : Prop := ∀ l ∈ aQ s.ch, nv o s.hot l.1 l.2
def xi (o : bN α) (s : aN α) (I : Nat) : Prop := ∀ i, i < I → o.P i ∈ s.hot ∧ o.Q i ∈ s.hot
structure Gf (o : bN α) (s : aN α) : Prop where
 ph : s.ph = 0
 dirty : s.dirty = false
 fnd : s.fnd = []
 ch : s.ch = []
 I : s.I < o.n
 J : s.J = 0
 T : s.T = 0
 tD : xi o s s.I
structure Inv1 (o : bN α) (s : aN α) : Prop where
 ph : s.ph = 1
 dirty : s.dirty = false
 fnd : s.fnd = []
 ch : s.ch = []
 vi : s.I < s.J
 J : s.J < o.n
 T : s.T = 0
 tD : xi o s o.n
structure Inv2 (o : bN α) (ok : Nat → List α × List Int → Prop) (s : aN α) : Prop where
 ph : s.ph = 2
 dirty : s.dirty = false
 laid : kp o ok s
 link : ∃ c p q, s.ch[s.I]? = some c ∧ c.1[s.J]? = some p ∧ c.1[s.J + 1]? = some q ∧ s.fnd = (s.hot.take s.T).filter (fF o p q)
 T : s.T < s.hot.length
 zc : yS o s.hot s.ch s.I s.J
structure Cj (o : bN α) (ok : Nat → List α × List Int → Prop) (s : aN α) : Prop where
 ph : s.ph = 3
 laid : kp o ok s
 vi : s.I < s.J
 J : s.J < (aQ s.ch).length
 T : s.T = 0
 fnd : s.fnd = []
 clean : s.dirty = false → w7 o s ∧ KX o s.ch s.I s.J
structure Ck (o : bN α) (ok : Nat → List α × List Int → Prop) (s : aN α) : Prop where
 ph : s.ph = 4
 dirty : s.dirty = false
 laid : kp o ok s
 I : s.I = 0
 J : s.J = 0
 T : s.T = 0
 fnd : s.fnd = []
 akD : w7 o s
 aki : KX o s.ch (aQ s.ch).length 0
structure Cl (o : bN α) (ok : Nat → List α × List Int → Prop) (s : aN α) : Prop where
 ph : s.ph = 5
 I : s.I = 0
 J : s.J = 0
 T : s.T = 0
 fnd : s.fnd = []
 full : s.hot.length = o.R
 ch : (s.ch = [] ∧ s.dirty = false) ∨ kp o ok s
def hB (o : bN α) (ok : Nat → List α × List Int → Prop) (s : aN α) : Prop := gK o s ∧ (Gf o s ∨ Inv1 o s ∨ Inv2 o ok s ∨ Cj o ok s ∨ Ck o ok s ∨ Cl o ok s)
def ec (o : bN α) : Nat := 2 * (o.n * o.R) * o.R + o.n * o.R * (o.n * o.R) + 1
def ox (s : aN α) : Nat := (aQ (s.ch.take s.I)).length + s.J
def eU (o : bN α) (s : aN α) : Nat :=
 match s.ph with
 | 0 => (o.n - s.I) + o.n * o.n + (o.R + 1) * ec o
 | 1 => ((o.n - s.I) * o.n - s.J) + (o.R + 1) * ec o
 | 2 => (o.R - s.hot.length) * ec o + (2 * (o.n * o.R) - ox s - (aQ s.ch).length) * o.R + (s.hot.length - s.T) + o.n * o.R * (o.n * o.R)
 | 3 => (o.R - s.hot.length) * ec o + (if s.dirty = true then ec o else 0) + (((aQ s.ch).length - s.I) * (aQ s.ch).length - s.J)
 | _ => 0
theorem s9 : ∀ {l m : List α}, l.Nodup → (∀ x ∈ l, x ∈ m) → l.length ≤ m.length
 | [], _, _, _ => eF _
 | a :: l, m, h, hs => by
  have ak := List.nodup_cons.1 h;have aI := hs a (k2 ..);have := s9 (l := l) (m := m.erase a) ak.2 fun x aa => (List.mem_erase_of_ne (fun e => ak.1 (by rw [← e]; exact aa))).2 (hs x (oA _ aa));rw [List.length_erase_of_mem aI] at this;have := List.length_pos_of_mem aI;simp only [lB]; omega
theorem uJ : ∀ V : List α, (gB V).length = V.length - 1
 | [] => rfl
 | [_] => rfl
 | p :: q :: W => by
  have := uJ (q :: W);simp only [gB, lB] at this ⊢; omega
theorem Pn : ∀ {V : List α} {l : α × α}, l ∈ gB V → ∃ j, V[j]? = some l.1 ∧ V[j + 1]? = some l.2
 | p :: q :: W, l, h => by
  rcases gS.1 (show l ∈ (p, q) :: gB (q :: W) from h) with rfl | h
  ·exact ⟨0, rfl, rfl⟩
  ·obtain ⟨j, h1, h2⟩ := Pn h;exact ⟨j + 1, h1, h2⟩
theorem EB (A B : List (List α × List Int)) : aQ (A ++ B) = aQ A ++ aQ B := List.flatMap_append ..
theorem yf (c : List α × List Int) (B : List (List α × List Int)) : aQ (c :: B) = gB c.1 ++ aQ B := rfl
theorem Jc {ch : List (List α × List Int)} {l : α × α} (h : l ∈ aQ ch) : ∃ (i : Nat) (c : List α × List Int) (j : Nat), ch[i]? = some c ∧ c.1[j]? = some l.1 ∧ c.1[j + 1]? = some l.2 := by
 obtain ⟨c, ak, ap⟩ := List.mem_flatMap.1 h;obtain ⟨i, hi⟩ := kA ak;obtain ⟨j, h1, h2⟩ := Pn ap;exact ⟨i, c, j, hi, h1, h2⟩
theorem EC {m : Nat} : ∀ {ch : List (List α × List Int)}, (∀ c ∈ ch, c.1.length ≤ m) → (aQ ch).length ≤ ch.length * m
 | [], _ => eF _
 | c :: B, h => by
  have bW := EC (ch := B) fun c ak => h c (oA _ ak);have h1 := h c (k2 ..);rw [yf, cX, uJ, lB, kB, Nat.one_mul]; omega
theorem X8 {β : Type} {l : List β} {i : Nat} {c : β} (h : l[i]? = some c) : l = l.take i ++ c :: l.drop (i + 1) ∧ (l.take i).length = i := by
 obtain ⟨ap, e⟩ := bP.1 h;refine ⟨?_, by rw [eu]; omega⟩
 conv => lhs; rw [← k3 i l, nL ap, e]
end Go.Proofs.YtpochbhajmbfdaaGreat.bt
namespace Go.Proofs.YtpochbhajmbfdaaGreat.bt
variable {α : Type} [DecidableEq α]
theorem R3 : ∀ (cs : List (List α × List Int)) (i j fS e0 : Nat), tv cs i j = some (fS, e0) → (∀ c, cs[0]? = some c → j ≤ (gB c.1).length) →
  ∃ (k : Nat) (c : List α × List Int), fS = i + k ∧ cs[k]? = some c ∧ e0 + 1 < c.1.length ∧ j ≤ (aQ (cs.take k)).length + e0 ∧ (∀ (m : Nat) (d : List α × List Int) (l : Nat), cs[m]? = some d → l + 1 < d.1.length → (m < k ∨ (m = k ∧ l < e0)) → m = 0 ∧ l < j)
 | [], i, j, fS, e0, h, _ => by cases h
 | c :: cs, i, j, fS, e0, h, af => by
  have aJ : j ≤ (gB c.1).length := af c rfl;rw [uJ] at aJ;unfold tv at h
  split at h
  ·rename_i ak;cases h;refine ⟨0, c, rfl, rfl, ak, by simp, fun m d l _ _ aW => ?_⟩;omega
  ·rename_i ak;obtain ⟨k, c', aG, aM, cD, eR, jC⟩ := R3 cs (i + 1) 0 fS e0 h (fun _ _ => eF _);refine ⟨k + 1, c', by omega, aM, cD, ?_, fun m d l hd ap aW => ?_⟩
   ·rw [List.take_succ_cons, yf, cX, uJ]; omega
   ·match m, hd, aW with
    | 0, hd, aW =>
     simp only [oB, gE] at hd;subst hd;exact ⟨rfl, by omega⟩
    | m + 1, hd, aW =>
     have := jC m d l hd ap (by omega);omega
theorem Kf : ∀ (cs : List (List α × List Int)) (i j : Nat), tv cs i j = none → ∀ (m : Nat) (d : List α × List Int) (l : Nat), cs[m]? = some d → l + 1 < d.1.length → m = 0 ∧ l < j
 | [], _, _, _, m, d, l, hd, _ => by simp at hd
 | c :: cs, i, j, h, m, d, l, hd, ap => by
  unfold tv at h
  split at h
  ·cases h
  ·rename_i ak
   match m, hd with
   | 0, hd =>
    simp only [oB, gE] at hd;subst hd;exact ⟨rfl, by omega⟩
   | m + 1, hd =>
    have := Kf cs (i + 1) 0 h m d l hd ap;omega
theorem kp.many {o : bN α} {ok : Nat → List α × List Int → Prop} (ae : gT o ok) {s : aN α} (ab : gK o s) (h : kp o ok s) : (aQ s.ch).length ≤ o.n * o.R := by
 rw [← h.len];refine EC fun c ak => ?_;obtain ⟨i, hi⟩ := kA ak;have aW := h.gq i c hi;exact lC (s9 (ae.nodup _ _ aW.hk) aW.hot) ab.room
theorem LK {o : bN α} {s : aN α} {I J : Nat} (aI : yS o s.hot s.ch I J) (aD : ∀ (i : Nat) (d : List α × List Int) (l : Nat), s.ch[i]? = some d → l + 1 < d.1.length → i < I ∨ (i = I ∧ l < J)) : w7 o s := fun l ap => by
 obtain ⟨i, c, j, hi, h1, h2⟩ := Jc ap;have := (bP.1 h2).1;exact aI i c j l.1 l.2 hi h1 h2 (aD i c j hi this)
theorem Kg {o : bN α} {ok : Nat → List α × List Int → Prop} (ae : gT o ok) {s : aN α} (ab : gK o s) (ap : kp o ok s) (hb : s.ph = 2) (hd : s.dirty = false) (ee : s.T = 0) (aw : s.fnd = []) (aW : 0 < s.hot.length) (aI : yS o s.hot s.ch s.I s.J) (af : ∀ c, s.ch[s.I]? = some c → s.J ≤ (gB c.1).length) :
  hB o ok (lF s) ∧ eU o (lF s) ≤ (o.R - s.hot.length) * ec o + (2 * (o.n * o.R) - ox s - (aQ s.ch).length) * o.R + s.hot.length + o.n * o.R * (o.n * o.R) := by
 have hm := ap.many ae ab;unfold lF;cases h : tv (s.ch.drop s.I) s.I s.J with
 | some sW =>
  obtain ⟨fS, e0⟩ := sW;obtain ⟨k, c, aG, aM, cD, eR, jC⟩ := R3 _ _ _ _ _ h (fun c ak => af c (by rw [gF] at ak; exact ak));rw [gF] at aM;rw [← aG] at aM;show hB o ok ({ s with I := fS, J := e0 } : aN α) ∧ eU o ({ s with I := fS, J := e0 } : aN α) ≤ _;have x0 : e0 < c.1.length := by omega
  refine ⟨⟨⟨ab.nd, ab.room, ab.fW⟩, .inr (.inr (.inl ⟨hb, hd, ⟨ap.len, ap.gq⟩, ⟨c, c.1[e0], c.1[e0 + 1], aM, cj x0, cj cD, ?_⟩, ?_, ?_⟩))⟩, ?_⟩
  ·show s.fnd = (s.hot.take s.T).filter _;rw [ee, aw]; rfl
  ·show s.T < s.hot.length;omega
  ·show yS o s.hot s.ch fS e0;intro i d j p q hi hp an fI;have DV := (bP.1 an).1;refine aI i d j p q hi hp an ?_
   by_cases c3 : i < s.I
   ·exact .inl c3
   ·have := jC (i - s.I) d j (by rw [gF, show s.I + (i - s.I) = i by omega]; exact hi) DV (by omega);omega
  ·have hp : ox s ≤ ox ({ s with I := fS, J := e0 } : aN α) := by
    unfold ox;show (aQ (s.ch.take s.I)).length + s.J ≤ (aQ (s.ch.take fS)).length + e0;rw [aG, List.take_add, EB, cX]; omega
   show eU o ({ s with I := fS, J := e0 } : aN α) ≤ _;unfold eU;show (match s.ph with | 0 => _ | 1 => _ | 2 => _ | 3 => _ | _ => _) ≤ _;rw [hb];show (o.R - s.hot.length) * ec o + (2 * (o.n * o.R) - ox ({ s with I := fS, J := e0 } : aN α) - (aQ s.ch).length) * o.R + (s.hot.length - s.T) + o.n * o.R * (o.n * o.R) ≤ _;generalize ox ({ s with I := fS, J := e0 } : aN α) = TO at *;have := kC o.R (show 2 * (o.n * o.R) - TO - (aQ s.ch).length ≤ 2 * (o.n * o.R) - ox s - (aQ s.ch).length by omega);omega
 | none =>
  have di : w7 o s := LK aI fun i d l hi fb => by
   by_cases c3 : i < s.I
   ·exact .inl c3
   ·have := Kf _ _ _ h (i - s.I) d l (by rw [gF, show s.I + (i - s.I) = i by omega]; exact hi) fb;omega
  show hB o ok (if (aQ s.ch).length < 2 then eI s 4 0 0 else eI s 3 0 1) ∧ eU o (if (aQ s.ch).length < 2 then eI s 4 0 0 else eI s 3 0 1) ≤ _
  split
  ·rename_i h2;refine ⟨⟨⟨ab.nd, ab.room, ab.fW⟩, .inr (.inr (.inr (.inr (.inl ⟨rfl, hd, ⟨ap.len, ap.gq⟩, rfl, rfl, rfl, rfl, di, ?_⟩))))⟩, eF _⟩;intro a b l m ao aH ln _;have := (bP.1 aH).1;have : b < (aQ s.ch).length := this;omega
  ·rename_i h2;refine ⟨⟨⟨ab.nd, ab.room, ab.fW⟩, .inr (.inr (.inr (.inl ⟨rfl, ⟨ap.len, ap.gq⟩, Nat.zero_lt_one, show 1 < (aQ s.ch).length by omega, rfl, rfl, fun _ => ⟨di, ?_⟩⟩)))⟩, ?_⟩
   ·intro a b l m ao aH ln H7;have : a < 0 ∨ (a = 0 ∧ b < 1) := H7;omega
   ·show (o.R - s.hot.length) * ec o + (if s.dirty = true then ec o else 0) + (((aQ s.ch).length - 0) * (aQ s.ch).length - 1) ≤ _;rw [hd, if_neg (by decide), Nat.sub_zero];have := Nat.mul_le_mul hm hm;omega
theorem DR (o : bN α) {s : aN α} (ab : gK o s) (q : α) (an : o.hk q) : (dt o s q = eI s 5 0 0 ∧ s.hot.length = o.R) ∨
  ∃ hot', dt o s q = { s with hot := hot' } ∧ gK o ({ s with hot := hot' } : aN α) ∧ q ∈ hot' ∧ (∀ x ∈ s.hot, x ∈ hot') ∧ s.hot.length ≤ hot'.length ∧ (q ∉ s.hot → hot'.length = s.hot.length + 1) ∧ (q ∈ s.hot → hot' = s.hot) := by
 have := ab.room;unfold dt
 by_cases h : q ∈ s.hot
 ·rw [if_pos h];exact .inr ⟨s.hot, rfl, ab, h, fun x aa => aa, eb _, fun ar => absurd h ar, fun _ => rfl⟩
 ·rw [if_neg h]
  by_cases h2 : s.hot.length < o.R
  ·rw [if_pos h2];refine .inr ⟨s.hot ++ [q], rfl, ⟨?_, ?_, fun x aa => (kD.1 aa).elim (ab.fW x) fun h => by rw [js.1 h]; exact an⟩, by simp, fun x aa => List.mem_append_left _ aa, by simp, fun _ => by simp, fun ar => absurd ar h⟩
   ·show (s.hot ++ [q]).Nodup;refine List.nodup_append.2 ⟨ab.nd, by simp, fun a aI b cV => ?_⟩;rw [js] at cV;subst cV;exact fun e => h (by rw [← e]; exact aI)
   ·show (s.hot ++ [q]).length ≤ o.R;rw [cX, List.length_singleton]; omega
  ·rw [if_neg h2];exact .inl ⟨rfl, by omega⟩
theorem V9 {o : bN α} (aD : 0 < o.n) (al : 0 < o.R) : o.R ≤ ec o := by
 have h1 : o.R ≤ o.n * o.R := Nat.le_mul_of_pos_left _ aD;have h2 : o.n * o.R ≤ o.n * o.R * o.R := Nat.le_mul_of_pos_right _ al;unfold ec;rw [Nat.mul_assoc 2];omega
theorem Pe {o : bN α} {ok : Nat → List α × List Int → Prop} (ae : gT o ok) {s : aN α} (ab : gK o s) (hd : s.dirty = false) (aD : 0 < o.n) (hw : xi o s o.n) : hB o ok (kZ o s) ∧ eU o (kZ o s) < (o.R + 1) * ec o := by
 have aW : 0 < s.hot.length := List.length_pos_of_mem (hw 0 aD).1;have key := Kg (s := eI { s with ch := (List.range o.n).map fun k => fr (o.P k) (o.Q k) } 2 0 0) ae ⟨ab.nd, ab.room, ab.fW⟩ ⟨?_, ?_⟩ rfl hd rfl rfl aW ?_ ?_
 ·refine ⟨key.1, Nat.lt_of_le_of_lt key.2 ?_⟩;show (o.R - s.hot.length) * ec o + (2 * (o.n * o.R) - (0 + 0) - (aQ ((List.range o.n).map fun k => fr (o.P k) (o.Q k))).length) * o.R + s.hot.length + o.n * o.R * (o.n * o.R) < (o.R + 1) * ec o;generalize (aQ ((List.range o.n).map fun k => fr (o.P k) (o.Q k))).length = L;have al := ab.room;have ak := V9 aD (show 0 < o.R by omega);have h1 := kC (ec o) (show o.R - s.hot.length ≤ o.R - 1 by omega);have h2 := kC o.R (show 2 * (o.n * o.R) - (0 + 0) - L ≤ 2 * (o.n * o.R) by omega);have aG : (o.R + 1) * ec o = (o.R - 1) * ec o + 2 * ec o := by rw [← kB]; congr 1; omega
  have aM : ec o = 2 * (o.n * o.R) * o.R + o.n * o.R * (o.n * o.R) + 1 := rfl;omega
 ·show ((List.range o.n).map fun k => fr (o.P k) (o.Q k)).length = o.n;simp
 ·intro i c hi;have hi : ((List.range o.n).map fun k => fr (o.P k) (o.Q k))[i]? = some c := hi;have ha : i < o.n := by have := (bP.1 hi).1; simpa using this
  rw [eG, wL ha] at hi;have hi : fr (o.P i) (o.Q i) = c := mD hi;have ax := ae.new i ha;subst hi;refine ⟨ax, ?_, ?_, ?_, fun v hv => ?_, fun d hd => ?_⟩
  ·unfold fr; split <;> rfl
  ·unfold fr; split <;> rfl
  ·unfold fr
   split
   ·rename_i e; rw [e]; rfl
   ·rfl
  ·show v ∈ s.hot;unfold fr at hv
   split at hv
   ·rw [js.1 hv]; exact (hw i ha).1
   ·rcases gS.1 hv with rfl | hv
    ·exact (hw i ha).1
    ·rw [js.1 hv]; exact (hw i ha).2
  ·unfold fr at hd ⊢
   split at hd
   ·cases hd
   ·rename_i e;rw [if_neg e];rw [js.1 hd];exact ⟨nM 1, nM 1⟩
 ·intro i c j p q _ _ _ fI;have : i < 0 ∨ (i = 0 ∧ j < 0) := fI;omega
 ·intro c _;exact eF _
theorem El {o : bN α} {ok : Nat → List α × List Int → Prop} {s : aN α} (ab : gK o s) (aw : s.hot.length = o.R) (ak : (s.ch = [] ∧ s.dirty = false) ∨ kp o ok s) : hB o ok (eI s 5 0 0) ∧ eU o (eI s 5 0 0) = 0 :=
 ⟨⟨⟨ab.nd, ab.room, ab.fW⟩, .inr (.inr (.inr (.inr (.inr ⟨rfl, rfl, rfl, rfl, rfl, aw, ak.imp id fun h => ⟨h.len, h.gq⟩⟩))))⟩, rfl⟩
theorem Xb {o : bN α} {ok : Nat → List α × List Int → Prop} (ae : gT o ok) {s : aN α} (ab : gK o s) (h : Gf o s) : hB o ok (qb o s) ∧ eU o (qb o s) < eU o s := by
 have bp := h.I;have wj : eU o s = (o.n - s.I) + o.n * o.n + (o.R + 1) * ec o := by simp only [eU, h.ph]
 rw [wj];unfold qb;rcases DR o ab (o.P s.I) (ae.zL _ bp).1 with ⟨aG, f1⟩ | ⟨h1, aG, b1, m1, s1, l1, _, _⟩
 ·rw [aG, if_pos (show (eI s 5 0 0).ph = 5 from rfl)];have := El (ok := ok) ab f1 (.inl ⟨h.ch, h.dirty⟩);exact ⟨this.1, by rw [this.2]; omega⟩
 ·rw [aG, if_neg (show ({ s with hot := h1 } : aN α).ph ≠ 5 by show s.ph ≠ 5; rw [h.ph]; decide)];rcases DR o b1 (o.Q s.I) (ae.zL _ bp).2 with ⟨aM, f2⟩ | ⟨h2, aM, b2, m2, s2, l2, _, _⟩
  ·rw [aM, if_pos (show (eI ({ s with hot := h1 } : aN α) 5 0 0).ph = 5 from rfl)];have := El (ok := ok) b1 f2 (.inl ⟨h.ch, h.dirty⟩);exact ⟨this.1, by rw [this.2]; omega⟩
  ·have s2 : ∀ x ∈ h1, x ∈ h2 := s2;rw [aM, if_neg (show ({ s with hot := h2 } : aN α).ph ≠ 5 by show s.ph ≠ 5; rw [h.ph]; decide)]
   have hw : ∀ i, i < s.I + 1 → o.P i ∈ h2 ∧ o.Q i ∈ h2 := fun i hi => by
    rcases jt i s.I with g | g
    ·exact ⟨s2 _ (s1 _ (h.tD i g).1), s2 _ (s1 _ (h.tD i g).2)⟩
    ·rw [show i = s.I by omega]; exact ⟨s2 _ m1, m2⟩
   split
   ·rename_i bh;refine ⟨⟨⟨b2.nd, b2.room, b2.fW⟩, .inl ⟨h.ph, h.dirty, h.fnd, h.ch, bh, h.J, h.T, hw⟩⟩, ?_⟩;show eU o ({ s with hot := h2, I := s.I + 1 } : aN α) < _;unfold eU;show (match s.ph with | 0 => (o.n - (s.I + 1)) + o.n * o.n + (o.R + 1) * ec o | 1 => _ | 2 => _ | 3 => _ | _ => _) < _;rw [h.ph];show (o.n - (s.I + 1)) + o.n * o.n + (o.R + 1) * ec o < _;omega
   ·rename_i ix;have aD : o.n = s.I + 1 := by omega
    split
    ·have := Pe ae (s := ({ s with hot := h2 } : aN α)) ⟨b2.nd, b2.room, b2.fW⟩ h.dirty (by omega) (by rw [aD]; exact hw);exact ⟨this.1, u2 this.2 (by omega)⟩
    ·rename_i Yn;refine ⟨⟨⟨b2.nd, b2.room, b2.fW⟩, .inr (.inl ⟨rfl, h.dirty, rfl, h.ch, Nat.zero_lt_one, show 1 < o.n by omega, rfl, by rw [aD]; exact hw⟩)⟩, ?_⟩;show ((o.n - 0) * o.n - 1) + (o.R + 1) * ec o < _;rw [Nat.sub_zero]; omega
theorem Qq {I J L : Nat} (gX : I < J) (fA : J < L) : (L - I) * L - J ≥ 1 ∧ ((bB L I J).2 < L → (bB L I J).1 < (bB L I J).2 ∧ (L - (bB L I J).1) * L - (bB L I J).2 < (L - I) * L - J) := by
 have e : (L - I) * L = (L - I - 1) * L + L := by rw [← Nat.succ_mul]; congr 1; omega
 refine ⟨by omega, fun h => ?_⟩;unfold bB at h ⊢
 by_cases ap : L ≤ J + 1
 ·rw [if_pos ap] at h ⊢;refine ⟨by show I + 1 < I + 2; omega, ?_⟩;show (L - (I + 1)) * L - (I + 2) < _;rw [show L - (I + 1) = L - I - 1 by omega]; omega
 ·rw [if_neg ap] at h ⊢;refine ⟨by show I < J + 1; omega, ?_⟩;show (L - I) * L - (J + 1) < _;omega
theorem adb {I J L a b : Nat} (gX : I < J) (fA : J < L) (ln : a < b) (ab : b < L) (h : a < (bB L I J).1 ∨ (a = (bB L I J).1 ∧ b < (bB L I J).2)) : (a < I ∨ (a = I ∧ b < J)) ∨ (a = I ∧ b = J) := by
 unfold bB at h
 split at h
 ·have h : a < I + 1 ∨ (a = I + 1 ∧ b < I + 2) := h;omega
 ·have h : a < I ∨ (a = I ∧ b < J + 1) := h;omega
theorem ade {I J L : Nat} (gX : I < J) (fA : J < L) (h : ¬ (bB L I J).2 < L) {a b : Nat} (ln : a < b) (ab : b < L) : (a < I ∨ (a = I ∧ b < J)) ∨ (a = I ∧ b = J) := by
 unfold bB at h
 split at h
 ·have h : ¬ I + 2 < L := h;omega
 ·have h : ¬ J + 1 < L := h;omega
theorem aeF {o : bN α} {ok : Nat → List α × List Int → Prop} (ae : gT o ok) {s : aN α} (ab : gK o s) (h : Inv1 o s) : hB o ok (qy o s) ∧ eU o (qy o s) < eU o s := by
 have gX := h.vi;have fA := h.J;have wj : eU o s = ((o.n - s.I) * o.n - s.J) + (o.R + 1) * ec o := by simp only [eU, h.ph]
 rw [wj];obtain ⟨fT, fC⟩ := Qq gX fA
 have main : ∀ h2, gK o ({ s with hot := h2 } : aN α) → (∀ x ∈ s.hot, x ∈ h2) → hB o ok (if ({ s with hot := h2 } : aN α).ph = 5 then ({ s with hot := h2 } : aN α) else if (bB o.n s.I s.J).2 < o.n then { ({ s with hot := h2 } : aN α) with I := (bB o.n s.I s.J).1, J := (bB o.n s.I s.J).2 } else kZ o ({ s with hot := h2 } : aN α)) ∧ eU o (if ({ s with hot := h2 } : aN α).ph = 5 then ({ s with hot := h2 } : aN α) else if (bB o.n s.I s.J).2 < o.n then { ({ s with hot := h2 } : aN α) with I := (bB o.n s.I s.J).1, J := (bB o.n s.I s.J).2 } else kZ o ({ s with hot := h2 } : aN α)) < ((o.n - s.I) * o.n - s.J) + (o.R + 1) * ec o := fun h2 b2 s2 => by
  rw [if_neg (show ({ s with hot := h2 } : aN α).ph ≠ 5 by show s.ph ≠ 5; rw [h.ph]; decide)];have hw : xi o ({ s with hot := h2 } : aN α) o.n := fun i hi => ⟨s2 _ (h.tD i hi).1, s2 _ (h.tD i hi).2⟩
  split
  ·rename_i bh;obtain ⟨s5, s6⟩ := fC bh;refine ⟨⟨⟨b2.nd, b2.room, b2.fW⟩, .inr (.inl ⟨h.ph, h.dirty, h.fnd, h.ch, s5, bh, h.T, hw⟩)⟩, ?_⟩;unfold eU;show (match s.ph with | 0 => _ | 1 => ((o.n - (bB o.n s.I s.J).1) * o.n - (bB o.n s.I s.J).2) + (o.R + 1) * ec o | 2 => _ | 3 => _ | _ => _) < _;rw [h.ph];show ((o.n - (bB o.n s.I s.J).1) * o.n - (bB o.n s.I s.J).2) + (o.R + 1) * ec o < _;omega
  ·have := Pe ae (s := ({ s with hot := h2 } : aN α)) ⟨b2.nd, b2.room, b2.fW⟩ h.dirty (by omega) hw;exact ⟨this.1, u2 this.2 (by omega)⟩
 unfold qy;cases hp : o.lA s.I s.J with
 | none => exact main s.hot ab fun x aa => aa
 | some x =>
  show hB o ok (if (dt o s x).ph = 5 then _ else if _ then { dt o s x with I := _, J := _ } else kZ o (dt o s x)) ∧ eU o (if (dt o s x).ph = 5 then _ else if _ then { dt o s x with I := _, J := _ } else kZ o (dt o s x)) < _;rcases DR o ab x (ae.Hz _ _ x gX fA hp) with ⟨aG, f1⟩ | ⟨h2, aG, b2, m2, s2, _⟩
  ·rw [show kv o s (some x) = dt o s x from rfl, aG, if_pos (show (eI s 5 0 0).ph = 5 from rfl)];have := El (ok := ok) ab f1 (.inl ⟨h.ch, h.dirty⟩);exact ⟨this.1, by rw [this.2]; omega⟩
  ·rw [show kv o s (some x) = dt o s x from rfl, aG];exact main h2 b2 s2
end Go.Proofs.YtpochbhajmbfdaaGreat.bt
namespace Go.Proofs.YtpochbhajmbfdaaGreat.bt
variable {α : Type} [DecidableEq α]
theorem xB {V : List α} {j : Nat} {l : List α} : (cz V j l).length = V.length + l.length := by
  unfold cz;rw [cX, cX, eu, iC]; omega
theorem G2 {D : List Int} {j n : Nat} (h : j < D.length) : (dq D j n).length = D.length + n := by
  unfold dq;rw [cX, cX, eu, iC, List.length_replicate]; omega
theorem Mq {V : List α} {j : Nat} {l : List α} {x : α} (h : x ∈ cz V j l) : x ∈ V ∨ x ∈ l := by
  unfold cz at h;rcases kD.1 h with h | h
  · rcases kD.1 h with h | h
    · exact .inl (py h)
    · exact .inr h
  · exact .inl (nN h)
theorem Wj {V : List α} {j : Nat} {l : List α} (h : V ≠ []) : (cz V j l).head? = V.head? := by
  match V, h with
  | v :: W, _ => rfl
theorem Wk {V : List α} {j : Nat} {l : List α} (h : j + 1 < V.length) : (cz V j l).getLast? = V.getLast? := by
  unfold cz;rw [List.getLast?_append, List.getLast?_drop, if_neg (by omega)];cases qh : V.getLast? with
  | none => rw [List.getLast?_eq_none_iff.1 qh] at h; simp at h
  | some z => rfl
theorem Mp {V : List α} {j i : Nat} {l : List α} (h : i < j + 1) (af : j + 1 ≤ V.length) : (cz V j l)[i]? = V[i]? := by
  unfold cz;rw [iV, gG (by rw [eu]; omega), gl h]
theorem Wl {V : List α} {j : Nat} {l : List α} (h : j + 1 < V.length) : ∃ x, (cz V j l)[j + 1]? = some x := by
  have : j + 1 < (cz V j l).length := by rw [xB]; omega
  exact ⟨_, cj this⟩
theorem Wg {D : List Int} {j n : Nat} {d : Int} (af : j < D.length) (h : d ∈ dq D j n) : ∃ e ∈ D, d = e ∨ d = e + 1 := by
  unfold dq at h;rcases kD.1 h with h | h
  · rcases kD.1 h with h | h
    · exact ⟨d, py h, .inl rfl⟩
    · refine ⟨D[j], List.getElem_mem af, .inr ?_⟩
      rw [List.eq_of_mem_replicate h, rG, cj af]; rfl
  · exact ⟨d, nN h, .inl rfl⟩
theorem B6.cut {o : bN α} {ok : Nat → List α × List Int → Prop} (ae : gT o ok) {hot : List α} {i j : Nat} {c : List α × List Int} {p q : α} {fs : List α} (h : B6 o ok hot i c) (hp : c.1[j]? = some p) (an : c.1[j + 1]? = some q) (aD : fs.Nodup) (aw : ∀ x ∈ fs, x ∈ hot ∧ fF o p q x = true) (ca : fs ≠ []) : B6 o ok hot i (cz c.1 j (o.dj p q fs), dq c.2 j fs.length) := by
  have hs := ae.dj p q fs;have af : j + 1 < c.1.length := (bP.1 an).1;have ap := h.len;have DU : j < c.2.length := by omega
  have ai6 : 0 < fs.length := List.length_pos_iff.2 ca;refine ⟨ae.split _ _ _ _ _ _ h.hk h.len hp an aD ca (fun x aa => (aw x aa).2), ?_, ?_, ?_, fun v hv => ?_, fun d hd => ?_⟩
  · show (cz c.1 j (o.dj p q fs)).length = (dq c.2 j fs.length).length + 1
    rw [xB, G2 DU, hs.length_eq]; omega
  · rw [← h.head]; exact Wj (fun e => by rw [e] at af; simp at af)
  · rw [← h.last]; exact Wk af
  · rcases Mq hv with hv | hv
    · exact h.hot v hv
    · exact (aw v (hs.mem_iff.1 hv)).1
  · show 1 ≤ d ∧ d ≤ ((dq c.2 j fs.length).length : Int)
    obtain ⟨e, he, mo⟩ := Wg DU hd;have := h.deep e he;rw [G2 DU]; omega
theorem Hl {f : α → Bool} {l : List α} {n : Nat} {x : α} (h : l[n]? = some x) : (l.take (n + 1)).filter f = if f x = true then (l.take n).filter f ++ [x] else (l.take n).filter f := by
  obtain ⟨ap, e⟩ := bP.1 h;rw [nO ap, e, List.filter_append];cases aa : f x with
  | true => rw [if_pos rfl, List.filter_cons_of_pos aa]; rfl
  | false => rw [if_neg (by decide), List.filter_cons_of_neg (by rw [aa]; decide)]; exact qz _
theorem afH {o : bN α} {ok : Nat → List α × List Int → Prop} (ae : gT o ok) {s : aN α} (ab : gK o s) (h : Inv2 o ok s) : hB o ok (tr o s) ∧ eU o (tr o s) < eU o s := by
  obtain ⟨c, p, q, ak, hp, an, aw⟩ := h.link;have ee := h.T;have aa : s.hot[s.T]? = some s.hot[s.T] := cj ee;generalize s.hot[s.T] = x at aa;have wj : eU o s = (o.R - s.hot.length) * ec o + (2 * (o.n * o.R) - ox s - (aQ s.ch).length) * o.R + (s.hot.length - s.T) + o.n * o.R * (o.n * o.R) := by simp only [eU, h.ph]
  have vV := h.laid.gq s.I c ak;have af : s.J + 1 < c.1.length := (bP.1 an).1;have hm := h.laid.many ae ab
  have H4 : jZ o p q x s.fnd = (s.hot.take (s.T + 1)).filter (fF o p q) := by
    unfold jZ;rw [Hl aa, aw]
  obtain ⟨agF, abN⟩ := X8 ak;have bp : s.I < s.ch.length := (bP.1 ak).1
  have aid : (aQ s.ch).length = (aQ (s.ch.take s.I)).length + ((c.1.length - 1) + (aQ (s.ch.drop (s.I + 1))).length) := by
    conv => lhs; rw [agF]
    rw [EB, yf, cX, cX, uJ]
  have It : ox s = (aQ (s.ch.take s.I)).length + s.J := rfl;have mr := ab.room;rw [wj];unfold tr;rw [ak];show hB o ok (match c.1[s.J]?, c.1[s.J + 1]?, s.hot[s.T]? with | some p, some q, some x => pe o s c p q (jZ o p q x s.fnd) | _, _, _ => s) ∧ eU o (match c.1[s.J]?, c.1[s.J + 1]?, s.hot[s.T]? with | some p, some q, some x => pe o s c p q (jZ o p q x s.fnd) | _, _, _ => s) < _;rw [hp, an, aa];show hB o ok (pe o s c p q (jZ o p q x s.fnd)) ∧ eU o (pe o s c p q (jZ o p q x s.fnd)) < _;rw [H4];unfold pe
  by_cases bh : s.T + 1 < s.hot.length
  · rw [if_pos bh]
    refine ⟨⟨⟨ab.nd, ab.room, ab.fW⟩, .inr (.inr (.inl ⟨h.ph, h.dirty, ⟨h.laid.len, h.laid.gq⟩, ⟨c, p, q, ak, hp, an, rfl⟩, bh, h.zc⟩))⟩, ?_⟩;unfold eU;show (match s.ph with | 0 => _ | 1 => _ | 2 => (o.R - s.hot.length) * ec o + (2 * (o.n * o.R) - ox s - (aQ s.ch).length) * o.R + (s.hot.length - (s.T + 1)) + o.n * o.R * (o.n * o.R) | 3 => _ | _ => _) < _;rw [h.ph];show (o.R - s.hot.length) * ec o + (2 * (o.n * o.R) - ox s - (aQ s.ch).length) * o.R + (s.hot.length - (s.T + 1)) + o.n * o.R * (o.n * o.R) < _;omega
  · rw [if_neg bh]
    have YF : s.T + 1 = s.hot.length := by omega
    rw [YF, List.take_length]
    by_cases he : s.hot.filter (fF o p q) = []
    · rw [if_pos he]
      have jn : nv o s.hot p q := fun y ag => by
        cases ax : fF o p q y with
        | false => rfl
        | true => have := tg.2 ⟨ag, ax⟩; rw [he] at this; cases this
      have key := Kg (s := { s with T := 0, fnd := [], J := s.J + 1 }) ae ⟨ab.nd, ab.room, ab.fW⟩ ⟨h.laid.len, h.laid.gq⟩ h.ph h.dirty rfl rfl (show 0 < s.hot.length by omega) ?_ ?_
      · refine ⟨key.1, Nat.lt_of_le_of_lt key.2 ?_⟩
        show (o.R - s.hot.length) * ec o + (2 * (o.n * o.R) - ((aQ (s.ch.take s.I)).length + (s.J + 1)) - (aQ s.ch).length) * o.R + s.hot.length + o.n * o.R * (o.n * o.R) < _;rw [It];have := kC o.R (show 2 * (o.n * o.R) - ((aQ (s.ch.take s.I)).length + (s.J + 1)) - (aQ s.ch).length + 1 ≤ 2 * (o.n * o.R) - ((aQ (s.ch.take s.I)).length + s.J) - (aQ s.ch).length by omega);rw [kB, Nat.one_mul] at this;omega
      · intro i d j dA bT hi mW og fI
        have fI : i < s.I ∨ (i = s.I ∧ j < s.J + 1) := fI
        by_cases Ii : i = s.I ∧ j = s.J
        · obtain ⟨rfl, rfl⟩ := Ii
          have e : some c = some d := by rw [← ak]; exact hi
          cases e;have e : some p = some dA := by rw [← hp]; exact mW
          cases e;have e : some q = some bT := by rw [← an]; exact og
          cases e;exact jn
        · exact h.zc i d j dA bT hi mW og (by omega)
      · intro d hd
        have e : some c = some d := by rw [← ak]; exact hd
        cases e;rw [uJ];show s.J + 1 ≤ _;omega
    · rw [if_neg he]
      have hJ : (s.hot.filter (fF o p q)).Nodup := ab.nd.filter _;have hcut := vV.cut ae hp an hJ (fun y ag => ⟨(tg.1 ag).1, (tg.1 ag).2⟩) he;have hlen := (ae.dj p q (s.hot.filter (fF o p q))).length_eq;have aja : 0 < (s.hot.filter (fF o p q)).length := List.length_pos_iff.2 he;generalize s.hot.filter (fF o p q) = fs at *
      have jm : ∀ i, (s.ch.set s.I (cz c.1 s.J (o.dj p q fs), dq c.2 s.J fs.length))[i]? = if i = s.I then some (cz c.1 s.J (o.dj p q fs), dq c.2 s.J fs.length) else s.ch[i]? := fun i => by
        by_cases hi : i = s.I
        · rw [if_pos hi, hi, List.getElem?_set_self bp]
        · rw [if_neg hi, List.getElem?_set_ne (Ne.symm hi)]
      have NX : kp o ok ({ s with T := 0, fnd := [], ch := s.ch.set s.I (cz c.1 s.J (o.dj p q fs), dq c.2 s.J fs.length) } : aN α) := ⟨by show (s.ch.set s.I _).length = o.n; rw [List.length_set]; exact h.laid.len, fun i d hd => by
        have hd : (s.ch.set s.I (cz c.1 s.J (o.dj p q fs), dq c.2 s.J fs.length))[i]? = some d := hd;rw [jm] at hd
        split at hd
        · rename_i hi
          cases hd;rw [hi]; exact hcut
        · exact h.laid.gq i d hd⟩
      have cV : gK o ({ s with T := 0, fnd := [], ch := s.ch.set s.I (cz c.1 s.J (o.dj p q fs), dq c.2 s.J fs.length) } : aN α) := ⟨ab.nd, ab.room, ab.fW⟩;have gv : (aQ (s.ch.set s.I (cz c.1 s.J (o.dj p q fs), dq c.2 s.J fs.length))).length ≤ o.n * o.R := NX.many ae cV;obtain ⟨y, ag⟩ := Wl (l := o.dj p q fs) af;have mW : (cz c.1 s.J (o.dj p q fs))[s.J]? = some p := by rw [Mp (by omega) (by omega)]; exact hp
      refine ⟨⟨cV, .inr (.inr (.inl ⟨h.ph, h.dirty, NX, ⟨(cz c.1 s.J (o.dj p q fs), dq c.2 s.J fs.length), p, y, ?_, mW, ag, rfl⟩, show 0 < s.hot.length by omega, ?_⟩))⟩, ?_⟩
      · show (s.ch.set s.I (cz c.1 s.J (o.dj p q fs), dq c.2 s.J fs.length))[s.I]? = _
        rw [jm, if_pos rfl]
      · intro i d j dA bT hi mW og fI
        have hi : (s.ch.set s.I (cz c.1 s.J (o.dj p q fs), dq c.2 s.J fs.length))[i]? = some d := hi;have fI : i < s.I ∨ (i = s.I ∧ j < s.J) := fI;rw [jm] at hi
        split at hi
        · rename_i gi
          cases hi;rw [Mp (by omega) (by omega)] at mW og;exact h.zc i c j dA bT (by rw [gi]; exact ak) mW og fI
        · exact h.zc i d j dA bT hi mW og fI
      · have M0 : s.ch.set s.I (cz c.1 s.J (o.dj p q fs), dq c.2 s.J fs.length) = s.ch.take s.I ++ (cz c.1 s.J (o.dj p q fs), dq c.2 s.J fs.length) :: s.ch.drop (s.I + 1) := List.set_eq_take_append_cons_drop.trans (if_pos bp)
        have aie : (aQ (s.ch.set s.I (cz c.1 s.J (o.dj p q fs), dq c.2 s.J fs.length))).length = (aQ (s.ch.take s.I)).length + ((c.1.length + fs.length - 1) + (aQ (s.ch.drop (s.I + 1))).length) := by
          rw [M0, EB, yf, cX, cX, uJ, xB, hlen]
        have sw : ox ({ s with T := 0, fnd := [], ch := s.ch.set s.I (cz c.1 s.J (o.dj p q fs), dq c.2 s.J fs.length) } : aN α) = (aQ (s.ch.take s.I)).length + s.J := by
          show (aQ ((s.ch.set s.I (cz c.1 s.J (o.dj p q fs), dq c.2 s.J fs.length)).take s.I)).length + s.J = _;rw [M0, List.take_left' abN]
        unfold eU;rw [sw];show (match s.ph with | 0 => _ | 1 => _ | 2 => (o.R - s.hot.length) * ec o + (2 * (o.n * o.R) - ((aQ (s.ch.take s.I)).length + s.J) - (aQ (s.ch.set s.I (cz c.1 s.J (o.dj p q fs), dq c.2 s.J fs.length))).length) * o.R + (s.hot.length - 0) + o.n * o.R * (o.n * o.R) | 3 => _ | _ => _) < _;rw [h.ph];show (o.R - s.hot.length) * ec o + (2 * (o.n * o.R) - ((aQ (s.ch.take s.I)).length + s.J) - (aQ (s.ch.set s.I (cz c.1 s.J (o.dj p q fs), dq c.2 s.J fs.length))).length) * o.R + (s.hot.length - 0) + o.n * o.R * (o.n * o.R) < _;rw [It];generalize (aQ (s.ch.set s.I (cz c.1 s.J (o.dj p q fs), dq c.2 s.J fs.length))).length = L' at *;have := kC o.R (show 2 * (o.n * o.R) - ((aQ (s.ch.take s.I)).length + s.J) - L' + 1 ≤ 2 * (o.n * o.R) - ((aQ (s.ch.take s.I)).length + s.J) - (aQ s.ch).length by omega);rw [kB, Nat.one_mul] at this;omega
theorem Ez {o : bN α} {ok : Nat → List α × List Int → Prop} (ae : gT o ok) {s : aN α} (ap : kp o ok s) {l : α × α} (h : l ∈ aQ s.ch) : l.1 ≠ l.2 ∧ l.1 ∈ s.hot ∧ l.2 ∈ s.hot := by
  obtain ⟨i, c, j, hi, h1, h2⟩ := Jc h;have vV := ap.gq i c hi;have aD := ae.nodup _ _ vV.hk;refine ⟨fun e => ?_, vV.hot _ (dL h1), vV.hot _ (dL h2)⟩;obtain ⟨g1, bC⟩ := bP.1 h1;obtain ⟨g2, cd⟩ := bP.1 h2;exact (List.pairwise_iff_getElem.1 aD) j (j + 1) g1 g2 (by omega) (by rw [bC, cd]; exact e)
theorem Ms {o : bN α} {ok : Nat → List α × List Int → Prop} (ae : gT o ok) {s : aN α} (ab : gK o s) (ap : kp o ok s) {i j : Nat} {a b : α × α} (aI : (aQ s.ch)[i]? = some a) (cV : (aQ s.ch)[j]? = some b) {x : α} (ak : o.cut a b = some x) : o.hk x := by
  obtain ⟨_, a2, a3⟩ := Ez ae ap (dL aI);obtain ⟨_, b2, ey⟩ := Ez ae ap (dL cV);exact ae.Nn a.1 a.2 b.1 b.2 x (ab.fW _ a2) (ab.fW _ a3) (ab.fW _ b2) (ab.fW _ ey) ak
theorem ZN {o : bN α} {ok : Nat → List α × List Int → Prop} (ae : gT o ok) {s : aN α} (ab : gK o s) (h : Cj o ok s) {a b : α × α} (aI : (aQ s.ch)[s.I]? = some a) (cV : (aQ s.ch)[s.J]? = some b) :
    (dE o s (o.cut a b) = eI s 5 0 0 ∧ s.hot.length = o.R) ∨ (o.cut a b = none ∧ dE o s (o.cut a b) = s) ∨
    ∃ hot', dE o s (o.cut a b) = { s with hot := hot', dirty := true } ∧ gK o ({ s with hot := hot', dirty := true } : aN α) ∧ (∀ x ∈ s.hot, x ∈ hot') ∧ s.hot.length ≤ hot'.length ∧ (s.dirty = false → hot'.length = s.hot.length + 1) := by
  cases hcut : o.cut a b with
  | none => exact .inr (.inl ⟨rfl, rfl⟩)
  | some x =>
    unfold dE;rcases DR o ab x (Ms ae ab h.laid aI cV hcut) with ⟨aG, f1⟩ | ⟨h2, aG, b2, m2, s2, l2, fC, _⟩
    · left
      show (if (dt o s x).ph = 5 then dt o s x else { dt o s x with dirty := true }) = _ ∧ _;rw [aG, if_pos (show (eI s 5 0 0).ph = 5 from rfl)];exact ⟨rfl, f1⟩
    · refine .inr (.inr ⟨h2, ?_, ⟨b2.nd, b2.room, b2.fW⟩, s2, l2, fun hd => fC ?_⟩)
      · show (if (dt o s x).ph = 5 then dt o s x else { dt o s x with dirty := true }) = _
        rw [aG, if_neg (show ({ s with hot := h2 } : aN α).ph ≠ 5 by show s.ph ≠ 5; rw [h.ph]; decide)]
      · have hs := (h.clean hd).1
        have key : ∀ l, l ∈ aQ s.ch → l.1 ≠ l.2 ∧ l.1 ∈ s.hot ∧ l.2 ∈ s.hot ∧ nv o s.hot l.1 l.2 := fun l ap => by
          obtain ⟨cH, cC, im⟩ := Ez ae h.laid ap;exact ⟨cH, cC, im, hs l ap⟩
        obtain ⟨a1, a2, a3, a4⟩ := key a (dL aI);obtain ⟨b1, b2, ey, dQ⟩ := key b (dL cV);exact ae.cut s.hot a.1 a.2 b.1 b.2 x ab.fW a1 b1 a2 a3 b2 ey a4 dQ hcut
theorem kp.mono {o : bN α} {ok : Nat → List α × List Int → Prop} {s t : aN α} (h : kp o ok s) (ak : t.ch = s.ch) (aW : ∀ x ∈ s.hot, x ∈ t.hot) : kp o ok t :=
  ⟨by rw [ak]; exact h.len, fun i c hi => by
    have := h.gq i c (by rw [← ak]; exact hi);exact ⟨this.hk, this.len, this.head, this.last, fun v hv => aW v (this.hot v hv), this.deep⟩⟩
theorem acm {o : bN α} {ok : Nat → List α × List Int → Prop} (ae : gT o ok) {s : aN α} (ab : gK o s) (h : Cj o ok s) : hB o ok (pf o s) ∧ eU o (pf o s) < eU o s := by
  have gX := h.vi;have fA := h.J;have mr := ab.room;have hm := h.laid.many ae ab;obtain ⟨fT, fC⟩ := Qq gX fA;have wj : eU o s = (o.R - s.hot.length) * ec o + (if s.dirty = true then ec o else 0) + (((aQ s.ch).length - s.I) * (aQ s.ch).length - s.J) := by simp only [eU, h.ph]
  have aI : (aQ s.ch)[s.I]? = some (aQ s.ch)[s.I] := cj (by omega);have cV : (aQ s.ch)[s.J]? = some (aQ s.ch)[s.J] := cj fA;generalize (aQ s.ch)[s.I] = a at aI;generalize (aQ s.ch)[s.J] = b at cV
  have ai8 : 0 < s.hot.length := by
    obtain ⟨i, c, j, hi, h1, h2⟩ := Jc (dL aI);exact List.length_pos_of_mem ((h.laid.gq i c hi).hot _ (dL h1))
  rw [wj];unfold pf;rw [aI, cV];show hB o ok (if (dE o s (o.cut a b)).ph = 5 then dE o s (o.cut a b) else if (bB (aQ s.ch).length s.I s.J).2 < (aQ s.ch).length then { dE o s (o.cut a b) with I := (bB (aQ s.ch).length s.I s.J).1, J := (bB (aQ s.ch).length s.I s.J).2 } else l6 (dE o s (o.cut a b))) ∧ eU o (if (dE o s (o.cut a b)).ph = 5 then dE o s (o.cut a b) else if (bB (aQ s.ch).length s.I s.J).2 < (aQ s.ch).length then { dE o s (o.cut a b) with I := (bB (aQ s.ch).length s.I s.J).1, J := (bB (aQ s.ch).length s.I s.J).2 } else l6 (dE o s (o.cut a b))) < _
 
  have main : ∀ hot', gK o ({ s with hot := hot', dirty := true } : aN α) → (∀ x ∈ s.hot, x ∈ hot') → s.hot.length ≤ hot'.length → (s.dirty = false → hot'.length = s.hot.length + 1) →
      hB o ok (if ({ s with hot := hot', dirty := true } : aN α).ph = 5 then ({ s with hot := hot', dirty := true } : aN α) else if (bB (aQ s.ch).length s.I s.J).2 < (aQ s.ch).length then { ({ s with hot := hot', dirty := true } : aN α) with I := (bB (aQ s.ch).length s.I s.J).1, J := (bB (aQ s.ch).length s.I s.J).2 } else l6 ({ s with hot := hot', dirty := true } : aN α)) ∧ eU o (if ({ s with hot := hot', dirty := true } : aN α).ph = 5 then ({ s with hot := hot', dirty := true } : aN α) else if (bB (aQ s.ch).length s.I s.J).2 < (aQ s.ch).length then { ({ s with hot := hot', dirty := true } : aN α) with I := (bB (aQ s.ch).length s.I s.J).1, J := (bB (aQ s.ch).length s.I s.J).2 } else l6 ({ s with hot := hot', dirty := true } : aN α)) < (o.R - s.hot.length) * ec o + (if s.dirty = true then ec o else 0) + (((aQ s.ch).length - s.I) * (aQ s.ch).length - s.J) := fun hot' b2 s2 l2 d2 => by
    have ap : kp o ok ({ s with hot := hot', dirty := true } : aN α) := h.laid.mono rfl s2;have cJ : hot'.length ≤ o.R := b2.room
    have aiV : (o.R - hot'.length) * ec o + ec o ≤ (o.R - s.hot.length) * ec o + (if s.dirty = true then ec o else 0) := by
      cases hd : s.dirty with
      | true =>
        rw [if_pos rfl];have := kC (ec o) (show o.R - hot'.length ≤ o.R - s.hot.length by omega);omega
      | false =>
        rw [if_neg (by decide)];have := d2 hd;have := kC (ec o) (show o.R - hot'.length + 1 ≤ o.R - s.hot.length by omega);rw [kB, Nat.one_mul] at this;omega
    rw [if_neg (show ({ s with hot := hot', dirty := true } : aN α).ph ≠ 5 by show s.ph ≠ 5; rw [h.ph]; decide)]
    split
    · rename_i bh
      obtain ⟨s5, s6⟩ := fC bh;refine ⟨⟨⟨b2.nd, b2.room, b2.fW⟩, .inr (.inr (.inr (.inl ⟨h.ph, ⟨ap.len, ap.gq⟩, s5, bh, h.T, h.fnd, fun hd => by cases hd⟩)))⟩, ?_⟩;unfold eU;show (match s.ph with | 0 => _ | 1 => _ | 2 => _ | 3 => (o.R - hot'.length) * ec o + (if true = true then ec o else 0) + (((aQ s.ch).length - (bB (aQ s.ch).length s.I s.J).1) * (aQ s.ch).length - (bB (aQ s.ch).length s.I s.J).2) | _ => _) < _;rw [h.ph];show (o.R - hot'.length) * ec o + (if true = true then ec o else 0) + (((aQ s.ch).length - (bB (aQ s.ch).length s.I s.J).1) * (aQ s.ch).length - (bB (aQ s.ch).length s.I s.J).2) < _;rw [if_pos rfl];omega
    · unfold l6
      rw [if_pos rfl]
      have key := Kg (s := eI ({ s with hot := hot', dirty := false } : aN α) 2 0 0) ae ⟨b2.nd, b2.room, b2.fW⟩ (ap.mono rfl fun x aa => aa) rfl rfl rfl rfl (show 0 < hot'.length by omega) (fun i c j p q _ _ _ fI => by
        have : i < 0 ∨ (i = 0 ∧ j < 0) := fI;omega) (fun c _ => eF _)
      refine ⟨key.1, Nat.lt_of_le_of_lt key.2 ?_⟩;show (o.R - hot'.length) * ec o + (2 * (o.n * o.R) - (0 + 0) - (aQ s.ch).length) * o.R + hot'.length + o.n * o.R * (o.n * o.R) < _;have aM : ec o = 2 * (o.n * o.R) * o.R + o.n * o.R * (o.n * o.R) + 1 := rfl;have := kC o.R (show 2 * (o.n * o.R) - (0 + 0) - (aQ s.ch).length + 1 ≤ 2 * (o.n * o.R) by omega);rw [kB, Nat.one_mul] at this;omega
  rcases ZN ae ab h aI cV with ⟨aG, f1⟩ | ⟨G8, aG⟩ | ⟨hot', aG, b2, s2, l2, d2⟩
  · rw [aG, if_pos (show (eI s 5 0 0).ph = 5 from rfl)]
    have := El (ok := ok) ab f1 (.inr h.laid);exact ⟨this.1, by rw [this.2]; omega⟩
  · cases hd : s.dirty with
    | true =>
      have es : ({ s with hot := s.hot, dirty := true } : aN α) = s := by cases s; cases hd; rfl
      rw [aG];have := main s.hot (by rw [es]; exact ab) (fun x aa => aa) (eb _) (fun aW => by rw [hd] at aW; cases aW);rw [es, hd] at this;exact this
    | false =>
      rw [aG, if_neg (show ¬ s.ph = 5 by rw [h.ph]; decide), if_neg (show ¬ (false = true) by decide)];obtain ⟨c1, c2⟩ := h.clean hd
      have N4 : ∀ x y l m, (aQ s.ch)[x]? = some l → (aQ s.ch)[y]? = some m → ((x < s.I ∨ (x = s.I ∧ y < s.J)) ∨ (x = s.I ∧ y = s.J)) → x < y → o.cut l m = none := fun x y l m aa ag aW lv => by
        rcases aW with aW | ⟨rfl, rfl⟩
        · exact c2 x y l m aa ag lv aW
        · rw [aI] at aa; rw [cV] at ag
          cases aa; cases ag;exact G8
      by_cases bh : (bB (aQ s.ch).length s.I s.J).2 < (aQ s.ch).length
      · rw [if_pos bh]
        obtain ⟨s5, s6⟩ := fC bh;refine ⟨⟨⟨ab.nd, ab.room, ab.fW⟩, .inr (.inr (.inr (.inl ⟨h.ph, ⟨h.laid.len, h.laid.gq⟩, s5, bh, h.T, h.fnd, fun _ => ⟨c1, fun x y l m aa ag lv aW => N4 x y l m aa ag (adb gX fA lv (bP.1 ag).1 aW) lv⟩⟩)))⟩, ?_⟩;unfold eU;show (match s.ph with | 0 => _ | 1 => _ | 2 => _ | 3 => (o.R - s.hot.length) * ec o + (if s.dirty = true then ec o else 0) + (((aQ s.ch).length - (bB (aQ s.ch).length s.I s.J).1) * (aQ s.ch).length - (bB (aQ s.ch).length s.I s.J).2) | _ => _) < _;rw [h.ph];show (o.R - s.hot.length) * ec o + (if s.dirty = true then ec o else 0) + (((aQ s.ch).length - (bB (aQ s.ch).length s.I s.J).1) * (aQ s.ch).length - (bB (aQ s.ch).length s.I s.J).2) < _;rw [hd, if_neg (by decide)];omega
      · rw [if_neg bh]
        unfold l6;rw [if_neg (show ¬ s.dirty = true by rw [hd]; decide)];refine ⟨⟨⟨ab.nd, ab.room, ab.fW⟩, .inr (.inr (.inr (.inr (.inl ⟨rfl, hd, ⟨h.laid.len, h.laid.gq⟩, rfl, rfl, rfl, rfl, c1, fun x y l m aa ag lv _ => ?_⟩))))⟩, ?_⟩
        · exact N4 x y l m aa ag (ade gX fA bh lv (bP.1 ag).1) lv
        · show 0 < _
          omega
  · rw [aG]
    exact main hot' b2 s2 l2 d2
theorem wW {o : bN α} {ok : Nat → List α × List Int → Prop} (ae : gT o ok) {s : aN α} (h : hB o ok s) : hB o ok (dV o s) ∧ (s.ph < 4 → eU o (dV o s) < eU o s) ∧ (4 ≤ s.ph → dV o s = s) := by
  obtain ⟨ab, aJ | h1 | h2 | ao | aH | cM⟩ := h
  · have e : dV o s = qb o s := by simp only [dV, aJ.ph]
    have := Xb ae ab aJ;rw [e]; exact ⟨this.1, fun _ => this.2, fun aW => by rw [aJ.ph] at aW; omega⟩
  · have e : dV o s = qy o s := by simp only [dV, h1.ph]
    have := aeF ae ab h1;rw [e]; exact ⟨this.1, fun _ => this.2, fun aW => by rw [h1.ph] at aW; omega⟩
  · have e : dV o s = tr o s := by simp only [dV, h2.ph]
    have := afH ae ab h2;rw [e]; exact ⟨this.1, fun _ => this.2, fun aW => by rw [h2.ph] at aW; omega⟩
  · have e : dV o s = pf o s := by simp only [dV, ao.ph]
    have := acm ae ab ao;rw [e]; exact ⟨this.1, fun _ => this.2, fun aW => by rw [ao.ph] at aW; omega⟩
  · have e : dV o s = s := by simp only [dV, aH.ph]
    rw [e]; exact ⟨⟨ab, .inr (.inr (.inr (.inr (.inl aH))))⟩, fun aW => by rw [aH.ph] at aW; omega, fun _ => rfl⟩
  · have e : dV o s = s := by simp only [dV, cM.ph]
    rw [e]; exact ⟨⟨ab, .inr (.inr (.inr (.inr (.inr cM))))⟩, fun aW => by rw [cM.ph] at aW; omega, fun _ => rfl⟩
def iQ (o : bN α) : Nat → aN α → aN α
  | 0, s => s
  | n + 1, s => iQ o n (dV o s)
theorem yc {o : bN α} {ok : Nat → List α × List Int → Prop} (ae : gT o ok) : ∀ (n : Nat) {s : aN α}, hB o ok s → hB o ok (iQ o n s) ∧ (eU o s ≤ n → 4 ≤ (iQ o n s).ph)
  | 0, s, h => ⟨h, fun aD => by
    refine Nat.not_lt.1 fun bh => ?_;have := (wW ae h).2.1 bh;show False;have aD : eU o s ≤ 0 := aD;omega⟩
  | n + 1, s, h => by
    obtain ⟨h1, h2, ao⟩ := wW ae h;obtain ⟨g1, g2⟩ := yc ae n h1;refine ⟨g1, fun aD => ?_⟩
    by_cases bh : s.ph < 4
    · exact g2 (by have := h2 bh; omega)
    · have e := ao (by omega)
      show 4 ≤ (iQ o n (dV o s)).ph;rw [e]
      have key : ∀ m, iQ o m s = s := fun m => by
        induction m with
        | zero => rfl
        | succ m bW => show iQ o m (dV o s) = s; rw [e]; exact bW
      rw [key]; omega
def eY (o : bN α) : aN α := ⟨if o.n = 0 then 4 else 0, 0, 0, 0, false, [], [], []⟩
theorem pk (o : bN α) (ok : Nat → List α × List Int → Prop) : hB o ok (eY o) := by
  refine ⟨⟨List.nodup_nil, eF _, fun x aa => absurd aa rH⟩, ?_⟩
  by_cases h : o.n = 0
  · refine .inr (.inr (.inr (.inr (.inl ⟨by simp [eY, h], rfl, ⟨h.symm, fun i c hi => by simp [eY] at hi⟩, rfl, rfl, rfl, rfl, (fun l ap => by cases ap), (fun a b l m aI => by simp [eY, aQ] at aI)⟩))))
  · exact .inl ⟨by simp [eY, h], rfl, rfl, rfl, show 0 < o.n by omega, rfl, rfl, fun i hi => by cases hi⟩
theorem acS (o : bN α) (ay : 0 < o.R) : eU o (eY o) ≤ 8 * (o.R + 2) * ((o.n * o.R + 1) * (o.n * o.R + 1)) := by
  by_cases h : o.n = 0
  · have : eU o (eY o) = 0 := by simp [eU, eY, h]
    rw [this]; exact eF _
  · have e : eU o (eY o) = (o.n - 0) + o.n * o.n + (o.R + 1) * ec o := by simp [eU, eY, h]
    rw [e];have h1 : o.n ≤ o.n * o.R := Nat.le_mul_of_pos_right _ ay;have h2 : o.R ≤ o.n * o.R := Nat.le_mul_of_pos_left _ (by omega);have ao := Nat.mul_le_mul h1 h1;unfold ec;generalize o.n * o.R = N at *;have aH : 2 * N * o.R ≤ 2 * (N * N) := by rw [Nat.mul_assoc]; exact Nat.mul_le_mul_left 2 (Nat.mul_le_mul_left N h2)
    have cM : (o.R + 1) * (2 * N * o.R + N * N + 1) ≤ (o.R + 2) * (3 * (N * N) + 1) := Nat.mul_le_mul (by omega) (by omega);have cD : (N + 1) * (N + 1) = N * N + 2 * N + 1 := by grind
    have fQ : (o.R + 2) * (3 * (N * N) + 1) ≤ (o.R + 2) * (3 * ((N + 1) * (N + 1))) := Nat.mul_le_mul_left _ (by rw [cD]; omega);have eR : 8 * (o.R + 2) * ((N + 1) * (N + 1)) = (o.R + 2) * (3 * ((N + 1) * (N + 1))) + 5 * ((o.R + 2) * ((N + 1) * (N + 1))) := by grind
    have j0 : (N + 1) * (N + 1) ≤ (o.R + 2) * ((N + 1) * (N + 1)) := Nat.le_mul_of_pos_left _ (by omega);rw [eR];omega
end Go.Proofs.YtpochbhajmbfdaaGreat.bt
namespace Go.Proofs.YtpochbhajmbfdaaGreat.bt
variable {α : Type} [DecidableEq α]
def ss (N : Int → Rat → α → Prop) : Rat → List α → List Int → Prop
 | t, p :: q :: V, d :: D => ∃ oG, t ≤ oG ∧ oG ≤ 1 ∧ N d t p ∧ N d oG q ∧ ss N oG (q :: V) D
 | _, _, _ => True
def CZ (N : Int → Rat → α → Prop) (d : Int) (t2 : Rat) : Rat → List α → Prop
 | t1, [] => t1 ≤ t2
 | t1, x :: l => ∃ t, t1 ≤ t ∧ t ≤ t2 ∧ N d t x ∧ CZ N d t2 t l
theorem Mi {N : Int → Rat → α → Prop} {d : Int} {t2 : Rat} {q : α} {V : List α} {D : List Int} (h1 : t2 ≤ 1) (an : N d t2 q) (qh : ss N t2 (q :: V) D) : ∀ (l : List α) (t1 : Rat) (p : α), N d t1 p → CZ N d t2 t1 l → ss N t1 (p :: (l ++ q :: V)) (List.replicate (l.length + 1) d ++ D)
 | [], t1, p, hp, ab => ⟨t2, ab, h1, hp, an, qh⟩
 | x :: l, t1, p, hp, ⟨t, g1, g2, g3, g4⟩ => by
  have bW := Mi h1 an qh l t x g3 g4;exact ⟨t, g1, Rat.le_trans g2 h1, hp, g3, bW⟩
theorem Mh {N : Int → Rat → α → Prop} (kS : ∀ d t x, N d t x → N (d + 1) t x) {l : List α} {p q : α} (ap : ∀ d t1 t2, t1 ≤ t2 → t2 ≤ 1 → N d t1 p → N d t2 q → CZ N (d + 1) t2 t1 l) : ∀ (V : List α) (D : List Int) (j : Nat) (t : Rat), V.length = D.length + 1 → V[j]? = some p → V[j + 1]? = some q → ss N t V D → ss N t (cz V j l) (dq D j l.length)
 | [], D, j, t, _, h, _, _ => by simp at h
 | [_], D, j, t, _, _, h, _ => by simp at h
 | _ :: _ :: _, [], j, t, h, _, _, _ => by simp at h
 | a :: b :: V, d :: D, 0, t, hlen, hp, an, ⟨oG, h1, h2, ao, aH, cM⟩ => by
  simp only [oB, gE] at hp;simp only [rI, oB, gE] at an;subst hp; subst an;have aG : cz (a :: b :: V) 0 l = a :: (l ++ b :: V) := by unfold cz; simp
  have aM : dq (d :: D) 0 l.length = List.replicate (l.length + 1) (d + 1) ++ D := by unfold dq; simp
  rw [aG, aM];exact Mi h2 (kS _ _ _ aH) cM l t a (kS _ _ _ ao) (ap d t oG h1 h2 ao aH)
 | a :: b :: V, d :: D, j + 1, t, hlen, hp, an, ⟨oG, h1, h2, ao, aH, cM⟩ => by
  have bW := Mh kS ap (b :: V) D j oG (by simp at hlen ⊢; omega) hp an cM;have aG : cz (a :: b :: V) (j + 1) l = a :: cz (b :: V) j l := by unfold cz; simp
  have aM : dq (d :: D) (j + 1) l.length = d :: dq D j l.length := by unfold dq; simp
  rw [aG, aM];have cD : cz (b :: V) j l = b :: (V.take j ++ l ++ V.drop j) := by unfold cz; simp
  rw [cD] at bW ⊢;exact ⟨oG, h1, h2, ao, aH, bW⟩
end Go.Proofs.YtpochbhajmbfdaaGreat.bt
namespace Go.Proofs.YtpochbhajmbfdaaGreat.bt
variable {α : Type} [DecidableEq α]
theorem MC {o : bN α} {ok : Nat → List α × List Int → Prop} (ae : gT o ok) {s : aN α} (ab : gK o s) (ap : kp o ok s) {c : List α × List Int} (ak : c ∈ s.ch) : c.1.length ≤ o.R ∧ ∀ d ∈ c.2, 1 ≤ d ∧ d + 1 ≤ o.R := by
 obtain ⟨i, hi⟩ := kA ak;have h := ap.gq i c hi;have h1 := lC (s9 (ae.nodup _ _ h.hk) h.hot) ab.room;refine ⟨h1, fun d hd => ?_⟩;have := h.deep d hd;have := h.len;omega
theorem MX {o : bN α} {ok : Nat → List α × List Int → Prop} {s : aN α} (h : hB o ok s) (aH : 4 ≤ s.ph) : Ck o ok s ∨ Cl o ok s := by
 obtain ⟨_, ar | ar | ar | ar | ar | ar⟩ := h
 ·have := ar.ph; omega
 ·have := ar.ph; omega
 ·have := ar.ph; omega
 ·have := ar.ph; omega
 ·exact .inl ar
 ·exact .inr ar
theorem V3 {N : Int → Rat → α → Prop} {p q : α} (hp : N 1 0 p) (an : N 1 1 q) : ss N 0 (fr p q).1 (fr p q).2 := by
 unfold fr
 split
 ·trivial
 ·exact ⟨1, by decide, Rat.le_refl, hp, an, trivial⟩
theorem Xa {o : bN α} {ok : Nat → List α × List Int → Prop} (ae : gT o ok) (ay : 0 < o.R) {n : Nat} (aD : 8 * (o.R + 2) * ((o.n * o.R + 1) * (o.n * o.R + 1)) ≤ n) : hB o ok (iQ o n (eY o)) ∧ (Ck o ok (iQ o n (eY o)) ∨ Cl o ok (iQ o n (eY o))) := by
 have h := yc ae n (pk o ok);exact ⟨h.1, MX h.1 (h.2 (lC (acS o ay) aD))⟩
end Go.Proofs.YtpochbhajmbfdaaGreat.bt
